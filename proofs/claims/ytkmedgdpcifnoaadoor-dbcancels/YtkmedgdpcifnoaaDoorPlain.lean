/- Of no program: rules as plain data, and what package db makes of them. -/
namespace Go.Proofs.YtkmedgdpcifnoaaDoor

abbrev Bs := List UInt8
/-- a rule -/
structure Ru where
  ts : List Bs
  ps : List Bs
  os : List Bs
  dbl : Bool
  pat : Bool
  ter : Bool
  sta : Bs
  rcp : List Bs
  has : Bool
  aga : Bs
  blt : Bool
def hasB (l : List Bs) (x : Bs) : Bool := l.any (· == x)
/-- .SUFFIXES -/
def sufN : Bs := [46, 83, 85, 70, 70, 73, 88, 69, 83]
def known : List Bs := [[46, 111, 117, 116], [46, 97], [46, 111], [46, 99], [46, 104]]
def sufS (l : List Bs) (r : Ru) : List Bs := if hasB r.ts sufN then (if r.ps.length = 0 then [] else l ++ r.ps) else l
/-- the suffixes that are in use -/
def sufP (plain : Bool) (rs : List Ru) : List Bs := rs.foldl sufS (if plain then [] else known)
def endS (e : List Bs) (s : Bs) : List Bs := if hasB e s then e else e ++ [s]
/-- each once -/
def endP (l : List Bs) : List Bs := l.foldl endS []
def begins (t s : Bs) : Bool := s.isPrefixOf t
/-- the two suffixes that a target is -/
def partP (all : List Bs) (t : Bs) : List Bs → Bs × Bs × Bool
  | [] => (t, [], hasB all t)
  | s :: r => if begins t s && hasB all (t.drop s.length) then (s, t.drop s.length, true) else partP all t r
def bareP (r : Ru) : Bool := r.ts.length == 1 && r.ps.length + r.os.length + r.aga.length == 0 && !r.dbl && r.has
def turnP (r : Ru) (x : Bs × Bs × Bool) : Ru := if x.2.2 then { r with ts := [37 :: x.2.1], ps := [37 :: x.1], pat := true } else r
/-- a rule as it is told -/
def toldP (e : List Bs) (r : Ru) : Ru := if bareP r then turnP r (partP e (r.ts.headD []) e) else r
def bltR (t p l : Bs) : Ru := ⟨[t], [p], [], false, true, false, [], [l], true, [], true⟩
def bltT : List (Bs × Bs × Bs) := [
  ([37, 46, 111], [37, 46, 99], [36, 40, 67, 67, 41, 32, 45, 99, 32, 36, 40, 67, 70, 76, 65, 71, 83, 41, 32, 45, 111, 32, 36, 64, 32, 36, 60]),
  ([37], [37, 46, 111], [36, 40, 67, 67, 41, 32, 36, 40, 76, 68, 70, 76, 65, 71, 83, 41, 32, 45, 111, 32, 36, 64, 32, 36, 94]),
  ([37], [37, 46, 99], [36, 40, 67, 67, 41, 32, 36, 40, 67, 70, 76, 65, 71, 83, 41, 32, 45, 111, 32, 36, 64, 32, 36, 60]),
  ([40, 37, 41], [37], [36, 40, 65, 82, 41, 32, 36, 40, 65, 82, 70, 76, 65, 71, 83, 41, 32, 36, 64, 32, 36, 60])]
def bltP : List Ru := bltT.map fun x => bltR x.1 x.2.1 x.2.2
def allP (plain : Bool) (rs : List Ru) : List Ru := rs.map (toldP (endP (sufP plain rs))) ++ (if plain then [] else bltP)

/- the places of names -/
abbrev Pf := Bs → Nat → List Nat
def noteS (at_ how : Nat) (f : Pf) (x : Bs) : Pf := fun y h => if y = x ∧ h = how ∧ ¬ (f x how).getLast? = some at_ then f x how ++ [at_] else f y h
def noteP (at_ how : Nat) (f : Pf) (l : List Bs) : Pf := l.foldl (noteS at_ how) f
def allN : List Bs := [[46, 83, 73, 76, 69, 78, 84], [46, 73, 71, 78, 79, 82, 69], [46, 80, 82, 69, 67, 73, 79, 85, 83], [46, 83, 69, 67, 79, 78, 68, 65, 82, 89]]
def oneN : List Bs := [[46, 80, 72, 79, 78, 89], sufN, [46, 68, 69, 70, 65, 85, 76, 84], [46, 73, 78, 84, 69, 82, 77, 69, 68, 73, 65, 84, 69], [46, 83, 69, 67, 79, 78, 68, 69, 88, 80, 65, 78, 83, 73, 79, 78], [46, 68, 69, 76, 69, 84, 69, 95, 79, 78, 95, 69, 82, 82, 79, 82], [46, 79, 78, 69, 83, 72, 69, 76, 76], [46, 78, 79, 84, 80, 65, 82, 65, 76, 76, 69, 76]]
def speA (x : Bs) : Bool := hasB allN x
def speI (x : Bs) : Bool := speA x || hasB oneN x
def entP (r t : Ru) (at_ : Nat) (f : Pf) : Pf :=
  let f1 := noteP at_ 0 f r.ts
  if t.pat then f1 else
    let f2 := noteP at_ 1 f1 t.ts
    if t.ts.any speI then f2 else noteP at_ 2 (noteP at_ 2 (noteP at_ 2 f2 t.ts) t.ps) t.os
/-- the places behind n rules -/
def plaP (rs al : List Ru) : Nat → Pf
  | 0 => fun _ _ => []
  | n + 1 => match rs[n]?, al[n]? with
    | some r, some t => entP r t n (plaP rs al n)
    | _, _ => plaP rs al n

/- the patterns that count -/
abbrev Lf := List Bs → List Bs → Option Nat
def lasS (f : Lf) (i : Nat) (r : Ru) : Lf := if r.pat then (fun a b => if a = r.ts ∧ b = r.ps then some i else f a b) else f
def lasP : Lf → Nat → List Ru → Lf
  | f, _, [] => f
  | f, i, r :: l => lasP (lasS f i r) (i + 1) l
def ownP (f : Lf) : Nat → List Ru → List Nat
  | _, [] => []
  | i, r :: l => (if r.pat && r.has && ((f r.ts r.ps).getD 0 == i) then [i] else []) ++ ownP f (i + 1) l
def behP (f : Lf) (n : Nat) : Nat → List Ru → List Nat
  | _, [] => []
  | i, r :: l => (if (f r.ts r.ps).isSome then [] else [n + i]) ++ behP f n (i + 1) l
def impP (own beh : List Ru) : List Nat := let f := lasP (fun _ _ => none) 0 own; ownP f 0 own ++ behP f own.length 0 beh
def exR : List Ru := [⟨[[46, 99, 46, 111]], [], [], false, false, false, [], [[120]], true, [], false⟩, ⟨[[46, 80, 72, 79, 78, 89]], [[97]], [], false, false, false, [], [], false, [], false⟩, ⟨[[97, 108, 108]], [[98]], [], false, false, false, [], [], false, [], false⟩]
theorem ex_all : (allP false exR).length = 7 := by decide
theorem ex_imp : impP ((allP false exR).take 3) ((allP false exR).drop 3) = [0, 4, 5, 6] := by decide
theorem ex_named : (plaP exR (allP false exR) 3 [97] 2, plaP exR (allP false exR) 3 [98] 2, plaP exR (allP false exR) 3 [46, 80, 72, 79, 78, 89] 0) = ([], [2], [1]) := by decide
end Go.Proofs.YtkmedgdpcifnoaaDoor
