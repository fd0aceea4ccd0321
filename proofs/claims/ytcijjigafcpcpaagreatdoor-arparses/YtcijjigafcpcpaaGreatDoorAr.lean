/- Archives as lists of bytes; members in memory. -/
import Derived.Test.YtcijjigafcpcpaaGreatDoorMem
import Derived.Lib.ItoaNum
namespace Go.Proofs.YtcijjigafcpcpaaGreatDoor
open Go.RowKit Go.Maps

theorem alloc_new (w : World) (o : Obj) : (w.alloc o).heap[w.heap.size]? = some o := by show (w.heap.push o)[w.heap.size]? = some o; simp
theorem size_alloc' (w : World) (o : Obj) : (w.alloc o).heap.size = w.heap.size + 1 := by simp
theorem mk_toList (p : Bs) : (mk p).toList = p := by rw [Lib.toList_data]
/-- a member as it is handed in -/
structure Mv where
  name : Bs
  date : Int
  dv : Value
  data : Bs
/-- a row of members in memory -/
structure MRow (w : World) (g o : Nat) (ms : List Mv) : Prop where
  lt : g < w.heap.size
  c0 : ∀ i m, ms[i]? = some m → w.cell? ⟨g, o + i * 3, none⟩ = some (.string (mk m.name))
  c1 : ∀ i m, ms[i]? = some m → w.cell? ⟨g, o + i * 3 + 1, none⟩ = some (.int .i64 m.date)
  c2 : ∀ i m, ms[i]? = some m → w.cell? ⟨g, o + i * 3 + 2, none⟩ = some m.dv
def Mems (w : World) (v : Value) (ms : List Mv) : Prop :=
  ((∃ a cap, v = .slice a 0 cap) ∧ ms = []) ∨ ∃ g o cap, v = .slice (some ⟨g, o, none⟩) ms.length cap ∧ ms.length ≤ cap ∧ MRow w g o ms ∧ ∀ m ∈ ms, Rds w m.dv m.data
theorem MRow.below {w w' : World} {g o : Nat} {ms : List Mv} (h : MRow w g o ms) (hb : Below w.heap.size w w') : MRow w' g o ms :=
  ⟨Nat.lt_of_lt_of_le h.lt hb.size, fun i n hi => (hb.cell (p := ⟨g, _, none⟩) h.lt).trans (h.c0 i n hi), fun i n hi => (hb.cell (p := ⟨g, _, none⟩) h.lt).trans (h.c1 i n hi),
    fun i n hi => (hb.cell (p := ⟨g, _, none⟩) h.lt).trans (h.c2 i n hi)⟩
theorem Mems.below {w w' : World} {v : Value} {ms : List Mv} (h : Mems w v ms) (hb : Below w.heap.size w w') : Mems w' v ms := by
  rcases h with ⟨⟨a, c, rfl⟩, rfl⟩ | ⟨g, o, cap, rfl, h0, h1, h2⟩
  · exact .inl ⟨⟨_, _, rfl⟩, rfl⟩
  · exact .inr ⟨g, o, cap, rfl, h0, h1.below hb, fun n hn => (h2 n hn).below hb⟩
theorem Mems.len {w : World} {v : Value} {ms : List Mv} (h : Mems w v ms) : ∃ a cap, v = .slice a ms.length cap := by
  rcases h with ⟨⟨a, c, rfl⟩, rfl⟩ | ⟨g, o, cap, rfl, _⟩
  · exact ⟨_, _, rfl⟩
  · exact ⟨_, _, rfl⟩

def evn (n : Nat) : Nat := n + n % 2
def lng (b : Bs) : Bool := decide (15 < b.length)
/-- bytes of a member's head and data -/
def wtD (m : Mv) : Nat := 60 + evn m.data.length
/-- bytes of a member's name in the table -/
def wtT (m : Mv) : Nat := if lng m.name then m.name.length + 2 else 0
def sumM (f : Mv → Nat) : List Mv → Nat
  | [] => 0
  | m :: r => f m + sumM f r
theorem sumM_append (f : Mv → Nat) (a b : List Mv) : sumM f (a ++ b) = sumM f a + sumM f b := by
  induction a with
  | nil => simp [sumM]
  | cons x r ih => simp only [List.cons_append, sumM, ih]; omega
theorem sumM_take (f : Mv → Nat) {ms : List Mv} {k : Nat} {m : Mv} (h : ms[k]? = some m) : sumM f (ms.take (k + 1)) = sumM f (ms.take k) + f m := by
  rw [List.take_add_one, h, sumM_append]
  simp [sumM]
theorem sumM_take_le (f : Mv → Nat) (ms : List Mv) (k : Nat) : sumM f (ms.take k) ≤ sumM f ms := by
  have := sumM_append f (ms.take k) (ms.drop k)
  rw [List.take_append_drop] at this
  omega
theorem sumM_mem (f : Mv → Nat) {ms : List Mv} {m : Mv} (h : m ∈ ms) : f m ≤ sumM f ms := by
  induction ms with
  | nil => cases h
  | cons x r ih =>
    rcases List.mem_cons.1 h with rfl | h
    · simp [sumM]
    · have := ih h; simp only [sumM]; omega
def lenA (ms : List Mv) : Nat := 8 + sumM wtD ms + (if 0 < sumM wtT ms then 60 + evn (sumM wtT ms) else 0)
def tbl : List Mv → Bs
  | [] => []
  | m :: r => (if lng m.name then m.name ++ [47, 10] else []) ++ tbl r
theorem tbl_append (a b : List Mv) : tbl (a ++ b) = tbl a ++ tbl b := by
  induction a with
  | nil => rfl
  | cons x r ih => simp only [List.cons_append, tbl, ih, List.append_assoc]
theorem tbl_take {ms : List Mv} {k : Nat} {m : Mv} (h : ms[k]? = some m) : tbl (ms.take (k + 1)) = tbl (ms.take k) ++ (if lng m.name then m.name ++ [47, 10] else []) := by
  rw [List.take_add_one, h, tbl_append]
  simp [tbl]
theorem tbl_len (ms : List Mv) : (tbl ms).length = sumM wtT ms := by
  induction ms with
  | nil => rfl
  | cons x r ih =>
    simp only [tbl, sumM, List.length_append, ih, wtT]
    split <;> simp
def nmb (b : Bs) : Bool := !b.isEmpty && decide (b.length ≤ 255) && !(b.any fun c => c == 47 || c == 0 || c == 10)
def okM (m : Mv) : Bool := nmb m.name && decide (0 ≤ m.date) && decide (m.date ≤ 999999999999)
def dec (n : Int) : Bs := Lib.itoa n
def pad (n : Nat) (b : Bs) : Bs := b ++ List.replicate (n - b.length) 32
def headB (a b c d e f : Bs) : Bs := pad 16 a ++ pad 12 b ++ pad 6 c ++ pad 6 d ++ pad 8 e ++ pad 10 f ++ [96, 10]
def dataB (d : Bs) : Bs := d ++ (if d.length % 2 = 1 then [10] else [])
def nameB (p : Nat) (b : Bs) : Bs := if lng b then 47 :: dec p else b ++ [47]
def memB (p : Nat) (m : Mv) : Bs := headB (nameB p m.name) (dec m.date) [48] [48] [49, 48, 48, 54, 52, 52] (dec m.data.length) ++ dataB m.data
def bodyB : Nat → List Mv → Bs
  | _, [] => []
  | p, m :: r => memB p m ++ bodyB (p + wtT m) r
def magicB : Bs := [33, 60, 97, 114, 99, 104, 62, 10]
def tableB (ms : List Mv) : Bs := if 0 < (tbl ms).length then headB [47, 47] [] [] [] [] (dec (tbl ms).length) ++ dataB (tbl ms) else []
def archB (ms : List Mv) : Bs := magicB ++ tableB ms ++ bodyB 0 ms
theorem bodyB_append (a b : List Mv) : ∀ p, bodyB p (a ++ b) = bodyB p a ++ bodyB (p + sumM wtT a) b := by
  induction a with
  | nil => intro p; simp [bodyB, sumM]
  | cons x r ih =>
    intro p
    simp only [List.cons_append, bodyB, ih, sumM, List.append_assoc]
    rw [Nat.add_assoc]
theorem bodyB_take {ms : List Mv} {k : Nat} {m : Mv} (h : ms[k]? = some m) : bodyB 0 (ms.take (k + 1)) = bodyB 0 (ms.take k) ++ memB (sumM wtT (ms.take k)) m := by
  rw [List.take_add_one, h, bodyB_append]
  simp [bodyB]
/-- what is wrong with members: a number, 0 of nothing -/
def wrongR (ms : List Mv) : Nat := if 5000 < ms.length ∨ 65536 < lenA ms then 2 else if ms.all okM then 0 else 1
end Go.Proofs.YtcijjigafcpcpaaGreatDoor
