import Derived.Lib.Strings
import Derived.Lib.IndexBytes
import Derived.Shelf.Strings.Builder1
import Derived.Shelf.Small.Strs
import Derived.Shelf.Small.Wraps
import Derived.Shelf.LaysM
import Derived.Shelf.Strconv.Clone
import Derived.Shelf.Strings.Search1
import Derived.Shelf.Strings.Search2
import Derived.Shelf.Strings.Search3
import Derived.Shelf.Strings.Cut
import Derived.Shelf.Strings.Shaped
import Derived.Shelf.Strings.Prefix
import Derived.Shelf.Strings.BuilderF
import Derived.Shelf.Strings.Count
import Derived.Shelf.Strings.Replace
import Derived.Test.YtabmnkddmdffkaaGreatDoorAShelf
import Derived.RangeFuncNested
import Derived.RangeFuncBound
import Derived.RangeFuncCalls
import Derived.RangeFuncLeaves
import Derived.RangeFuncBox
import Derived.Shelf.Abstract
import Derived.Shelf.RegionOpen
import Derived.WalkKit
import Derived.WalkSpells
import Derived.WalkLawsBesides
import Derived.OwnWalkIn
import Derived.TacticsInMore
import Derived.LoopNIn
import Derived.LoopIn
import Derived.Maps.AppendAt
import Derived.Test.YtabmnkddmdffkaaGreatDoorAWordG
namespace Go.Proofs.YtabmnkddmdffkaaGreatDoor.Tx
def bl (c : UInt8) : Bool := c.toNat == 32 || c.toNat == 9 || c.toNat == 10
def nb (c : UInt8) : Bool := !bl c
def wgo : List UInt8 → List UInt8 → List (List UInt8)
 | cur, [] => if cur.isEmpty then [] else [cur]
 | cur, c :: r => if bl c then (if cur.isEmpty then wgo [] r else cur :: wgo [] r) else wgo (cur ++ [c]) r
def words (l : List UInt8) : List (List UInt8) := wgo [] l
theorem words_nil : words [] = [] := rfl
theorem words_blank (c : UInt8) (r : List UInt8) (h : bl c = true) : words (c :: r) = words r := by simp [words, wgo, h]
theorem wgo_cur (l : List UInt8) : ∀ cur : List UInt8, cur.isEmpty = false → wgo cur l = (cur ++ l.takeWhile nb) :: words (l.dropWhile nb) := by
 induction l with
 | nil => intro cur h; simp [wgo, h, words]
 | cons c r ih =>
  intro cur h
  by_cases hc : bl c = true
  ·have hn : nb c = false := by simp [nb, hc]
   simp [wgo, hc, h, hn, words]
  ·have hn : nb c = true := by simp [nb, hc]
   rw [wgo, if_neg hc, ih _ (by simp)]
   simp [hn]
theorem words_word (c : UInt8) (r : List UInt8) (h : bl c = false) : words (c :: r) = ((c :: r).takeWhile nb) :: words ((c :: r).dropWhile nb) := by
 have hn : nb c = true := by simp [nb, h]
 have : words (c :: r) = wgo [c] r := by simp [words, wgo, h]
 rw [this, wgo_cur r [c] rfl]
 simp [hn]
def wl (l : List UInt8) : Nat := (l.takeWhile nb).length
theorem wl_nil : wl [] = 0 := rfl
theorem wl_blank (c : UInt8) (r : List UInt8) (h : bl c = true) : wl (c :: r) = 0 := by simp [wl, nb, h]
theorem wl_cons (c : UInt8) (r : List UInt8) (h : bl c = false) : wl (c :: r) = wl r + 1 := by simp [wl, nb, h]
theorem wl_le (l : List UInt8) : wl l ≤ l.length := by
 unfold wl
 exact (List.takeWhile_prefix nb).length_le
theorem takeWhile_take (l : List UInt8) : l.takeWhile nb = l.take (wl l) := by
 unfold wl
 exact List.prefix_iff_eq_take.1 (List.takeWhile_prefix nb)
theorem dropWhile_drop (l : List UInt8) : l.dropWhile nb = l.drop (wl l) := by
 have h := List.takeWhile_append_dropWhile (p := nb) (l := l)
 unfold wl
 generalize l.takeWhile nb = a at h ⊢
 generalize l.dropWhile nb = b at h ⊢
 rw [← h]
 simp
theorem words_at (l : List UInt8) (h : 0 < wl l) : words l = l.take (wl l) :: words (l.drop (wl l)) := by
 cases l with
 | nil => simp [wl] at h
 | cons c r =>
  by_cases hc : bl c = true
  ·rw [wl_blank c r hc] at h; omega
  ·have hc' : bl c = false := by simpa using hc
   rw [words_word c r hc', takeWhile_take, dropWhile_drop]
theorem words_short (l : List UInt8) : ∀ x ∈ words l, x.length ≤ l.length := by
 suffices H : ∀ (l cur : List UInt8), ∀ x ∈ wgo cur l, x.length ≤ cur.length + l.length by
  intro x hx; have := H l [] x hx; simpa using this
 intro l
 induction l with
 | nil => intro cur x hx; by_cases h : cur.isEmpty <;> simp [wgo, h] at hx; subst hx; simp
 | cons c r ih =>
  intro cur x hx
  by_cases hc : bl c = true
  ·by_cases h : cur.isEmpty
   ·simp only [wgo, hc, h, if_true] at hx
    have := ih [] x hx; simp at this ⊢; omega
   ·simp only [wgo, hc, h, if_true] at hx
    rcases List.mem_cons.1 hx with rfl | hx
    ·simp
    ·have := ih [] x hx; simp at this ⊢; omega
  ·simp only [wgo, hc] at hx
   have := ih _ x hx; simp at this ⊢; omega
theorem words_len (l : List UInt8) : (words l).length ≤ l.length := by
 suffices H : ∀ (l cur : List UInt8), (wgo cur l).length ≤ cur.length + l.length by
  have := H l []; simpa [words] using this
 intro l
 induction l with
 | nil => intro cur; cases cur <;> simp [wgo]
 | cons c r ih =>
  intro cur
  by_cases hc : bl c = true
  ·cases cur with
   | nil => simp only [wgo, hc, if_true, List.isEmpty_nil]; have := ih []; simp at this ⊢; omega
   | cons d m => simp [wgo, hc]; have := ih []; simp at this; omega
  ·simp only [wgo, hc]; have := ih (cur ++ [c]); simp at this ⊢; omega
end Go.Proofs.YtabmnkddmdffkaaGreatDoor.Tx
namespace Go.Proofs
open Go.Shelf Go.RowKit
def Tryz.lays104_ren : Go.Shelf.Ren := ⟨fun | 104 => 67 | 211 => 96 | 207 => 120 | n => n, fun | 9 => 9 | 4 => 4 | 24 => 44 | 3 => 3 | n => n, fun | n => n⟩
theorem Tryz.lays104 : Go.Proofs.Lays.n104 Tryz.prog Tryz.lays104_ren := {
 mixed := by kernel_rfl
 f104 := Tryz.func67.trans (congrArg some (by kernel_rfl))
 f207 := Tryz.func120.trans (congrArg some (by kernel_rfl))
 f211 := Tryz.func96.trans (congrArg some (by kernel_rfl))
 t3 := Tryz.underlying3
 a3 := Tryz.isAgg3
 z3 := Tryz.sizeOf3
 v3 := Tryz.zeroValue3
 t4 := Tryz.underlying4
 a4 := Tryz.isAgg4
 z4 := Tryz.sizeOf4
 v4 := Tryz.zeroValue4
 t9 := Tryz.underlying9
 a9 := Tryz.isAgg9
 z9 := Tryz.sizeOf9
 v9 := Tryz.zeroValue9
 t24 := Tryz.underlying44
 a24 := Tryz.isAgg44
 z24 := Tryz.sizeOf44
 v24 := Tryz.zeroValue44 }
theorem Tryz.strings_CutSuffix (s p : ByteArray) (w : World) (hs : s.size ≤ 9223372036854775807) :
  Calls Tryz.prog 67 #[.string s, .string p] w fun e w' => e = .returned (.tuple #[.string ⟨(Lib.trimSuffix s.data.toList p.data.toList).toArray⟩, .bool (Lib.hasSuffix s.data.toList p.data.toList)]) ∧ w' = w := Any.strings_CutSuffix Tryz.lays104 s p w hs
def Tryz.lays155_ren : Go.Shelf.Ren := ⟨fun | 155 => 88 | 154 => 114 | 138 => 138 | 165 => 139 | 143 => 140 | 166 => 103 | 197 => 141 | 169 => 104 | 195 => 160 | 218 => 161 | 240 => 133 | 241 => 162 | 219 => 163 | 260 => 164 | 276 => 153 | 277 => 183 | 217 => 184 | 225 => 185 | 224 => 186 | 267 => 187 | 266 => 199 | 314 => 200 | n => n, fun | 9 => 9 | 3 => 3 | 4 => 4 | 72 => 174 | 0 => 0 | 76 => 79 | 105 => 213 | 21 => 21 | 5 => 5 | 70 => 172 | 20 => 20 | 37 => 57 | 75 => 62 | 127 => 156 | 164 => 133 | 46 => 167 | 119 => 255 | 139 => 258 | 138 => 257 | 146 => 268 | 51 => 205 | 80 => 177 | n => n, fun | 1 => 4 | 3 => 5 | 4 => 6 | n => n⟩
theorem Tryz.lays155 : Go.Proofs.Lays.n155 Tryz.prog Tryz.lays155_ren := {
 mixed := by kernel_rfl
 f138 := Tryz.func138.trans (congrArg some (by kernel_rfl))
 f143 := Tryz.func140.trans (congrArg some (by kernel_rfl))
 f154 := Tryz.func114.trans (congrArg some (by kernel_rfl))
 f155 := Tryz.func88.trans (congrArg some (by kernel_rfl))
 f165 := Tryz.func139.trans (congrArg some (by kernel_rfl))
 f166 := Tryz.func103.trans (congrArg some (by kernel_rfl))
 f169 := Tryz.func104.trans (congrArg some (by kernel_rfl))
 f195 := Tryz.func160.trans (congrArg some (by kernel_rfl))
 f197 := Tryz.func141.trans (congrArg some (by kernel_rfl))
 f217 := Tryz.func184.trans (congrArg some (by kernel_rfl))
 f218 := Tryz.func161.trans (congrArg some (by kernel_rfl))
 f219 := Tryz.func163.trans (congrArg some (by kernel_rfl))
 f224 := Tryz.func186.trans (congrArg some (by kernel_rfl))
 f225 := Tryz.func185.trans (congrArg some (by kernel_rfl))
 f240 := Tryz.func133.trans (congrArg some (by kernel_rfl))
 f241 := Tryz.func162.trans (congrArg some (by kernel_rfl))
 f260 := Tryz.func164.trans (congrArg some (by kernel_rfl))
 f266 := Tryz.func199.trans (congrArg some (by kernel_rfl))
 f267 := Tryz.func187.trans (congrArg some (by kernel_rfl))
 f276 := Tryz.func153.trans (congrArg some (by kernel_rfl))
 f277 := Tryz.func183.trans (congrArg some (by kernel_rfl))
 f314 := Tryz.func200.trans (congrArg some (by kernel_rfl))
 t0 := Tryz.underlying0
 a0 := Tryz.isAgg0
 z0 := Tryz.sizeOf0
 v0 := Tryz.zeroValue0
 t3 := Tryz.underlying3
 a3 := Tryz.isAgg3
 z3 := Tryz.sizeOf3
 v3 := Tryz.zeroValue3
 t4 := Tryz.underlying4
 a4 := Tryz.isAgg4
 z4 := Tryz.sizeOf4
 v4 := Tryz.zeroValue4
 t5 := Tryz.underlying5
 a5 := Tryz.isAgg5
 z5 := Tryz.sizeOf5
 v5 := Tryz.zeroValue5
 t9 := Tryz.underlying9
 a9 := Tryz.isAgg9
 z9 := Tryz.sizeOf9
 v9 := Tryz.zeroValue9
 t20 := Tryz.underlying20
 a20 := Tryz.isAgg20
 z20 := Tryz.sizeOf20
 v20 := Tryz.zeroValue20
 t21 := Tryz.underlying21
 a21 := Tryz.isAgg21
 z21 := Tryz.sizeOf21
 v21 := Tryz.zeroValue21
 t37 := Tryz.underlying57
 a37 := Tryz.isAgg57
 z37 := Tryz.sizeOf57
 v37 := Tryz.zeroValue57
 t46 := Tryz.underlying167
 a46 := Tryz.isAgg167
 z46 := Tryz.sizeOf167
 v46 := Tryz.zeroValue167
 t51 := Tryz.underlying205
 a51 := Tryz.isAgg205
 z51 := Tryz.sizeOf205
 v51 := Tryz.zeroValue205
 t70 := Tryz.underlying172
 a70 := Tryz.isAgg172
 z70 := Tryz.sizeOf172
 v70 := Tryz.zeroValue172
 t72 := Tryz.underlying174
 a72 := Tryz.isAgg174
 z72 := Tryz.sizeOf174
 v72 := Tryz.zeroValue174
 t75 := Tryz.underlying62
 a75 := Tryz.isAgg62
 z75 := Tryz.sizeOf62
 v75 := Tryz.zeroValue62
 t76 := Tryz.underlying79
 a76 := Tryz.isAgg79
 z76 := Tryz.sizeOf79
 v76 := Tryz.zeroValue79
 t105 := Tryz.underlying213
 a105 := Tryz.isAgg213
 z105 := Tryz.sizeOf213
 v105 := Tryz.zeroValue213
 t119 := Tryz.underlying255
 a119 := Tryz.isAgg255
 z119 := Tryz.sizeOf255
 t127 := Tryz.underlying156
 a127 := Tryz.isAgg156
 z127 := Tryz.sizeOf156
 v127 := Tryz.zeroValue156
 t138 := Tryz.underlying257
 a138 := Tryz.isAgg257
 z138 := Tryz.sizeOf257
 v138 := Tryz.zeroValue257
 t139 := Tryz.underlying258
 a139 := Tryz.isAgg258
 z139 := Tryz.sizeOf258
 v139 := Tryz.zeroValue258
 t146 := Tryz.underlying268
 a146 := Tryz.isAgg268
 z146 := Tryz.sizeOf268
 v146 := Tryz.zeroValue268
 t164 := Tryz.underlying133
 a164 := Tryz.isAgg133
 z164 := Tryz.sizeOf133
 v164 := Tryz.zeroValue133
 g1 := by kernel_rfl
 g3 := by kernel_rfl
 g4 := by kernel_rfl }
theorem Tryz.Builder_Extra_155 : Builder.Extra Tryz.prog Tryz.lays155_ren := {
 sizeBuilder := by kernel_rfl
 liesBuilder := by kernel_rfl
 t5 := Tryz.underlying5
 a5 := Tryz.isAgg5
 z5 := Tryz.sizeOf5
 v5 := Tryz.zeroValue5
 infoByte := by kernel_rfl
 cellsByte := by kernel_rfl
 sizeByte := by kernel_rfl
 neB5 := by decide }
theorem Tryz.strings_ReplaceAll (s old new : ByteArray) (m : Int) (w : World) (hs : s.size < 4294967281) (hm : w.cell? ⟨4, 0, none⟩ = some (.int .i64 m)) (h1 : 1 ≤ old.size) (hlen : s.size + Lib.countB s old * new.size ≤ 140737488355328) :
  Calls Tryz.prog 88 #[.string s, .string old, .string new] w fun e w' =>
   e = .returned (.string ⟨(Lib.replaceAll s.data.toList old.data.toList new.data.toList).toArray⟩) ∧ Below w.heap.size w w' := Any.strings_ReplaceAll Tryz.lays155 Tryz.Builder_Extra_155 s old new m w hs hm h1 hlen
end Go.Proofs
namespace Go.Proofs.YtabmnkddmdffkaaGreatDoor.Tx
open Go.RowKit Go.Shelf
attribute [local go_sem] Oper.semAt_some
theorem bl_yes (c : UInt8) (h : bl c = true) : c.toNat = 32 ∨ c.toNat = 9 ∨ c.toNat = 10 := by simpa [bl, or_assoc] using h
theorem bl_no (c : UInt8) (h : bl c = false) : c.toNat ≠ 32 ∧ c.toNat ≠ 9 ∧ c.toNat ≠ 10 := by simpa [bl, and_assoc] using h
theorem blank_any (c : UInt8) (w : World) :
  Calls Tryz.prog 158 #[.int .u8 c.toNat] w fun e w' => e = .returned (.bool (bl c)) ∧ w' = w := by
 cases h : bl c with
 | true =>
  rcases bl_yes c h with e | e | e <;> rw [e]
  ·go_enter Tryz.func158, Tryz.ntmps158
   go_wp2
   go_ret
   exact ⟨rfl, rfl⟩
  ·go_enter Tryz.func158, Tryz.ntmps158
   go_wp2
   go_ret
   exact ⟨rfl, rfl⟩
  ·go_enter Tryz.func158, Tryz.ntmps158
   go_wp2
   go_ret
   exact ⟨rfl, rfl⟩
 | false =>
  obtain ⟨h1, h2, h3⟩ := bl_no c h
  have k1 : ((c.toNat : Int) == 32) = false := beq_eq_false_iff_ne.2 (by omega)
  have k2 : ((c.toNat : Int) == 9) = false := beq_eq_false_iff_ne.2 (by omega)
  have k3 : ((c.toNat : Int) == 10) = false := beq_eq_false_iff_ne.2 (by omega)
  go_enter Tryz.func158, Tryz.ntmps158
  go_wp2
  go_ret
  exact ⟨rfl, rfl⟩
theorem drop_at (s : ByteArray) (k : Nat) (h : k < s.size) : s.data.toList.drop k = s[k] :: s.data.toList.drop (k + 1) := by
 rw [List.drop_eq_getElem_cons (by simpa using h)]; rfl
theorem drop_end (s : ByteArray) (k : Nat) (h : ¬ k < s.size) : s.data.toList.drop k = [] := List.drop_eq_nil_of_le (by simp; omega)
def wend (l : List UInt8) (a : Nat) : Nat := a + wl (l.drop a)
set_option maxHeartbeats 400000 in
theorem wordEnd_any (s : ByteArray) (a : Nat) (w : World) (hs : s.size ≤ maxLen) (ha : a ≤ s.size) :
  Calls Tryz.prog 159 #[.string s, .int .i64 a] w fun e w' => e = .returned (.int .i64 (wend s.data.toList a)) ∧ w' = w := by
 unfold maxLen at hs
 go_enter Tryz.func159, Tryz.ntmps159
 go_wp2
 go_loop [1] (fun i => ∃ k : Nat, a ≤ k ∧ k ≤ s.size ∧ i = .int .i64 k ∧ Hid (k + wl (s.data.toList.drop k) = wend s.data.toList a)) (fun i => s.size - (intOf i).toNat)
 case atStart => exact ⟨a, Nat.le_refl _, ha, rfl, rfl⟩
 case round =>
  obtain ⟨k, hk0, hk, rfl, HK⟩ := hrel
  by_cases hlt : k < s.size
  ·cases hb : bl s[k] with
   | true =>
    have h0 := wl_blank s[k] (s.data.toList.drop (k + 1)) hb
    rw [← drop_at s k hlt] at h0
    have hfin : wend s.data.toList a = k := by have := HK.out; omega
    have HF : Hid (wend s.data.toList a = k) := hfin
    clear hfin h0 HK
    have kb : ∀ w, Calls Tryz.prog 158 #[.int .u8 s[k].toNat] w fun e w' => e = .returned (.bool true) ∧ w' = w := fun w => by have := blank_any s[k] w; rwa [hb] at this
    clear hb
    go_wp2_with (go_at_call 158; refine (kb _).mono ?_; rintro e w' ⟨rfl, rfl⟩)
    go_ret
    exact ⟨by rw [HF.out]; rfl, rfl⟩
   | false =>
    have h0 := wl_cons s[k] (s.data.toList.drop (k + 1)) hb
    rw [← drop_at s k hlt] at h0
    have hfin : k + 1 + wl (s.data.toList.drop (k + 1)) = wend s.data.toList a := by have := HK.out; omega
    have HF : Hid (k + 1 + wl (s.data.toList.drop (k + 1)) = wend s.data.toList a) := hfin
    clear hfin h0 HK
    have kb : ∀ w, Calls Tryz.prog 158 #[.int .u8 s[k].toNat] w fun e w' => e = .returned (.bool false) ∧ w' = w := fun w => by have := blank_any s[k] w; rwa [hb] at this
    clear hb
    go_wp2_with (go_at_call 158; refine (kb _).mono ?_; rintro e w' ⟨rfl, rfl⟩)
    exact ⟨⟨k + 1, by omega, by omega, by go_num, HF⟩, by simp [intOf]; omega⟩
  ·have hfin : wend s.data.toList a = k := by have := HK.out; rw [drop_end s k hlt, wl_nil] at this; omega
   have HF : Hid (wend s.data.toList a = k) := hfin
   clear hfin HK
   go_wp2
   go_ret
   exact ⟨by rw [HF.out]; rfl, rfl⟩
theorem clone_any (s : ByteArray) (w : World) (hlim : s.size ≤ 281474976710656) :
  Calls Tryz.prog 30 #[.string s] w fun e w' => e = .returned (.string s) ∧ Below w.heap.size w w' := by
 go_enter Tryz.func30, Tryz.ntmps30
 go_wp2_with (go_at_call 60; refine (Tryz.stringslite_Clone _ _ hlim).mono ?_; rintro e w' ⟨rfl, hb⟩)
 go_ret
 exact ⟨rfl, hb⟩
end Go.Proofs.YtabmnkddmdffkaaGreatDoor.Tx
namespace Go.Proofs.YtabmnkddmdffkaaGreatDoor.Sk
open Go.RowKit Go.Shelf Tx
def cmap (l : List UInt8) : List UInt8 := l.map fun c => if c = 58 then 32 else c
theorem prefix_one (b c : UInt8) (l : List UInt8) : [c].isPrefixOf (b :: l) = (c == b) := by simp [List.isPrefixOf]
theorem index_cons (b c : UInt8) (l : List UInt8) : Lib.index (b :: l) [c] = if c == b then 0 else if Lib.index l [c] == -1 then -1 else Lib.index l [c] + 1 := by
 rw [Lib.index, prefix_one]
theorem index_ge' (l : List UInt8) (c : UInt8) : -1 ≤ Lib.index l [c] := Lib.index_ge l [c]
theorem replace_ne (b : UInt8) (l : List UInt8) (h : b ≠ 58) : ∀ k, Lib.replaceK [58] [32] k (b :: l) = b :: Lib.replaceK [58] [32] k l := by
 intro k
 have hb : ((58 : UInt8) == b) = false := beq_eq_false_iff_ne.2 (Ne.symm h)
 have hg := index_ge' l 58
 cases k with
 | zero => rfl
 | succ k =>
  rw [Lib.replaceK, Lib.replaceK, index_cons, hb]
  simp only [Bool.false_eq_true, if_false]
  by_cases hm : Lib.index l [58] = -1
  ·rw [hm]; rfl
  ·have h1 : (Lib.index l [58] == -1) = false := beq_eq_false_iff_ne.2 hm
   have h2 : (Lib.index l [58] + 1 == -1) = false := beq_eq_false_iff_ne.2 (by omega)
   have h3 : (Lib.index l [58] + 1).toNat = (Lib.index l [58]).toNat + 1 := by omega
   rw [h1]
   simp only [Bool.false_eq_true, if_false]
   rw [h2]
   simp only [Bool.false_eq_true, if_false]
   rw [h3]
   simp only [List.take_succ_cons, List.cons_append]
   rw [show (Lib.index l [58]).toNat + 1 + [(58 : UInt8)].length = ((Lib.index l [58]).toNat + [(58 : UInt8)].length) + 1 by omega, List.drop_succ_cons]
theorem replace_eq (l : List UInt8) (k : Nat) : Lib.replaceK [58] [32] (k + 1) (58 :: l) = 32 :: Lib.replaceK [58] [32] k l := by
 rw [Lib.replaceK_hit _ _ _ _ 0 (by rw [index_cons]; rfl)]
 rfl
theorem replace_count (l : List UInt8) : Lib.replaceK [58] [32] (l.count 58) l = cmap l := by
 induction l with
 | nil => rfl
 | cons b r ih =>
  by_cases h : b = 58
  ·subst h
   rw [List.count_cons_self, replace_eq, ih]
   rfl
  ·rw [List.count_cons_of_ne (by simpa using h), replace_ne b r h, ih]
   simp [cmap, h]
theorem replaceAll_colon (l : List UInt8) : Lib.replaceAll l [58] [32] = cmap l := by
 unfold Lib.replaceAll Lib.replace Lib.replaceNum
 rw [if_neg (by decide), if_pos (Or.inl (by decide)), Lib.count_one]
 exact replace_count l
theorem cmap_len (l : List UInt8) : (cmap l).length = l.length := by simp [cmap]
def Mx (w : World) : Prop := ∃ m, w.cell? ⟨4, 0, none⟩ = some (.int .i64 m)
theorem Mx.keep {B : Nat} {w w' : World} (h : Mx w) (hb : Below B w w') (hB : 4 < B) : Mx w' := by
 obtain ⟨m, hm⟩ := h
 exact ⟨m, (hb.cell (p := ⟨4, 0, none⟩) hB).trans hm⟩
theorem colon_any (s : ByteArray) (hs : s.size ≤ 1000000) (w : World) (hm : Mx w) :
  Calls Tryz.prog 88 #[.string s, .string ⟨#[58]⟩, .string ⟨#[32]⟩] w fun e w' => e = .returned (.string (mk (cmap (tl s)))) ∧ Below w.heap.size w w' := by
 obtain ⟨m, hm⟩ := hm
 refine (Tryz.strings_ReplaceAll s ⟨#[58]⟩ ⟨#[32]⟩ m w (by omega) hm (by decide) ?_).mono ?_
 ·have := Lib.countB_le ⟨#[58]⟩ (by decide) s.size s (Nat.le_refl _)
  have h1 : (⟨#[32]⟩ : ByteArray).size = 1 := rfl
  rw [h1]; omega
 ·rintro e w' ⟨rfl, hb⟩
  refine ⟨?_, hb⟩
  rw [show (⟨#[58]⟩ : ByteArray).data.toList = [58] from rfl, show (⟨#[32]⟩ : ByteArray).data.toList = [32] from rfl, replaceAll_colon]
  rfl
end Go.Proofs.YtabmnkddmdffkaaGreatDoor.Sk
