/- The law VfsRoom answers true. -/
import Derived.Test.YtamohpcdchhbbaaGreatDoorRoomFull
import Derived.Test.YtamohpcdchhbbaaGreatDoorRoomMore
namespace Go.Proofs.YtamohpcdchhbbaaGreatDoor
open Go.RowKit

theorem room_any (B : Nat) (E : Addr) (room first : Int) (w : World) (hG : Glo B w E) (hB : B ≤ w.heap.size) : Calls Tryz.prog 6 #[.int .i64 room, .int .i64 first] w fun r w' => r = .returned (.bool true) ∧ Below w.heap.size w w' := by
  by_cases h : room < 2 ∨ 60000 < room ∨ first < 0 ∨ 60000 < first
  · exact room_out B E room first w hG hB h
  · obtain ⟨f, rfl⟩ : ∃ f : Nat, first = (f : Int) := ⟨first.toNat, by omega⟩
    by_cases h1 : room < (f : Int) + 1
    · exact room_none B E room f w hG hB (by omega) (by omega) (by omega) h1
    · by_cases h2 : room = (f : Int) + 1
      · exact room_full B E room f w hG hB (by omega) (by omega) (by omega) h2
      · exact room_more B E room f w hG hB (by omega) (by omega) (by omega) (room - f - 2).toNat (by omega)
end Go.Proofs.YtamohpcdchhbbaaGreatDoor
