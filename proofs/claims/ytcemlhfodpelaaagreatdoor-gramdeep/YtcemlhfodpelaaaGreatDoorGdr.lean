/- Compounds within one another (rd), by computing. -/
import Derived.Test.YtcemlhfodpelaaaGreatDoorGde
namespace Go.Proofs.YtcemlhfodpelaaaGreatDoor
open Go.RowKit

theorem rd_b0 : ((List.range' 0 18).all fun N => allB (rdS N) (rdT N [(4, [])]) (if 60 < N then 42 else 0)) = true := by kernel_rfl
theorem rd_b18 : ((List.range' 18 8).all fun N => allB (rdS N) (rdT N [(4, [])]) (if 60 < N then 42 else 0)) = true := by kernel_rfl
theorem rd_b26 : ((List.range' 26 6).all fun N => allB (rdS N) (rdT N [(4, [])]) (if 60 < N then 42 else 0)) = true := by kernel_rfl
theorem rd_b32 : ((List.range' 32 5).all fun N => allB (rdS N) (rdT N [(4, [])]) (if 60 < N then 42 else 0)) = true := by kernel_rfl
theorem rd_b37 : ((List.range' 37 4).all fun N => allB (rdS N) (rdT N [(4, [])]) (if 60 < N then 42 else 0)) = true := by kernel_rfl
theorem rd_b41 : ((List.range' 41 4).all fun N => allB (rdS N) (rdT N [(4, [])]) (if 60 < N then 42 else 0)) = true := by kernel_rfl
theorem rd_b45 : ((List.range' 45 4).all fun N => allB (rdS N) (rdT N [(4, [])]) (if 60 < N then 42 else 0)) = true := by kernel_rfl
theorem rd_b49 : ((List.range' 49 3).all fun N => allB (rdS N) (rdT N [(4, [])]) (if 60 < N then 42 else 0)) = true := by kernel_rfl
theorem rd_b52 : ((List.range' 52 3).all fun N => allB (rdS N) (rdT N [(4, [])]) (if 60 < N then 42 else 0)) = true := by kernel_rfl
theorem rd_b55 : ((List.range' 55 3).all fun N => allB (rdS N) (rdT N [(4, [])]) (if 60 < N then 42 else 0)) = true := by kernel_rfl
theorem rd_b58 : ((List.range' 58 3).all fun N => allB (rdS N) (rdT N [(4, [])]) (if 60 < N then 42 else 0)) = true := by kernel_rfl
theorem rd_b61 : ((List.range' 61 2).all fun N => allB (rdS N) (rdT N [(4, [])]) (if 60 < N then 42 else 0)) = true := by kernel_rfl
theorem rd_b63 : ((List.range' 63 2).all fun N => allB (rdS N) (rdT N [(4, [])]) (if 60 < N then 42 else 0)) = true := by kernel_rfl
theorem rd_b65 : ((List.range' 65 2).all fun N => allB (rdS N) (rdT N [(4, [])]) (if 60 < N then 42 else 0)) = true := by kernel_rfl
theorem rd_b67 : ((List.range' 67 2).all fun N => allB (rdS N) (rdT N [(4, [])]) (if 60 < N then 42 else 0)) = true := by kernel_rfl
theorem rd_b69 : ((List.range' 69 2).all fun N => allB (rdS N) (rdT N [(4, [])]) (if 60 < N then 42 else 0)) = true := by kernel_rfl
theorem rd_all {N : Nat} (h : N ≤ 70) : AllP (rdS N) (rdT N [(4, [])]) (if 60 < N then 42 else 0) := by
  by_cases h18 : N < 18
  · exact all_of (List.all_eq_true.1 rd_b0 N (List.mem_range'_1.2 ⟨by omega, by omega⟩))
  by_cases h26 : N < 26
  · exact all_of (List.all_eq_true.1 rd_b18 N (List.mem_range'_1.2 ⟨by omega, by omega⟩))
  by_cases h32 : N < 32
  · exact all_of (List.all_eq_true.1 rd_b26 N (List.mem_range'_1.2 ⟨by omega, by omega⟩))
  by_cases h37 : N < 37
  · exact all_of (List.all_eq_true.1 rd_b32 N (List.mem_range'_1.2 ⟨by omega, by omega⟩))
  by_cases h41 : N < 41
  · exact all_of (List.all_eq_true.1 rd_b37 N (List.mem_range'_1.2 ⟨by omega, by omega⟩))
  by_cases h45 : N < 45
  · exact all_of (List.all_eq_true.1 rd_b41 N (List.mem_range'_1.2 ⟨by omega, by omega⟩))
  by_cases h49 : N < 49
  · exact all_of (List.all_eq_true.1 rd_b45 N (List.mem_range'_1.2 ⟨by omega, by omega⟩))
  by_cases h52 : N < 52
  · exact all_of (List.all_eq_true.1 rd_b49 N (List.mem_range'_1.2 ⟨by omega, by omega⟩))
  by_cases h55 : N < 55
  · exact all_of (List.all_eq_true.1 rd_b52 N (List.mem_range'_1.2 ⟨by omega, by omega⟩))
  by_cases h58 : N < 58
  · exact all_of (List.all_eq_true.1 rd_b55 N (List.mem_range'_1.2 ⟨by omega, by omega⟩))
  by_cases h61 : N < 61
  · exact all_of (List.all_eq_true.1 rd_b58 N (List.mem_range'_1.2 ⟨by omega, by omega⟩))
  by_cases h63 : N < 63
  · exact all_of (List.all_eq_true.1 rd_b61 N (List.mem_range'_1.2 ⟨by omega, by omega⟩))
  by_cases h65 : N < 65
  · exact all_of (List.all_eq_true.1 rd_b63 N (List.mem_range'_1.2 ⟨by omega, by omega⟩))
  by_cases h67 : N < 67
  · exact all_of (List.all_eq_true.1 rd_b65 N (List.mem_range'_1.2 ⟨by omega, by omega⟩))
  by_cases h69 : N < 69
  · exact all_of (List.all_eq_true.1 rd_b67 N (List.mem_range'_1.2 ⟨by omega, by omega⟩))
  by_cases h71 : N < 71
  · exact all_of (List.all_eq_true.1 rd_b69 N (List.mem_range'_1.2 ⟨by omega, by omega⟩))
  omega
end Go.Proofs.YtcemlhfodpelaaaGreatDoor
