/- The library's contract of bytes.TrimRight, laid at this program by the kit's own commands in plain words. -/
import Derived.Shelf.Bytes.SlTrim
import Derived.Test.YteleakbefebabaaDoorProg
namespace Go.Proofs
open Go.Shelf
def Tryd.laysV7_ren : Go.Shelf.Ren := ⟨fun | 7 => 33 | 10 => 46 | 11 => 47 | 13 => 48 | 15 => 49 | 16 => 55 | 19 => 56 | 18 => 57 | 21 => 64 | 17 => 65 | 20 => 70 | n => n, fun | 22 => 39 | 9 => 9 | 3 => 3 | 4 => 4 | 5 => 5 | 28 => 69 | 27 => 68 | 0 => 0 | 31 => 72 | 21 => 21 | 33 => 75 | 36 => 86 | 37 => 81 | 40 => 89 | 39 => 88 | n => n, fun | 0 => 1 | 1 => 2 | n => n⟩
theorem Tryd.laysV7 : Go.Proofs.SlLaysV.n7 Tryd.prog Tryd.laysV7_ren := {
  mixed := by kernel_rfl
  f7 := Tryd.func33.trans (congrArg some (by kernel_rfl))
  f10 := Tryd.func46.trans (congrArg some (by kernel_rfl))
  f11 := Tryd.func47.trans (congrArg some (by kernel_rfl))
  f13 := Tryd.func48.trans (congrArg some (by kernel_rfl))
  f15 := Tryd.func49.trans (congrArg some (by kernel_rfl))
  f16 := Tryd.func55.trans (congrArg some (by kernel_rfl))
  f17 := Tryd.func65.trans (congrArg some (by kernel_rfl))
  f18 := Tryd.func57.trans (congrArg some (by kernel_rfl))
  f19 := Tryd.func56.trans (congrArg some (by kernel_rfl))
  f20 := Tryd.func70.trans (congrArg some (by kernel_rfl))
  f21 := Tryd.func64.trans (congrArg some (by kernel_rfl))
  t0 := Tryd.underlying0
  a0 := Tryd.isAgg0
  z0 := Tryd.sizeOf0
  v0 := Tryd.zeroValue0
  t3 := Tryd.underlying3
  a3 := Tryd.isAgg3
  z3 := Tryd.sizeOf3
  v3 := Tryd.zeroValue3
  t4 := Tryd.underlying4
  a4 := Tryd.isAgg4
  z4 := Tryd.sizeOf4
  v4 := Tryd.zeroValue4
  t5 := Tryd.underlying5
  a5 := Tryd.isAgg5
  z5 := Tryd.sizeOf5
  v5 := Tryd.zeroValue5
  t9 := Tryd.underlying9
  a9 := Tryd.isAgg9
  z9 := Tryd.sizeOf9
  v9 := Tryd.zeroValue9
  t21 := Tryd.underlying21
  a21 := Tryd.isAgg21
  z21 := Tryd.sizeOf21
  v21 := Tryd.zeroValue21
  t22 := Tryd.underlying39
  a22 := Tryd.isAgg39
  z22 := Tryd.sizeOf39
  v22 := Tryd.zeroValue39
  t27 := Tryd.underlying68
  a27 := Tryd.isAgg68
  z27 := Tryd.sizeOf68
  t28 := Tryd.underlying69
  a28 := Tryd.isAgg69
  z28 := Tryd.sizeOf69
  v28 := Tryd.zeroValue69
  t31 := Tryd.underlying72
  a31 := Tryd.isAgg72
  z31 := Tryd.sizeOf72
  v31 := Tryd.zeroValue72
  t33 := Tryd.underlying75
  a33 := Tryd.isAgg75
  z33 := Tryd.sizeOf75
  v33 := Tryd.zeroValue75
  t36 := Tryd.underlying86
  a36 := Tryd.isAgg86
  z36 := Tryd.sizeOf86
  t37 := Tryd.underlying81
  a37 := Tryd.isAgg81
  z37 := Tryd.sizeOf81
  v37 := Tryd.zeroValue81
  t39 := Tryd.underlying88
  a39 := Tryd.isAgg88
  z39 := Tryd.sizeOf88
  v39 := Tryd.zeroValue88
  t40 := Tryd.underlying89
  a40 := Tryd.isAgg89
  z40 := Tryd.sizeOf89
  v40 := Tryd.zeroValue89 }
end Go.Proofs
