/-
  Joined: WpIS.
-/
import Derived.Shelf.SortM.Plain
import Derived.Shelf.SortM.SortNone
import Derived.Shelf.SlLaysM
import Derived.Ground.SlgmProg
import Derived.Test.YtponmfkddglopaaProg
namespace Go.Proofs
open Go.Shelf
def Try.sortI_ren : Go.Shelf.Ren := ⟨fun | 5 => 22 | 8 => 28 | 7 => 27 | 19 => 40 | 20 => 41 | 10 => 31 | 11 => 32 | 12 => 33 | 13 => 34 | 14 => 35 | 15 => 36 | 16 => 37 | 17 => 38 | 18 => 39 | 30 => 44 | 31 => 45 | 32 => 46 | 33 => 47 | 34 => 48 | 35 => 49 | 40 => 52 | n => n, fun | 23 => 33 | 25 => 2 | 3 => 3 | 32 => 67 | 22 => 33 | 0 => 0 | 44 => 87 | 46 => 89 | 4 => 4 | 36 => 79 | 35 => 78 | 41 => 84 | 5 => 5 | 9 => 9 | 53 => 93 | 57 => 97 | 63 => 100 | 64 => 101 | n => n, fun | n => n⟩
theorem Try.sortI : Go.Proofs.SlLaysM.n5 Try.prog Try.sortI_ren := {
 mixed := by kernel_rfl
 f5 := ⟨Try.f22.name, by decide, Try.func22.trans (congrArg some (by kernel_rfl))⟩
 f7 := ⟨Try.f27.name, by decide, Try.func27.trans (congrArg some (by kernel_rfl))⟩
 f8 := Try.func28.trans (congrArg some (by kernel_rfl))
 f10 := ⟨Try.f31.name, by decide, Try.func31.trans (congrArg some (by kernel_rfl))⟩
 f11 := ⟨Try.f32.name, by decide, Try.func32.trans (congrArg some (by kernel_rfl))⟩
 f12 := ⟨Try.f33.name, by decide, Try.func33.trans (congrArg some (by kernel_rfl))⟩
 f13 := ⟨Try.f34.name, by decide, Try.func34.trans (congrArg some (by kernel_rfl))⟩
 f14 := ⟨Try.f35.name, by decide, Try.func35.trans (congrArg some (by kernel_rfl))⟩
 f15 := ⟨Try.f36.name, by decide, Try.func36.trans (congrArg some (by kernel_rfl))⟩
 f16 := ⟨Try.f37.name, by decide, Try.func37.trans (congrArg some (by kernel_rfl))⟩
 f17 := ⟨Try.f38.name, by decide, Try.func38.trans (congrArg some (by kernel_rfl))⟩
 f18 := ⟨Try.f39.name, by decide, Try.func39.trans (congrArg some (by kernel_rfl))⟩
 f19 := Try.func40.trans (congrArg some (by kernel_rfl))
 f20 := Try.func41.trans (congrArg some (by kernel_rfl))
 f30 := ⟨Try.f44.name, by decide, Try.func44.trans (congrArg some (by kernel_rfl))⟩
 f31 := Try.func45.trans (congrArg some (by kernel_rfl))
 f32 := Try.func46.trans (congrArg some (by kernel_rfl))
 f33 := ⟨Try.f47.name, by decide, Try.func47.trans (congrArg some (by kernel_rfl))⟩
 f34 := ⟨Try.f48.name, by decide, Try.func48.trans (congrArg some (by kernel_rfl))⟩
 f35 := ⟨Try.f49.name, by decide, Try.func49.trans (congrArg some (by kernel_rfl))⟩
 f40 := ⟨Try.f52.name, by decide, Try.func52.trans (congrArg some (by kernel_rfl))⟩
 t0 := Try.underlying0
 a0 := Try.isAgg0
 z0 := Try.sizeOf0
 v0 := Try.zeroValue0
 t3 := Try.underlying3
 a3 := Try.isAgg3
 z3 := Try.sizeOf3
 v3 := Try.zeroValue3
 t4 := Try.underlying4
 a4 := Try.isAgg4
 z4 := Try.sizeOf4
 v4 := Try.zeroValue4
 t5 := Try.underlying5
 a5 := Try.isAgg5
 z5 := Try.sizeOf5
 v5 := Try.zeroValue5
 t9 := Try.underlying9
 a9 := Try.isAgg9
 z9 := Try.sizeOf9
 v9 := Try.zeroValue9
 t22 := Try.underlying33
 a22 := Try.isAgg33
 z22 := Try.sizeOf33
 v22 := Try.zeroValue33
 t23 := Try.underlying33
 a23 := Try.isAgg33
 z23 := Try.sizeOf33
 v23 := Try.zeroValue33
 t25 := Try.underlying2
 a25 := Try.isAgg2
 z25 := Try.sizeOf2
 v25 := Try.zeroValue2
 t32 := Try.underlying67
 a32 := Try.isAgg67
 z32 := Try.sizeOf67
 v32 := Try.zeroValue67
 t35 := Try.underlying78
 a35 := Try.isAgg78
 z35 := Try.sizeOf78
 v35 := Try.zeroValue78
 t36 := Try.underlying79
 a36 := Try.isAgg79
 z36 := Try.sizeOf79
 v36 := Try.zeroValue79
 t41 := Try.underlying84
 a41 := Try.isAgg84
 z41 := Try.sizeOf84
 v41 := Try.zeroValue84
 t44 := Try.underlying87
 a44 := Try.isAgg87
 z44 := Try.sizeOf87
 v44 := Try.zeroValue87
 t46 := Try.underlying89
 a46 := Try.isAgg89
 z46 := Try.sizeOf89
 v46 := Try.zeroValue89
 t53 := Try.underlying93
 a53 := Try.isAgg93
 z53 := Try.sizeOf93
 v53 := Try.zeroValue93
 t57 := Try.underlying97
 a57 := Try.isAgg97
 z57 := Try.sizeOf97
 v57 := Try.zeroValue97
 t63 := Try.underlying100
 a63 := Try.isAgg100
 z63 := Try.sizeOf100
 v63 := Try.zeroValue100
 t64 := Try.underlying101
 a64 := Try.isAgg101
 z64 := Try.sizeOf101
 v64 := Try.zeroValue101 }
end Go.Proofs
