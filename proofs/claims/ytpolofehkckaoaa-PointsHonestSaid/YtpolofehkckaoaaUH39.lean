/-
  Joined: PwIS.
-/
import Derived.Shelf.SlIterI.Nil
import Derived.Shelf.SortM.Plain
import Derived.Shelf.SortM.SortNone
import Derived.Shelf.SlLaysZI
import Derived.Shelf.SlLaysM
import Derived.Ground.GgzProg
import Derived.Ground.SlgmProg
import Derived.Test.YtpolofehkckaoaaProg
namespace Go.Proofs
open Go.Shelf
def Try.keysO_ren : Go.Shelf.Ren := ⟨fun | 7 => 45 | 10 => 59 | n => n, fun | 23 => 55 | 26 => 2 | 3 => 61 | 28 => 82 | 0 => 0 | 27 => 81 | 33 => 94 | 4 => 4 | n => n, fun | n => n⟩
theorem Try.keysO : Go.Proofs.SlLaysZI.n7 Try.prog Try.keysO_ren := {
 mixed := by kernel_rfl
 f7 := ⟨Try.f45.name, by decide, Try.func45.trans (congrArg some (by kernel_rfl))⟩
 f10 := ⟨Try.f59.name, by decide, Try.func59.trans (congrArg some (by kernel_rfl))⟩
 t0 := Try.underlying0
 a0 := Try.isAgg0
 z0 := Try.sizeOf0
 v0 := Try.zeroValue0
 t4 := Try.underlying4
 a4 := Try.isAgg4
 z4 := Try.sizeOf4
 v4 := Try.zeroValue4
 t23 := Try.underlying55
 a23 := Try.isAgg55
 z23 := Try.sizeOf55
 v23 := Try.zeroValue55
 t26 := Try.underlying2
 a26 := Try.isAgg2
 z26 := Try.sizeOf2
 v26 := Try.zeroValue2
 t27 := Try.underlying81
 a27 := Try.isAgg81
 z27 := Try.sizeOf81
 v27 := Try.zeroValue81
 t28 := Try.underlying82
 a28 := Try.isAgg82
 z28 := Try.sizeOf82
 v28 := Try.zeroValue82
 t33 := Try.underlying94
 a33 := Try.isAgg94
 z33 := Try.sizeOf94
 v33 := Try.zeroValue94 }
def Try.sortedI_ren : Go.Shelf.Ren := ⟨fun | 6 => 44 | 8 => 57 | 9 => 58 | 11 => 62 | 13 => 64 | 12 => 63 | 23 => 75 | 24 => 76 | 14 => 66 | 15 => 67 | 16 => 68 | 17 => 69 | 18 => 70 | 19 => 71 | 20 => 72 | 21 => 73 | 22 => 74 | 25 => 77 | 26 => 78 | 27 => 79 | 28 => 80 | 29 => 81 | 30 => 60 | 31 => 82 | n => n, fun | 26 => 2 | 28 => 82 | 24 => 53 | 0 => 0 | 3 => 3 | 37 => 88 | 48 => 108 | 50 => 110 | 4 => 4 | 40 => 101 | 39 => 100 | 45 => 72 | 5 => 5 | 9 => 9 | 51 => 111 | 55 => 115 | 57 => 117 | 58 => 118 | 33 => 94 | n => n, fun | n => n⟩
theorem Try.sortedI : Go.Proofs.SlLaysZI.n6 Try.prog Try.sortedI_ren := {
 mixed := by kernel_rfl
 f6 := ⟨Try.f44.name, by decide, Try.func44.trans (congrArg some (by kernel_rfl))⟩
 f8 := ⟨Try.f57.name, by decide, Try.func57.trans (congrArg some (by kernel_rfl))⟩
 f11 := ⟨Try.f62.name, by decide, Try.func62.trans (congrArg some (by kernel_rfl))⟩
 t0 := Try.underlying0
 a0 := Try.isAgg0
 z0 := Try.sizeOf0
 v0 := Try.zeroValue0
 t24 := Try.underlying53
 a24 := Try.isAgg53
 z24 := Try.sizeOf53
 v24 := Try.zeroValue53
 t26 := Try.underlying2
 a26 := Try.isAgg2
 z26 := Try.sizeOf2
 v26 := Try.zeroValue2
 t28 := Try.underlying82
 a28 := Try.isAgg82
 z28 := Try.sizeOf82
 v28 := Try.zeroValue82
 i26 := by kernel_rfl }
def Try.sortI_ren : Go.Shelf.Ren := ⟨fun | 5 => 58 | 8 => 64 | 7 => 63 | 19 => 75 | 20 => 76 | 10 => 66 | 11 => 67 | 12 => 68 | 13 => 69 | 14 => 70 | 15 => 71 | 16 => 72 | 17 => 73 | 18 => 74 | 30 => 77 | 31 => 78 | 32 => 79 | 33 => 80 | 34 => 81 | 35 => 60 | 40 => 82 | n => n, fun | 23 => 53 | 25 => 2 | 3 => 3 | 32 => 88 | 22 => 53 | 0 => 0 | 44 => 108 | 46 => 110 | 4 => 4 | 36 => 101 | 35 => 100 | 41 => 72 | 5 => 5 | 9 => 9 | 53 => 111 | 57 => 115 | 63 => 117 | 64 => 118 | n => n, fun | n => n⟩
theorem Try.sortI : Go.Proofs.SlLaysM.n5 Try.prog Try.sortI_ren := {
 mixed := by kernel_rfl
 f5 := ⟨Try.f58.name, by decide, Try.func58.trans (congrArg some (by kernel_rfl))⟩
 f7 := ⟨Try.f63.name, by decide, Try.func63.trans (congrArg some (by kernel_rfl))⟩
 f8 := Try.func64.trans (congrArg some (by kernel_rfl))
 f10 := ⟨Try.f66.name, by decide, Try.func66.trans (congrArg some (by kernel_rfl))⟩
 f11 := ⟨Try.f67.name, by decide, Try.func67.trans (congrArg some (by kernel_rfl))⟩
 f12 := ⟨Try.f68.name, by decide, Try.func68.trans (congrArg some (by kernel_rfl))⟩
 f13 := ⟨Try.f69.name, by decide, Try.func69.trans (congrArg some (by kernel_rfl))⟩
 f14 := ⟨Try.f70.name, by decide, Try.func70.trans (congrArg some (by kernel_rfl))⟩
 f15 := ⟨Try.f71.name, by decide, Try.func71.trans (congrArg some (by kernel_rfl))⟩
 f16 := ⟨Try.f72.name, by decide, Try.func72.trans (congrArg some (by kernel_rfl))⟩
 f17 := ⟨Try.f73.name, by decide, Try.func73.trans (congrArg some (by kernel_rfl))⟩
 f18 := ⟨Try.f74.name, by decide, Try.func74.trans (congrArg some (by kernel_rfl))⟩
 f19 := Try.func75.trans (congrArg some (by kernel_rfl))
 f20 := Try.func76.trans (congrArg some (by kernel_rfl))
 f30 := ⟨Try.f77.name, by decide, Try.func77.trans (congrArg some (by kernel_rfl))⟩
 f31 := Try.func78.trans (congrArg some (by kernel_rfl))
 f32 := Try.func79.trans (congrArg some (by kernel_rfl))
 f33 := ⟨Try.f80.name, by decide, Try.func80.trans (congrArg some (by kernel_rfl))⟩
 f34 := ⟨Try.f81.name, by decide, Try.func81.trans (congrArg some (by kernel_rfl))⟩
 f35 := ⟨Try.f60.name, by decide, Try.func60.trans (congrArg some (by kernel_rfl))⟩
 f40 := ⟨Try.f82.name, by decide, Try.func82.trans (congrArg some (by kernel_rfl))⟩
 t0 := Try.underlying0
 a0 := Try.isAgg0
 z0 := Try.sizeOf0
 v0 := Try.zeroValue0
 t3 := Try.underlying3
 a3 := Try.isAgg3
 z3 := Try.sizeOf3
 v3 := Try.zeroValue3
 t4 := Try.underlying4
 a4 := Try.isAgg4
 z4 := Try.sizeOf4
 v4 := Try.zeroValue4
 t5 := Try.underlying5
 a5 := Try.isAgg5
 z5 := Try.sizeOf5
 v5 := Try.zeroValue5
 t9 := Try.underlying9
 a9 := Try.isAgg9
 z9 := Try.sizeOf9
 v9 := Try.zeroValue9
 t22 := Try.underlying53
 a22 := Try.isAgg53
 z22 := Try.sizeOf53
 v22 := Try.zeroValue53
 t23 := Try.underlying53
 a23 := Try.isAgg53
 z23 := Try.sizeOf53
 v23 := Try.zeroValue53
 t25 := Try.underlying2
 a25 := Try.isAgg2
 z25 := Try.sizeOf2
 v25 := Try.zeroValue2
 t32 := Try.underlying88
 a32 := Try.isAgg88
 z32 := Try.sizeOf88
 v32 := Try.zeroValue88
 t35 := Try.underlying100
 a35 := Try.isAgg100
 z35 := Try.sizeOf100
 v35 := Try.zeroValue100
 t36 := Try.underlying101
 a36 := Try.isAgg101
 z36 := Try.sizeOf101
 v36 := Try.zeroValue101
 t41 := Try.underlying72
 a41 := Try.isAgg72
 z41 := Try.sizeOf72
 v41 := Try.zeroValue72
 t44 := Try.underlying108
 a44 := Try.isAgg108
 z44 := Try.sizeOf108
 v44 := Try.zeroValue108
 t46 := Try.underlying110
 a46 := Try.isAgg110
 z46 := Try.sizeOf110
 v46 := Try.zeroValue110
 t53 := Try.underlying111
 a53 := Try.isAgg111
 z53 := Try.sizeOf111
 v53 := Try.zeroValue111
 t57 := Try.underlying115
 a57 := Try.isAgg115
 z57 := Try.sizeOf115
 v57 := Try.zeroValue115
 t63 := Try.underlying117
 a63 := Try.isAgg117
 z63 := Try.sizeOf117
 v63 := Try.zeroValue117
 t64 := Try.underlying118
 a64 := Try.isAgg118
 z64 := Try.sizeOf118
 v64 := Try.zeroValue118 }
end Go.Proofs
