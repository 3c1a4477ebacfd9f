/-
  What the rows list: the two tables. No walk here.
-/
import Derived.Test.YtgbobemhogeeeaaDoorDQ
import Derived.Test.YtgbobemhogeeeaaDoorLB
import Derived.Test.YtgbobemhogeeeaaDoorTie
import Derived.Test.YtgbobemhogeeeaaDoorCards
import Derived.ProofKit
import Derived.LaidMore
import Derived.OpenShut
import Derived.Stop.Joined
import Derived.Stop.LaidErr
import Derived.Lib.LaidTab
namespace Go.Proofs.YtgbobemhogeeeaaDoor
open Go.ChangeShapes Go.WideShapes Go.ChangeAt Go.RowKit Go.Deep

theorem Tryd.cells_u32 : Tryd.prog.cellsOf 41 = 1 := by kernel_rfl
theorem Tryd.cells_8 : Tryd.prog.cellsOf 85 = 8 := by kernel_rfl
theorem Tryd.cells_64 : Tryd.prog.cellsOf 90 = 64 := by kernel_rfl
theorem Tryd.gFirst : Tryd.prog.globalNamed "bottomry/sums.first" = some 0 := by kernel_rfl
theorem Tryd.gAdd : Tryd.prog.globalNamed "bottomry/sums.addends" = some 1 := by kernel_rfl
theorem Tryd.tFirst : (Tryd.prog.globals[0]?).map (·.type) = some 85 := by kernel_rfl
theorem Tryd.tAdd : (Tryd.prog.globals[1]?).map (·.type) = some 90 := by kernel_rfl

/-- What the rows list. -/
noncomputable def laid2 : List (String × DataW Unit) := [("bottomry/sums.first", Rows.laid_bottomry_sums_first), ("bottomry/sums.addends", Rows.laid_bottomry_sums_addends)]
theorem first_tab : (Rows.laid_bottomry_sums_first : DataW Unit) = Lib.tabData .u32 (first8.list.map n32) := by kernel_rfl
theorem add_tab : (Rows.laid_bottomry_sums_addends : DataW Unit) = Lib.tabData .u32 (kTab.map n32) := by kernel_rfl
theorem getD_n32 (l : List UInt32) (i : Nat) (h : i < l.length) : (l.map n32).getD i 0 = n32 (l.getD i 0) := by
  simp [List.getD, h]
/-- WHAT THE CONDITION GIVES THE WALKS. -/
theorem tab_of {W : World} (h : laidMetH Tryd.prog laid2 W) : Tab W := by
  rw [MakeChecks.laidMetH_plain _ _ _ (by kernel_rfl)] at h
  unfold laid2 at h
  rw [first_tab, add_tab] at h
  have h1 := Lib.tabIs_of_head Tryd.gFirst Tryd.tFirst Tryd.underlying85 Tryd.underlying41 Tryd.cells_u32 Tryd.cells_8 h
  have h2 := Lib.tabIs_of_head Tryd.gAdd Tryd.tAdd Tryd.underlying90 Tryd.underlying41 Tryd.cells_u32 Tryd.cells_64 h.tail
  refine ⟨fun i hi => ?_, fun i hi => ?_⟩
  · have hl : i < first8.list.length := hi
    rw [h1.cell Tryd.gFirst i (by simpa using hl), getD_n32 _ _ hl]
  · have hl : i < kTab.length := hi
    rw [h2.cell Tryd.gAdd i (by simpa using hl), getD_n32 _ _ hl]
/-- The door's own heap meets the condition. -/
theorem door_met (os : Go.Os) (args : Array Value) : laidMetH Tryd.prog laid2 ((World.doorLaid Tryd.prog 400 os).forCall (fun _ _ => 0) ⟨#[], args, []⟩).memory :=
  laidMetH_of_parts3 (fuel := 8) (laidMet_of_run' 8 (by kernel_rfl) (by kernel_rfl)) (by kernel_rfl) (by kernel_rfl)


end Go.Proofs.YtgbobemhogeeeaaDoor
