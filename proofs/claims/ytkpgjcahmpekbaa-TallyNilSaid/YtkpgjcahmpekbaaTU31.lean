/-
  Joined: TwJB.
-/
import Derived.Test.YtkpgjcahmpekbaaTU25
import Derived.Test.YtkpgjcahmpekbaaTU30
namespace Go.Proofs.Ytkpgjcahmpekbaa
open Go.RowKit

open Go.Maps Go.Sort Go.Shelf
set_option maxHeartbeats 16000000 in
set_option maxRecDepth 100000 in
theorem voters_B {w : World} {g gv gc : Nat} {M : List (Int × UInt8)} (h : TlR 107 encY (fun _ => True) w g gv gc M) (hi : ∀ p ∈ M, In64 p.1) (hs : M.length ≤ 1000000) :
  Calls Try.prog 64 #[(.pointer (some ⟨g, 0, none⟩))] w fun e w' => ∃ A c, e = .returned (.slice A (sKeys M).length c) ∧ (sKeys M).length ≤ c ∧ IsIn w' A (sKeys M).length (sKeys M) ∧ Below w.heap.size w w' := by
 obtain ⟨D0, hown, hperm, hsz⟩ := owns_of h.vm h.nd hi hs
 have hbl := hown.lt
 have c0 : w.cell? ⟨g, 0, none⟩ = some (.map (some gv)) := h.box.cellAt rfl
 have hmax : Maps.size D0 ≤ maxLen := Nat.le_trans hsz (Nat.le_trans hs (by decide))
 have hbytes : Maps.size D0 * 8 ≤ 140737488355328 := by omega
 have hsk : (sKeys M) = (M.map Prod.fst).mergeSort leI := rfl
 clear h
 refine (callsIn_wide (n := 6)).1 ?_
 have hseq : SeqGives Fence.wide 2 Try.prog 96 #[.pointer (some ⟨w.heap.size, 0, none⟩)] encZ (fun ss => ss.Perm (intKeys D0)) (Maps.size D0) (w.alloc (.cells #[.map (some gv)] 104)) :=
  AnyZI.keys_gives (ρ := Try.keysB_ren) { Try.keysB with } Fence.wide _ trivial rfl (by omega) w.heap.size gv M.length D0 _ (by simp) (by simp) (by
   obtain ⟨es, clock, hb, Ft, hs, hD⟩ := hown
   exact ⟨es, clock, (Below.heap_alloc _ _ gv hbl).trans hb, Ft, hs, hD⟩)
 have cK : ∀ mb W, CallsIn Fence.wide 5 Try.prog 88 #[.map mb] W fun e w' => e = .returned (.func (.func 96) #[] #[.pointer (some ⟨W.heap.size, 0, none⟩)]) ∧ w' = W.alloc (.cells #[.map mb] 104) := fun mb W => AnyZI.keys_in Try.keysB Fence.wide 5 trivial rfl mb W
 have cS := AnyZI.sorted_in Try.sortedI Fence.wide 5 trivial trivial trivial trivial rfl (by omega) (Try.sortsI _) (enters_of Try.func93 (by kernel_rfl) rfl) 96 #[.pointer (some ⟨w.heap.size, 0, none⟩)] trivial (enters_of Try.func96 (by kernel_rfl) rfl) _ _ hmax hbytes _ hseq
 change CallsIn _ _ Try.prog 80 _ _ _ at cS
 have hfK : Fence.wide.fn 88 := trivial
 have hfS : Fence.wide.fn 80 := trivial
 refine callsIn_of_wp Try.func64 rfl trivial ?_ rfl
 simp only [Try.ntmps64, List.size_toArray, List.length_cons, List.length_nil, Nat.reduceAdd, Nat.reduceSub, Array.replicate_succ, Array.replicate_zero, List.push_toArray, List.append_toArray, List.nil_append, List.cons_append]
 gi_wp2_with (first
  | (gi_at_call 88; refine (cK _ _).mono ?_; rintro e w' ⟨rfl, rfl⟩)
  | (gi_at_call 80; refine cS.mono ?_; rintro e w' ⟨v, ss, rfl, hS, hrow, hnil, hb⟩))
 go_ret
 have e1 : ss.mergeSort leI = sKeys M := mergeSort_of_perm_i (hS.trans hperm)
 have e2 : ss.length = (sKeys M).length := by rw [← e1, List.length_mergeSort]
 have hrow2 : w'.ownsRow w.heap.size 3 1 v (sKeys M).length ((sKeys M).map encZ) := by
  have h9 := ownsRow_base_a hrow (base' := w.heap.size) (by simp)
  rw [e1, e2] at h9
  exact h9
 obtain ⟨A, c, e, h3, h4⟩ := is_of_row hrow2
 subst e
 exact ⟨A, c, rfl, h3, h4, ((Below.refl _ w).alloc (Nat.le_refl _) _).trans (hb.mono (by simp))⟩

end Go.Proofs.Ytkpgjcahmpekbaa
