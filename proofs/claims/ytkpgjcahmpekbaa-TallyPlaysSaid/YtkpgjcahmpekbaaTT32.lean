/-
  Joined: TwIV.
-/
import Derived.Maps.OwnSet
import Derived.Test.YtkpgjcahmpekbaaTT30
import Derived.Test.YtkpgjcahmpekbaaTT31
namespace Go.Proofs.Ytkpgjcahmpekbaa
open Go.RowKit

open Go.Maps Go.Sort Go.Shelf
def rdAny : Value → Option (DataW Unit × List MemPlace) := fun _ => some (.nil, [])
def sKeys {κ : Type} (M : List (Int × κ)) : List Int := (M.map Prod.fst).mergeSort leI
theorem owns_of {κ : Type} {enc : κ → Value} {ok : κ → Prop} {w : World} {gv : Nat} {M : List (Int × κ)} (h : VMp enc ok w gv M) (hn : (M.map Prod.fst).Nodup) (hi : ∀ p ∈ M, In64 p.1) (hs : M.length ≤ 1000000) :
    ∃ D0 : DataW Unit, w.ownsMap Try.prog 3 rdAny gv M.length D0 ∧ (intKeys D0).Perm (M.map Prod.fst) ∧ Maps.size D0 ≤ M.length := by
  obtain ⟨⟨es, ck, hb, hk, h1, h2⟩, _⟩ := h
  have hlen : es.size = M.length := by have := congrArg List.length hk; simpa [encK, encM] using this
  have hkeys : es.toList.map (·.key) = M.map (fun p => encI p.1) := by
    have := congrArg (List.map Prod.fst) hk
    simpa [encK, encM, kvE, Function.comp_def] using this
  have hin : ∀ x ∈ es.toList, ∃ a : Int, x.key = .int .i64 a ∧ keyOf Try.prog 3 x.key = some (.int .i64 a) := fun x hx => by
    have h3 : x.key ∈ M.map (fun p => encI p.1) := by rw [← hkeys]; exact List.mem_map.2 ⟨x, hx, rfl⟩
    obtain ⟨p, hp, e⟩ := List.mem_map.1 h3
    have h4 := hi p hp
    refine ⟨p.1, e.symm, ?_⟩
    rw [← e]
    have hw : (Lit.int .i64 p.1).wf = true := by
      unfold In64 at h4
      simp [Lit.wf, IntKind.min, IntKind.max, IntKind.signed, IntKind.bits]
      omega
    simp [keyOf, encI, Try.underlying3, mapKey, hw]
  have hrg : ∀ x ∈ es.toList, ∀ a, x.key = .int .i64 a → WideElems.rg Try.prog 3 rdAny x = (.int .i64 a, .nil) := fun x hx a e => by
    obtain ⟨a', e1, e2⟩ := hin x hx
    have ea : a' = a := by rw [e1] at e; injection e
    subst ea
    exact WideElems.rg_of (by
      obtain ⟨key, val, born⟩ := x
      exact WideElems.rd_mk e2 (show rdAny val = some (.nil, []) from rfl))
  refine ⟨_, ⟨es, ck, hb, ⟨(by rw [hlen]; exact Nat.le_trans hs (by decide)), ⟨h1, h2, ?_⟩, fun x hx => ?_⟩, (by omega), rfl⟩, ?_, ?_⟩
  · rw [hkeys]
    rw [List.nodup_iff_pairwise_ne, List.pairwise_map] at hn ⊢
    exact hn.imp (fun hne e => hne (by simpa [encI] using e))
  · obtain ⟨a, e1, e2⟩ := hin x hx
    exact ⟨_, by
      obtain ⟨key, val, born⟩ := x
      exact WideElems.rd_mk e2 (show rdAny val = some (.nil, []) from rfl)⟩
  · show ((_ : List (Lit × DataW Unit)).map fun p => _root_.Go.intOf p.1).Perm _
    refine ((Go.WideShapes.sorted_perm _).map _).trans ?_
    have e : (es.toList.map (WideElems.rg Try.prog 3 rdAny)).map (fun p => _root_.Go.intOf p.1) = M.map Prod.fst := by
      rw [List.map_map]
      have h5 : es.toList.map (fun x => match x.key with | .int _ a => a | _ => 0) = M.map Prod.fst := by
        have := congrArg (List.map (fun v : Value => match v with | .int _ a => a | _ => 0)) hkeys
        simpa [encI, Function.comp_def] using this
      rw [← h5]
      refine List.map_congr_left fun x hx => ?_
      obtain ⟨a, e1, _⟩ := hin x hx
      simp [hrg x hx a e1, e1, _root_.Go.intOf]
    rw [e]
  · simp [Maps.size, _root_.Go.length_sorted, hlen]
theorem flat_it : ∀ l : List Int, (l.map itC).flatten = l.map encZ
  | [] => rfl
  | a :: l => by
    rw [List.map_cons, List.flatten_cons, flat_it l]
    rfl
theorem is_of_row {w : World} {B : Nat} {v : Value} {l : List Int} (h : w.ownsRow B 3 1 v l.length (l.map encZ)) : ∃ A c, v = .slice A l.length c ∧ l.length ≤ c ∧ IsIn w A l.length l := by
  have h2 : Os w B 3 1 v (l.map itC) := ⟨by
    rw [List.length_map]
    rw [flat_it]
    exact h, fun x hx => by obtain ⟨a, _, rfl⟩ := List.mem_map.1 hx; rfl⟩
  obtain ⟨A, c, e, h3, _, h4⟩ := h2.out
  rw [List.length_map] at e h3 h4
  exact ⟨A, c, e, h3, h4⟩
theorem Try.sortsI (m : Nat) : AnyZI.SortsIn Try.prog Try.sortedI_ren Fence.wide m :=
  ⟨fun blk off cap ss W hH hblk hsz => callsIn_wide.2 (AnyM.slices_Sort_int Try.sortI blk off cap ss W hH hblk hsz),
   fun p cap W => callsIn_wide.2 (AnyM.slices_Sort_int_none Try.sortI p cap W)⟩
set_option maxHeartbeats 16000000 in
set_option maxRecDepth 100000 in
theorem voters_V {w : World} {g gv gc : Nat} {M : List (Int × Vo)} (h : TlR 90 encV okV w g gv gc M) (hi : ∀ p ∈ M, In64 p.1) (hs : M.length ≤ 1000000) :
    Calls Try.prog 54 #[(.pointer (some ⟨g, 0, none⟩))] w fun e w' => ∃ A c, e = .returned (.slice A (sKeys M).length c) ∧ (sKeys M).length ≤ c ∧ IsIn w' A (sKeys M).length (sKeys M) ∧ Below w.heap.size w w' := by
  obtain ⟨D0, hown, hperm, hsz⟩ := owns_of h.vm h.nd hi hs
  have hbl := hown.lt
  have c0 : w.cell? ⟨g, 0, none⟩ = some (.map (some gv)) := h.box.cellAt rfl
  have hmax : Maps.size D0 ≤ maxLen := Nat.le_trans hsz (Nat.le_trans hs (by decide))
  have hbytes : Maps.size D0 * 8 ≤ 140737488355328 := by omega
  have hsk : (sKeys M) = (M.map Prod.fst).mergeSort leI := rfl
  clear h
  refine (callsIn_wide (n := 6)).1 ?_
  have hseq : SeqGives Fence.wide 2 Try.prog 94 #[.pointer (some ⟨w.heap.size, 0, none⟩)] encZ (fun ss => ss.Perm (intKeys D0)) (Maps.size D0) (w.alloc (.cells #[.map (some gv)] 87)) :=
    AnyZI.keys_gives (ρ := Try.keysV_ren) { Try.keysV with } Fence.wide _ trivial rfl (by omega) w.heap.size gv M.length D0 _ (by simp) (by simp) (by
      obtain ⟨es, clock, hb, Ft, hs, hD⟩ := hown
      exact ⟨es, clock, (Below.heap_alloc _ _ gv hbl).trans hb, Ft, hs, hD⟩)
  have cK : ∀ mb W, CallsIn Fence.wide 5 Try.prog 81 #[.map mb] W fun e w' => e = .returned (.func (.func 94) #[] #[.pointer (some ⟨W.heap.size, 0, none⟩)]) ∧ w' = W.alloc (.cells #[.map mb] 87) := fun mb W => AnyZI.keys_in Try.keysV Fence.wide 5 trivial rfl mb W
  have cS := AnyZI.sorted_in Try.sortedI Fence.wide 5 trivial trivial trivial trivial rfl (by omega) (Try.sortsI _) (enters_of Try.func93 (by kernel_rfl) rfl) 94 #[.pointer (some ⟨w.heap.size, 0, none⟩)] trivial (enters_of Try.func94 (by kernel_rfl) rfl) _ _ hmax hbytes _ hseq
  change CallsIn _ _ Try.prog 80 _ _ _ at cS
  have hfK : Fence.wide.fn 81 := trivial
  have hfS : Fence.wide.fn 80 := trivial
  refine callsIn_of_wp Try.func54 rfl trivial ?_ rfl
  simp only [Try.ntmps54, List.size_toArray, List.length_cons, List.length_nil, Nat.reduceAdd, Nat.reduceSub, Array.replicate_succ, Array.replicate_zero, List.push_toArray, List.append_toArray, List.nil_append, List.cons_append]
  gi_wp2_with (first
    | (gi_at_call 81; refine (cK _ _).mono ?_; rintro e w' ⟨rfl, rfl⟩)
    | (gi_at_call 80; refine cS.mono ?_; rintro e w' ⟨v, ss, rfl, hS, hrow, hnil, hb⟩))
  go_ret
  have e1 : ss.mergeSort leI = sKeys M := mergeSort_of_perm_i (hS.trans hperm)
  have e2 : ss.length = (sKeys M).length := by rw [← e1, List.length_mergeSort]
  have hrow2 : w'.ownsRow w.heap.size 3 1 v (sKeys M).length ((sKeys M).map encZ) := by
    have h9 := ownsRow_base_a hrow (base' := w.heap.size) (by simp)
    rw [e1, e2] at h9
    exact h9
  obtain ⟨A, c, e, h3, h4⟩ := is_of_row hrow2
  subst e
  exact ⟨A, c, rfl, h3, h4, ((Below.refl _ w).alloc (Nat.le_refl _) _).trans (hb.mono (by simp))⟩

end Go.Proofs.Ytkpgjcahmpekbaa
