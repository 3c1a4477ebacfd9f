/-
  Joined: TwIV.
-/
import Derived.Maps.OwnSet
import Derived.Deep.RegionHeld
import Derived.Deep.CutBlock
import Derived.BigGuard
import Derived.Test.YtkpgjcahmpekbaaTU23
import Derived.Test.YtkpgjcahmpekbaaTU24
namespace Go.Proofs.Ytkpgjcahmpekbaa
open Go.RowKit

open Go.Maps Go.Sort Go.Shelf
def rdAny : Value → Option (DataW Unit × List MemPlace) := fun _ => some (.nil, [])
def sKeys {κ : Type} (M : List (Int × κ)) : List Int := (M.map Prod.fst).mergeSort leI
theorem owns_of {κ : Type} {enc : κ → Value} {ok : κ → Prop} {w : World} {gv : Nat} {M : List (Int × κ)} (h : VMp enc ok w gv M) (hn : (M.map Prod.fst).Nodup) (hi : ∀ p ∈ M, In64 p.1) (hs : M.length ≤ 1000000) :
    ∃ D0 : DataW Unit, w.ownsMap Try.prog 3 rdAny gv M.length D0 ∧ (intKeys D0).Perm (M.map Prod.fst) ∧ Maps.size D0 ≤ M.length := by
  obtain ⟨⟨es, ck, hb, hk, h1, h2⟩, _⟩ := h
  have hlen : es.size = M.length := by have := congrArg List.length hk; simpa [encK, encM] using this
  have hkeys : es.toList.map (·.key) = M.map (fun p => encI p.1) := by
    have := congrArg (List.map Prod.fst) hk
    simpa [encK, encM, kvE, Function.comp_def] using this
  have hin : ∀ x ∈ es.toList, ∃ a : Int, x.key = .int .i64 a ∧ keyOf Try.prog 3 x.key = some (.int .i64 a) := fun x hx => by
    have h3 : x.key ∈ M.map (fun p => encI p.1) := by rw [← hkeys]; exact List.mem_map.2 ⟨x, hx, rfl⟩
    obtain ⟨p, hp, e⟩ := List.mem_map.1 h3
    have h4 := hi p hp
    refine ⟨p.1, e.symm, ?_⟩
    rw [← e]
    have hw : (Lit.int .i64 p.1).wf = true := by
      unfold In64 at h4
      simp [Lit.wf, IntKind.min, IntKind.max, IntKind.signed, IntKind.bits]
      omega
    simp [keyOf, encI, Try.underlying3, mapKey, hw]
  have hrg : ∀ x ∈ es.toList, ∀ a, x.key = .int .i64 a → WideElems.rg Try.prog 3 rdAny x = (.int .i64 a, .nil) := fun x hx a e => by
    obtain ⟨a', e1, e2⟩ := hin x hx
    have ea : a' = a := by rw [e1] at e; injection e
    subst ea
    exact WideElems.rg_of (by
      obtain ⟨key, val, born⟩ := x
      exact WideElems.rd_mk e2 (show rdAny val = some (.nil, []) from rfl))
  refine ⟨_, ⟨es, ck, hb, ⟨(by rw [hlen]; exact Nat.le_trans hs (by decide)), ⟨h1, h2, ?_⟩, fun x hx => ?_⟩, (by omega), rfl⟩, ?_, ?_⟩
  · rw [hkeys]
    rw [List.nodup_iff_pairwise_ne, List.pairwise_map] at hn ⊢
    exact hn.imp (fun hne e => hne (by simpa [encI] using e))
  · obtain ⟨a, e1, e2⟩ := hin x hx
    exact ⟨_, by
      obtain ⟨key, val, born⟩ := x
      exact WideElems.rd_mk e2 (show rdAny val = some (.nil, []) from rfl)⟩
  · show ((_ : List (Lit × DataW Unit)).map fun p => _root_.Go.intOf p.1).Perm _
    refine ((Go.WideShapes.sorted_perm _).map _).trans ?_
    have e : (es.toList.map (WideElems.rg Try.prog 3 rdAny)).map (fun p => _root_.Go.intOf p.1) = M.map Prod.fst := by
      rw [List.map_map]
      have h5 : es.toList.map (fun x => match x.key with | .int _ a => a | _ => 0) = M.map Prod.fst := by
        have := congrArg (List.map (fun v : Value => match v with | .int _ a => a | _ => 0)) hkeys
        simpa [encI, Function.comp_def] using this
      rw [← h5]
      refine List.map_congr_left fun x hx => ?_
      obtain ⟨a, e1, _⟩ := hin x hx
      simp [hrg x hx a e1, e1, _root_.Go.intOf]
    rw [e]
  · simp [Maps.size, _root_.Go.length_sorted, hlen]
theorem flat_it : ∀ l : List Int, (l.map itC).flatten = l.map encZ
  | [] => rfl
  | a :: l => by
    rw [List.map_cons, List.flatten_cons, flat_it l]
    rfl
theorem is_of_row {w : World} {B : Nat} {v : Value} {l : List Int} (h : w.ownsRow B 3 1 v l.length (l.map encZ)) : ∃ A c, v = .slice A l.length c ∧ l.length ≤ c ∧ IsIn w A l.length l := by
  have h2 : Os w B 3 1 v (l.map itC) := ⟨by
    rw [List.length_map]
    rw [flat_it]
    exact h, fun x hx => by obtain ⟨a, _, rfl⟩ := List.mem_map.1 hx; rfl⟩
  obtain ⟨A, c, e, h3, _, h4⟩ := h2.out
  rw [List.length_map] at e h3 h4
  exact ⟨A, c, e, h3, h4⟩
theorem Try.sortsI (m : Nat) : AnyZI.SortsIn Try.prog Try.sortedI_ren Fence.wide m :=
  ⟨fun blk off cap ss W hH hblk hsz => callsIn_wide.2 (AnyM.slices_Sort_int Try.sortI blk off cap ss W hH hblk hsz),
   fun p cap W => callsIn_wide.2 (AnyM.slices_Sort_int_none Try.sortI p cap W)⟩
end Go.Proofs.Ytkpgjcahmpekbaa
