/-
  Laws for regions that draw: an empty slice literal, an allocation of a ledger, what one's own rows keep.
-/
import Derived.Test.YtkbeodlihmmdbaaPgC1
import Derived.Test.YtkbeodlihmmdbaaLgQ
namespace Go.Proofs.Ytkbeodlihmmdbaa
open Go.RowKit

theorem Try.build_e_lt (w : World) : (Instr.buildSlice 22 0 #[]).run Try.prog w = .ok (.slice (some ⟨w.heap.size, 0, none⟩) 0 0) (w.alloc (.cells #[] 27)) := by kernel_rfl
theorem Try.build_e_oc (w : World) : (Instr.buildSlice 23 0 #[]).run Try.prog w = .ok (.slice (some ⟨w.heap.size, 0, none⟩) 0 0) (w.alloc (.cells #[] 30)) := by kernel_rfl
theorem Try.alloc_lg (w : World) : (Instr.alloc 25 true (.tuple #[])).run Try.prog w = .ok (.pointer (some ⟨w.heap.size, 0, none⟩)) (w.alloc (.cells #[.int .i64 0, .int .i64 0, .slice none 0 0, .slice none 0 0] 25)) := by kernel_rfl
theorem step_build_empty {P : Program} {s e : TypeId} {k : Nat} {ops : Array Oper} {o : Oper} {a : Act} {w : World} {K : Act → World → Prop} {Q : Exit → Act → World → Prop} {F : Prop} (hgd : o.guard = none) (ho : o.op = .buildSlice s 0 #[])
    (hrun : (Instr.buildSlice s 0 #[]).run P w = .ok (.slice (some ⟨w.heap.size, 0, none⟩) 0 0) (w.alloc (.cells #[] e)))
    (h : ∀ g w', Os w' w.heap.size e k (.slice (some ⟨g, 0, none⟩) 0 0) [] → Below w.heap.size w w' → K (a.put o.dst (.slice (some ⟨g, 0, none⟩) 0 0)) w') : if Region.wanted o (yielded ops a.tmps) = true then Oper.wp P o a w K Q else F := by
  have hw : Region.wanted o (yielded ops a.tmps) = true := by simp [Region.wanted, hgd]
  rw [if_pos hw]
  unfold Oper.wp execOp
  simp only [ho, Sem.run_bind, List.map_toArray, List.map_nil, hrun, Result.andThen_ok]
  exact h _ _ (Os.made w e k) ((Below.refl _ w).alloc (Nat.le_refl _) _)
theorem step_alloc_lg {P : Program} {T : TypeId} {cs : List Value} {ops : Array Oper} {o : Oper} {a : Act} {w : World} {K : Act → World → Prop} {Q : Exit → Act → World → Prop} {F : Prop} (hgd : o.guard = none) (ho : o.op = .alloc T)
    (hrun : (Instr.alloc T true (.tuple #[])).run P w = .ok (.pointer (some ⟨w.heap.size, 0, none⟩)) (w.alloc (.cells cs.toArray T)))
    (h : ∀ g w', w.heap.size ≤ g → Blk w' g T cs → Below w.heap.size w w' → K (a.put o.dst (.pointer (some ⟨g, 0, none⟩))) w') : if Region.wanted o (yielded ops a.tmps) = true then Oper.wp P o a w K Q else F := by
  have hw : Region.wanted o (yielded ops a.tmps) = true := by simp [Region.wanted, hgd]
  rw [if_pos hw]
  unfold Oper.wp execOp
  simp only [ho, Sem.run_bind, hrun, Result.andThen_ok]
  exact h _ _ (Nat.le_refl _) (Blk.fresh rfl rfl) ((Below.refl _ w).alloc (Nat.le_refl _) _)
/-- A row of one's own of another type grows. -/
theorem Os.apart {w w' : World} {B B' : Nat} {e e' : TypeId} {k k' : Nat} {v v' : Value} {xs xs' : List (List Value)} (h : Os w B e k v xs) (h' : Os w B' e' k' v' xs') (hne : e' ≠ e) (hg : w.grownBy w' v'.ownBlock) : Os w' B e k v xs := by
  rcases h'.1.2 with ⟨rfl, _⟩ | ⟨g, cap, cur, rfl, _, hg2, _⟩
  · exact h.keep fun b _ hl _ => hg.block b hl (by simp [Value.ownBlock])
  · exact h.only hg hg2 hne
theorem Blk.apart {w w' : World} {g : Nat} {t : TypeId} {cs : List Value} {B' : Nat} {e' : TypeId} {k' : Nat} {v' : Value} {xs' : List (List Value)} (h : Blk w g t cs) (h' : Os w B' e' k' v' xs') (hne : t ≠ e') (hg : w.grownBy w' v'.ownBlock) : Blk w' g t cs := by
  rcases h'.1.2 with ⟨rfl, _⟩ | ⟨g2, cap, cur, rfl, _, hg2, _⟩
  · exact h.grown hg (by simp [Value.ownBlock])
  · refine h.grown hg (fun e2 => ?_)
    have e3 : g = g2 := Option.some.inj e2
    subst e3
    unfold Blk at h
    rw [hg2] at h
    injection h with h
    injection h with _ ht
    exact hne ht.symm
theorem withL_lens (l : Lg) (x : Lt) : (withL l x).1.ls.length ≤ l.ls.length + 1 ∧ (withL l x).1.os.length ≤ l.os.length := by
  unfold withL
  split
  · exact ⟨by simp [Lg.no], by simp [Lg.no]⟩
  · split
    · exact ⟨by simp [Lg.no], by simp [Lg.no]⟩
    · exact ⟨putL_len _ _ _, Nat.le_refl _⟩
theorem toldL_lens (l : Lg) (o : Oc) : (toldL l o).ls.length ≤ l.ls.length ∧ (toldL l o).os.length ≤ l.os.length + 1 := ⟨Nat.le_refl _, putO_len _ _ _⟩
theorem LgIn.stored2 {w w' : World} {A : Option Addr} {n : Nat} {B : Option Addr} {m : Nat} {l : Lg} {g : Nat} {t : TypeId} {i j : Int} {A2 : Option Addr} {n2 c2 : Nat} {B2 : Option Addr} {m2 d2 : Nat} (h : LgIn w A n B m l) (hb : Blk w g t [.int .i64 i, .int .i64 j, .slice A2 n2 c2, .slice B2 m2 d2]) (hg : w.grownBy w' (some g)) : LgIn w' A n B m l := by
  refine ⟨⟨h.1.1, fun hn => ?_⟩, ⟨h.2.1, fun hm => ?_⟩⟩
  · obtain ⟨g', o, e, hc⟩ := h.1.2 hn
    have hne : g' ≠ g := by
      rintro rfl
      obtain ⟨g2, o2, x, e2, _, _, _, hr⟩ := h.lt_at (i := 0) hn
      rw [e] at e2
      obtain ⟨rfl, rfl⟩ : g' = g2 ∧ o = o2 := by simpa using e2
      have h1 := hr 0 (.string (ba x.nm)) rfl
      rw [hb.cell] at h1
      have h2 := List.mem_of_getElem? h1
      simp at h2
    exact ⟨g', o, e, fun i cs hi => rangeAt.only (hc i cs hi) hg hne⟩
  · obtain ⟨g', o, e, hc⟩ := h.2.2 hm
    have hne : g' ≠ g := by
      rintro rfl
      obtain ⟨g2, o2, x, e2, _, _, _, hr⟩ := h.oc_at (i := 0) hm
      rw [e] at e2
      obtain ⟨rfl, rfl⟩ : g' = g2 ∧ o = o2 := by simpa using e2
      have h1 := hr 2 (.int .i64 x.rs) rfl
      rw [hb.cell] at h1
      have h3 : o + 0 * 3 + 2 < 4 := (List.getElem?_eq_some_iff.1 h1).1
      have h4 : o = 0 ∨ o = 1 := by omega
      rcases h4 with rfl | rfl <;> simp at h1
    exact ⟨g', o, e, fun i cs hi => rangeAt.only (hc i cs hi) hg hne⟩

end Go.Proofs.Ytkbeodlihmmdbaa
