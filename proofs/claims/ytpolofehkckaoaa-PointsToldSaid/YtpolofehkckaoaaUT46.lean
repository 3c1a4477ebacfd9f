/-
  Joined: PwW.
-/
import Derived.Test.YtpolofehkckaoaaUT44
import Derived.Test.YtpolofehkckaoaaUT45
import Derived.Test.YtpolofehkckaoaaUT19
namespace Go.Proofs.Ytpolofehkckaoaa
open Go.RowKit Go.Shelf
attribute [local go_sem] Oper.semAt_some

theorem bestL_acc {o : List (List Po)} {above k : Int} : ∀ (l : List Po) (b : Po × Bool), bestL o above k l b = if (bestL o above k l (poZ, false)).2 = true then bestL o above k l (poZ, false) else b
 | [], b => by simp [bestL]
 | y :: l, b => by
  have h1 := bestL_acc (o := o) (above := above) (k := k) l (if above < y.sq ∧ k ≤ (supO y o : Int) then (y, true) else b)
  have h2 := bestL_acc (o := o) (above := above) (k := k) l (if above < y.sq ∧ k ≤ (supO y o : Int) then (y, true) else (poZ, false))
  unfold bestL
  rw [h1, h2]
  by_cases hc : above < y.sq ∧ k ≤ (supO y o : Int)
  ·rw [if_pos hc, if_pos hc]
   by_cases hb : (bestL o above k l (poZ, false)).2 = true
   ·rw [if_pos hb, if_pos hb]
   ·rw [if_neg hb, if_pos rfl]
  ·rw [if_neg hc, if_neg hc]
   by_cases hb : (bestL o above k l (poZ, false)).2 = true
   ·rw [if_pos hb, if_pos hb, if_pos hb]
   ·rw [if_neg hb, if_neg hb, if_neg (by simp)]
theorem bestL_mem {o : List (List Po)} {above k : Int} : ∀ (l : List Po), (bestL o above k l (poZ, false)).2 = true → (bestL o above k l (poZ, false)).1 ∈ l ∧ above < (bestL o above k l (poZ, false)).1.sq
 | [], h => by simp [bestL] at h
 | y :: l, h => by
  unfold bestL at h ⊢
  rw [bestL_acc] at h ⊢
  by_cases hb : (bestL o above k l (poZ, false)).2 = true
  ·rw [if_pos hb]
   exact ⟨List.mem_cons_of_mem _ (bestL_mem l hb).1, (bestL_mem l hb).2⟩
  ·rw [if_neg hb] at h ⊢
   by_cases hc : above < y.sq ∧ k ≤ (supO y o : Int)
   ·rw [if_pos hc]
    exact ⟨List.mem_cons_self, hc.1⟩
   ·rw [if_neg hc] at h
    cases h
theorem bestL_none {o : List (List Po)} {above k : Int} (l : List Po) (h : ¬ (bestL o above k l (poZ, false)).2 = true) : bestL o above k l (poZ, false) = (poZ, false) := by
 rw [bestL_acc, if_neg h]
theorem gS_fold {o : List (List Po)} {above k : Int} : ∀ (l : List Po), Ris l → ∀ (a : Int) (c : Po) (f : Bool), above ≤ a →
  l.foldl (gS o k) (a, c, f) = if (bestL o above k l (poZ, false)).2 = true ∧ a < (bestL o above k l (poZ, false)).1.sq then ((bestL o above k l (poZ, false)).1.sq, (bestL o above k l (poZ, false)).1, true) else (a, c, f)
 | [], _, a, c, f, _ => by simp [bestL]
 | y :: l, hr, a, c, f, ha => by
  have hr2 : Ris l := (List.pairwise_cons.1 hr).2
  have hy : ∀ z ∈ l, y.sq < z.sq := fun z hz => (List.pairwise_cons.1 hr).1 z.sq (List.mem_map_of_mem hz)
  rw [List.foldl_cons]
  have hB : bestL o above k (y :: l) (poZ, false) = if (bestL o above k l (poZ, false)).2 = true then bestL o above k l (poZ, false) else (if above < y.sq ∧ k ≤ (supO y o : Int) then (y, true) else (poZ, false)) := by
   conv => lhs; unfold bestL
   exact bestL_acc l _
  rw [hB]
  have hs : gS o k (a, c, f) y = if a < y.sq ∧ k ≤ (supO y o : Int) then (y.sq, y, true) else (a, c, f) := rfl
  rw [hs]
  by_cases hb : (bestL o above k l (poZ, false)).2 = true
  ·have hm := hy _ (bestL_mem l hb).1
   rw [if_pos hb]
   by_cases ht : a < y.sq ∧ k ≤ (supO y o : Int)
   ·rw [if_pos ht, gS_fold (above := above) l hr2 y.sq y true (by omega), if_pos ⟨hb, hm⟩, if_pos ⟨hb, by omega⟩]
   ·rw [if_neg ht, gS_fold (above := above) l hr2 a c f ha]
  ·rw [if_neg hb]
   by_cases ht : a < y.sq ∧ k ≤ (supO y o : Int)
   ·rw [if_pos ht, gS_fold (above := above) l hr2 y.sq y true (by omega), if_neg (fun h => hb h.1), if_pos (show above < y.sq ∧ k ≤ (supO y o : Int) from ⟨by omega, ht.2⟩), if_pos ⟨rfl, ht.1⟩]
   ·rw [if_neg ht, gS_fold (above := above) l hr2 a c f ha, if_neg (fun h => hb h.1)]
    by_cases hc : above < y.sq ∧ k ≤ (supO y o : Int)
    ·rw [if_pos hc, if_neg (fun h => ht ⟨h.2, hc.2⟩)]
    ·rw [if_neg hc, if_neg (fun h => by cases h.1)]
theorem gF_stab {o : List (List Po)} {above k : Int} {l : List Po} (h : Ris l) : (gF o k above l).2 = bestL o above k l (poZ, false) := by
 unfold gF
 rw [gS_fold l h above poZ false (Int.le_refl _)]
 by_cases hb : (bestL o above k l (poZ, false)).2 = true
 ·rw [if_pos ⟨hb, (bestL_mem l hb).2⟩]
  show (_, true) = _
  rw [← hb]
 ·rw [if_neg (fun h9 => hb h9.1), bestL_none l hb]
theorem gF_weak {o : List (List Po)} {above k : Int} (h : ∀ i, i < o.length → Ris (o.getD i [])) : ∀ (m who : Nat) (a : Int) (c : Po) (f : Bool), who + m ≤ o.length → above ≤ a → a = (if f = true then c.sq else above) →
  ((((o.drop who).take m).flatten).foldl (gS o k) (a, c, f)).2 = weakF o above k m who (c, f)
 | 0, who, a, c, f, _, _, _ => by simp [weakF]
 | m + 1, who, a, c, f, hl, ha, he => by
  have hw : who < o.length := by omega
  rw [List.drop_eq_getElem_cons hw, List.take_succ_cons, List.flatten_cons, List.foldl_append]
  have hg : o[who] = o.getD who [] := by rw [List.getD_eq_getElem?_getD, List.getElem?_eq_getElem hw]; rfl
  rw [hg, gS_fold _ (h who hw) a c f ha]
  unfold weakF
  show _ = weakF o above k m (who + 1) (if (bestL o above k (o.getD who []) (poZ, false)).2 && (!f || decide (c.sq < (bestL o above k (o.getD who []) (poZ, false)).1.sq)) then ((bestL o above k (o.getD who []) (poZ, false)).1, true) else (c, f))
  by_cases hb : (bestL o above k (o.getD who []) (poZ, false)).2 = true
  ·have hm := (bestL_mem _ hb).2
   by_cases ht : a < (bestL o above k (o.getD who []) (poZ, false)).1.sq
   ·rw [if_pos ⟨hb, ht⟩, if_pos (by
     rw [hb]
     cases f with
     | false => rfl
     | true => simp only [if_true] at he; rw [← he, decide_eq_true ht]; rfl)]
    exact gF_weak h m (who + 1) _ _ true (by omega) (by omega) rfl
   ·rw [if_neg (fun h9 => ht h9.2), if_neg (by
     rw [hb]
     cases f with
     | false => simp at he; omega
     | true => simp only [if_true] at he; rw [← he, decide_eq_false ht]; simp)]
    exact gF_weak h m (who + 1) a c f (by omega) ha he
  ·rw [if_neg (fun h9 => hb h9.1), if_neg (by rw [Bool.not_eq_true] at hb; rw [hb]; simp)]
   exact gF_weak h m (who + 1) a c f (by omega) ha he
theorem PPt.ris_of {w : World} {B mo mv : Nat} {r : Ptp} {ows : List Ow} {OE VE : List (Int × Value)} {vf : Nat → Pl} (h : PPt w B mo mv r ows OE VE vf) : ∀ i, i < r.of.length → Ris (r.of.getD i []) := fun i hi => by
 by_cases hs : i = r.self
 ·rw [hs]
  exact h.ris
 ·exact (h.vat i (by rw [← h.nl]; exact hi) hs).2.2.1
theorem gF_stabR {w : World} {B mo mv : Nat} {r : Ptp} {ows : List Ow} {OE VE : List (Int × Value)} {vf : Nat → Pl} (h : PPt w B mo mv r ows OE VE vf) (above : Int) : (gF r.of (2 * fltN r.n + 1) above (r.of.getD r.self [])).2 = stabR r above := gF_stab h.ris
theorem gF_weakR {w : World} {B mo mv : Nat} {r : Ptp} {ows : List Ow} {OE VE : List (Int × Value)} {vf : Nat → Pl} (h : PPt w B mo mv r ows OE VE vf) (above : Int) : (gF r.of (fltN r.n + 1) above r.of.flatten).2 = weakR r above := by
 have h1 := gF_weak (o := r.of) (above := above) (k := fltN r.n + 1) h.ris_of r.n 0 above poZ false (by rw [h.nl]; omega) (Int.le_refl _) rfl
 rw [List.drop_zero, List.take_of_length_le (by rw [h.nl]; exact Nat.le_refl _)] at h1
 exact h1
theorem abides_below {β : Type} {n : Nat} {J : β → World → Prop} (h : AbidesFrom n J) : ∀ s A B, J s A → Below A.heap.size A B → J s B := fun s A B hj hb =>
 h s A B none hj ⟨hb.os, hb.tape, hb.output, hb.size, fun k hk _ => hb.block k hk⟩ (fun r e => by cases e)
theorem values_seq {w W0 : World} {Bs k c : Nat} {A : Option Addr} {xs : List Pq} {E : Nat → Prop} (hk : k ≤ 1000000) (hBs : w.cell? ⟨Bs, 0, none⟩ = some (.slice A k c)) (hBn : Bs < w.heap.size) (hp : PosIn w A k (xs.map Subtype.val)) (hlow : ∀ q, plB (A, k, k) q → q < w.heap.size) (hb : Below w.heap.size w W0) :
  SeqStopsK Fence.wide 3 Try.prog 50 #[.pointer (some ⟨Bs, 0, none⟩)] encQ (KpE w.heap.size E) (fun ys => ys = xs) (fun pre => pre <+: xs) xs.length W0 := fun l J Jx W hW hJ hJx hY h0 => by
 have hW2 : Below w.heap.size w W := hb.trans (hW.mono hb.size)
 have hkl : xs.length = k := by have := hp.len; rwa [List.length_map] at this
 exact (values1_p l Bs w.heap.size xs A k c hk J Jx (fun pre x W1 hj hl => (hY pre x W1 hj (by rw [hkl]; exact hl)).mono (fun e W' h9 => h9.elim (fun h8 => .inl ⟨h8.1, h8.2.1, h8.2.2.below⟩) .inr)) W hW2.size ((hW2.cell (p := ⟨Bs, 0, none⟩) hBn).trans hBs) (hp.off (Ft.of_n hW2) (fun q hq h9 => by have := hlow q hq; omega)) hlow (abides_below hJ) h0)

end Go.Proofs.Ytpolofehkckaoaa
