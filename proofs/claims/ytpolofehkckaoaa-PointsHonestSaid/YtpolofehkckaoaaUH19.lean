/-
  Joined: PtH.
-/
import Derived.Test.YtpolofehkckaoaaUH13
namespace Go.Proofs.Ytpolofehkckaoaa
open Go.RowKit

def Ris (l : List Po) : Prop := (l.map Po.sq).Pairwise (· < ·)
theorem bef_lt {q : Int} {y : Po} {l : List Po} (h : y.sq < q) : befP q (y :: l) = befP q l + 1 := by
 conv => lhs; unfold befP
 rw [if_pos h]
theorem bef_ge {q : Int} {y : Po} {l : List Po} (h : ¬ y.sq < q) : befP q (y :: l) = 0 := by
 unfold befP
 rw [if_neg h]
theorem th_lt {q : Int} {y : Po} {l : List Po} (h : y.sq < q) : thP q (y :: l) = thP q l := by
 unfold thP
 rw [bef_lt h, List.getElem?_cons_succ]
theorem th_ge {q : Int} {y : Po} {l : List Po} (h : ¬ y.sq < q) : thP q (y :: l) = (y.sq == q) := by
 unfold thP
 rw [bef_ge h]
 rfl
theorem mem_ins {l : List Po} {i : Nat} {x z : Po} : z ∈ insP l i x ↔ z = x ∨ z ∈ l := by
 unfold insP
 rw [List.mem_append, List.mem_cons]
 conv => rhs; rw [← List.take_append_drop i l, List.mem_append]
 constructor
 ·rintro (h | h | h)
  ·exact .inr (.inl h)
  ·exact .inl h
  ·exact .inr (.inr h)
 ·rintro (h | h | h)
  ·exact .inr (.inl h)
  ·exact .inl h
  ·exact .inr (.inr h)
theorem ris_cons {x : Po} {l : List Po} : Ris (x :: l) ↔ (∀ z ∈ l, x.sq < z.sq) ∧ Ris l := by
 unfold Ris
 rw [List.map_cons, List.pairwise_cons]
 simp
theorem Ris.drop {l : List Po} (h : Ris l) (i : Nat) : Ris (l.drop i) := by
 unfold Ris at *
 rw [List.map_drop]
 exact h.sublist (List.drop_sublist ..)
theorem ris_ins {q : Int} {x : Po} (hx : x.sq = q) : ∀ {l : List Po}, Ris l → thP q l = false → Ris (insP l (befP q l) x)
 | [], _, _ => by
  unfold insP befP Ris
  simp
 | y :: l, h, ht => by
  have h1 := ris_cons.1 h
  by_cases hy : y.sq < q
  ·rw [bef_lt hy]
   rw [th_lt hy] at ht
   have h2 : insP (y :: l) (befP q l + 1) x = y :: insP l (befP q l) x := by
    unfold insP
    rw [List.take_succ_cons, List.drop_succ_cons, List.cons_append]
   rw [h2, ris_cons]
   refine ⟨fun z hz => ?_, ris_ins hx h1.2 ht⟩
   rcases mem_ins.1 hz with rfl | hz
   ·omega
   ·exact h1.1 z hz
  ·rw [bef_ge hy]
   rw [th_ge hy] at ht
   have h2 : insP (y :: l) 0 x = x :: y :: l := rfl
   have h3 : ¬ y.sq = q := by simpa using ht
   rw [h2, ris_cons]
   refine ⟨fun z hz => ?_, h⟩
   rcases List.mem_cons.1 hz with rfl | hz
   ·omega
   ·have := h1.1 z hz
    omega
theorem set_sq {q : Int} {x : Po} (hx : x.sq = q) : ∀ {l : List Po}, thP q l = true → (l.set (befP q l) x).map Po.sq = l.map Po.sq
 | [], h => by cases h
 | y :: l, h => by
  by_cases hy : y.sq < q
  ·rw [bef_lt hy, List.set_cons_succ, List.map_cons, List.map_cons, set_sq hx (by rwa [th_lt hy] at h)]
  ·rw [bef_ge hy]
   rw [th_ge hy] at h
   have h3 : y.sq = q := by simpa using h
   rw [List.set_cons_zero, List.map_cons, List.map_cons, hx, h3]
theorem ris_set {q : Int} {x : Po} (hx : x.sq = q) {l : List Po} (h : Ris l) (ht : thP q l = true) : Ris (l.set (befP q l) x) := by
 unfold Ris at *
 rw [set_sq hx ht]
 exact h
theorem sup_zero {x : Po} : ∀ {l : List Po}, (∀ z ∈ l, z ≠ x) → supL x l = 0
 | [], _ => rfl
 | y :: l, h => by
  unfold supL
  rw [if_neg (fun e => h y (List.mem_cons_self ..) (Po.eqb_iff.1 e)), sup_zero (fun z hz => h z (List.mem_cons_of_mem _ hz))]
theorem sup_one {x : Po} : ∀ {l : List Po}, Ris l → supL x l ≤ 1
 | [], _ => Nat.zero_le _
 | y :: l, h => by
  have h1 := ris_cons.1 h
  unfold supL
  by_cases hy : y = x
  ·subst hy
   rw [if_pos (Po.eqb_iff.2 rfl), sup_zero (fun z hz e => by have := h1.1 z hz; rw [e] at this; omega)]
   exact Nat.le_refl _
  ·rw [if_neg (fun e => hy (Po.eqb_iff.1 e))]
   have := sup_one (x := x) h1.2
   omega
def live : List (List Po) → Nat
 | [] => 0
 | [] :: o => live o
 | (_ :: _) :: o => live o + 1
theorem sup_live {x : Po} : ∀ {o : List (List Po)}, (∀ l ∈ o, Ris l) → supO x o ≤ live o
 | [], _ => Nat.le_refl _
 | [] :: o, h => by
  unfold supO live supL
  have := sup_live (x := x) (o := o) (fun l hl => h l (List.mem_cons_of_mem _ hl))
  omega
 | (y :: l) :: o, h => by
  unfold supO live
  have := sup_live (x := x) (o := o) (fun l hl => h l (List.mem_cons_of_mem _ hl))
  have := sup_one (x := x) (h (y :: l) (List.mem_cons_self ..))
  omega
theorem flt_len {LS : List Nat} (j : Nat) : (LS.filter (fun a => decide (j + 1 ≤ a))).length + (if j ∈ LS then 1 else 0) ≤ (LS.filter (fun a => decide (j ≤ a))).length := by
 induction LS with
 | nil => simp
 | cons a L ih =>
  by_cases h1 : j + 1 ≤ a
  ·have e : ¬ j = a := by omega
   have h2 : (j ∈ a :: L) ↔ j ∈ L := by simp [e]
   rw [List.filter_cons_of_pos (by simpa using h1), List.filter_cons_of_pos (by simp; omega), List.length_cons, List.length_cons]
   simp only [h2]
   omega
  ·rw [List.filter_cons_of_neg (by simpa using h1)]
   by_cases h2 : j ≤ a
   ·rw [List.filter_cons_of_pos (by simpa using h2), List.length_cons]
    split at ih <;> split <;> omega
   ·have e : ¬ j = a := by omega
    have h3 : (j ∈ a :: L) ↔ j ∈ L := by simp [e]
    rw [List.filter_cons_of_neg (by simpa using h2)]
    simp only [h3]
    exact ih
theorem live_le {LS : List Nat} : ∀ {o : List (List Po)} (j : Nat), (∀ i l, o[i]? = some l → l ≠ [] → j + i ∈ LS) → live o ≤ (LS.filter (fun a => decide (j ≤ a))).length
 | [], _, _ => Nat.zero_le _
 | [] :: o, j, h => by
  unfold live
  have h1 := live_le (LS := LS) (o := o) (j + 1) (fun i l hi hl => by have := h (i + 1) l (by simpa using hi) hl; rwa [show j + 1 + i = j + (i + 1) by omega])
  have h2 := flt_len (LS := LS) j
  omega
 | (y :: l) :: o, j, h => by
  unfold live
  have h1 := live_le (LS := LS) (o := o) (j + 1) (fun i l hi hl => by have := h (i + 1) l (by simpa using hi) hl; rwa [show j + 1 + i = j + (i + 1) by omega])
  have h2 := flt_len (LS := LS) j
  have h3 : j ∈ LS := by have := h 0 _ rfl (by simp); simpa using this
  rw [if_pos h3] at h2
  omega
/-- votes of some alone, each one's rising -/
structure Votd (LS : List Nat) (r : Ptp) : Prop where
 ris : ∀ l ∈ r.of, Ris l
 only : ∀ i l, r.of[i]? = some l → l ≠ [] → i ∈ LS
theorem Votd.sup {LS : List Nat} {r : Ptp} (h : Votd LS r) (x : Po) : supO x r.of ≤ LS.length := by
 have h1 := sup_live (x := x) h.ris
 have h2 := live_le (LS := LS) (o := r.of) 0 (fun i l hi hl => by have := h.only i l hi hl; simpa using this)
 have h3 := List.length_filter_le (fun a => decide (0 ≤ a)) LS
 omega
theorem Votd.more {LS : List Nat} {r : Ptp} (h : Votd LS r) (a : Nat) : Votd (a :: LS) r := ⟨h.ris, fun i l hi hl => List.mem_cons_of_mem _ (h.only i l hi hl)⟩
theorem votd_new (n self : Nat) (b : List (List UInt8)) : Votd [] ⟨n, self, List.replicate n [], b⟩ :=
 ⟨fun l hl => by rw [List.eq_of_mem_replicate hl]; exact List.Pairwise.nil, fun i l hi hl => absurd (by
  have h1 : (List.replicate n ([] : List Po))[i]? = some l := hi
  rw [List.getElem?_replicate] at h1
  split at h1
  ·exact (Option.some.inj h1).symm
  ·cases h1) hl⟩
theorem Votd.vote {LS : List Nat} {r : Ptp} (h : Votd LS r) {who : Int} (x : Po) (hw : who.toNat ∈ LS) : Votd LS (voteR r who x).1 := by
 unfold voteR
 split
 ·exact h
 ·split
  ·exact h
  ·rename_i l' hl
   unfold voteL at hl
   split at hl
   ·cases hl
   ·rename_i hc
    have hl' := Option.some.inj hl
    have hr : Ris (r.of.getD who.toNat []) := by
     rw [List.getD_eq_getElem?_getD]
     cases e : r.of[who.toNat]? with
     | none => exact List.Pairwise.nil
     | some l => exact h.ris l (List.mem_of_getElem? e)
    have hri := ris_ins (x := x) rfl hr (by cases e : thP x.sq (r.of.getD who.toNat []); rfl; exact absurd (.inl e) hc)
    refine ⟨fun l hl2 => ?_, fun i l hi hne => ?_⟩
    ·rcases List.mem_or_eq_of_mem_set hl2 with h9 | rfl
     ·exact h.ris l h9
     ·rw [← hl']
      split
      ·exact hri.drop 1
      ·exact hri
    ·have hi2 : (r.of.set who.toNat l')[i]? = some l := hi
     rw [List.getElem?_set] at hi2
     split at hi2
     ·rename_i e
      rw [← e]
      exact hw
     ·exact h.only i l hi2 hne
theorem best_no {o : List (List Po)} {above k : Int} (h : ∀ y, (supO y o : Int) < k) : ∀ (l : List Po) (b : Po × Bool), bestL o above k l b = b
 | [], _ => rfl
 | y :: l, b => by
  unfold bestL
  rw [if_neg (by have := h y; omega), best_no h l b]
theorem weak_no {o : List (List Po)} {above k : Int} (h : ∀ y, (supO y o : Int) < k) : ∀ (m who : Nat) (b : Po × Bool), weakF o above k m who b = b
 | 0, _, _ => rfl
 | m + 1, who, b => by
  have h1 : (bestO o who above k).2 = false := by unfold bestO; rw [best_no h]
  unfold weakF
  rw [h1, Bool.false_and, if_neg (by simp), weak_no h m (who + 1) b]
/-- nothing is weak, nor stable, that liars alone vote for -/
theorem Votd.none_ {LS : List Nat} {r : Ptp} {k : Nat} (h : Votd LS r) (hk : LS.length ≤ k) (hn : r.n = 3 * k + 1) (above : Int) : (weakR r above).2 = false ∧ (stabR r above).2 = false := by
 have hf : (k : Int) ≤ fltN r.n := by
  unfold fltN
  split <;> omega
 have hs : ∀ y, (supO y r.of : Int) < fltN r.n + 1 := fun y => by have := h.sup y; omega
 constructor
 ·unfold weakR
  rw [weak_no hs]
 ·unfold stabR bestO
  rw [best_no (fun y => by have := hs y; omega)]
theorem vote_n {r : Ptp} {who : Int} {x : Po} : (voteR r who x).1.n = r.n ∧ (voteR r who x).1.self = r.self ∧ (voteR r who x).1.of.length = r.of.length := by
 unfold voteR
 split
 ·exact ⟨rfl, rfl, rfl⟩
 ·split
  ·exact ⟨rfl, rfl, rfl⟩
  ·exact ⟨rfl, rfl, List.length_set ..⟩
-- what is told
theorem tol_all {k : Nat} : ∀ {i : Nat} {l : List Po}, k ≤ i + 3 → tolP k i l = l
 | _, [], _ => rfl
 | i, x :: l, h => by
  unfold tolP
  rw [if_pos (.inr h), tol_all (by omega)]
  rfl
theorem tol_few {k : Nat} : ∀ {i : Nat} {l : List Po}, 0 < i → i + l.length = k → (tolP k i l).length ≤ 3
 | _, [], _, _ => Nat.zero_le _
 | i, x :: l, hi, h => by
  simp only [List.length_cons] at h
  by_cases h3 : k ≤ i + 3
  ·rw [tol_all h3, List.length_cons]
   omega
  ·unfold tolP
   rw [if_neg (by omega), List.nil_append]
   exact tol_few (by omega) (by omega)
theorem tol_sub {k : Nat} : ∀ {i : Nat} {l : List Po}, (tolP k i l).Sublist l
 | _, [] => List.Sublist.refl _
 | i, x :: l => by
  unfold tolP
  split
  ·exact (tol_sub (l := l)).cons_cons x
  ·exact (tol_sub (l := l)).cons x
theorem tol_last {k : Nat} : ∀ {i : Nat} {l : List Po}, l ≠ [] → i + l.length = k → (tolP k i l).getLast? = l.getLast?
 | _, [], h, _ => absurd rfl h
 | i, [x], _, h => by
  unfold tolP
  rw [if_pos (.inr (by simp at h; omega))]
  rfl
 | i, x :: y :: l, _, h => by
  simp only [List.length_cons] at h
  have ih := tol_last (k := k) (i := i + 1) (l := y :: l) (by simp) (by simp only [List.length_cons]; omega)
  unfold tolP
  rw [List.getLast?_append, ih, List.getLast?_cons_cons]
  cases e : (y :: l).getLast? with
  | none => simp at e
  | some z => rfl
theorem tol_head {k : Nat} {x : Po} {l : List Po} : (tolP k 0 (x :: l))[0]? = some x := by
 unfold tolP
 rw [if_pos (.inl rfl)]
 rfl
/-- own points of some numbers -/
structure Ownd (D : Int → List UInt8) (S : List Int) (r : Ptp) : Prop where
 sl : r.self < r.of.length
 ris : Ris (ownL r)
 dg : ∀ x ∈ ownL r, x.dg = D x.sq
 mem : ∀ s, s ∈ (ownL r).map Po.sq ↔ s ∈ S
theorem ownL_set {r : Ptp} {l : List Po} {b : List (List UInt8)} (h : r.self < r.of.length) : ownL { r with of := r.of.set r.self l, rows := b } = l := by
 unfold ownL
 rw [List.getD_eq_getElem?_getD]
 show ((r.of.set r.self l)[r.self]?).getD [] = l
 rw [List.getElem?_set_self h]
 rfl
theorem Ownd.own {D : Int → List UInt8} {S : List Int} {r : Ptp} (h : Ownd D S r) (q : Int) (b : List UInt8) : Ownd D (S ++ [q]) (ownR r q (D q) b) := by
 unfold ownR
 by_cases ht : thP q (ownL r) = true
 ·rw [if_pos ht]
  have e := ownL_set (l := (ownL r).set (befP q (ownL r)) ⟨q, D q⟩) (b := r.rows.set (befP q (ownL r)) b) h.sl
  have hq : q ∈ S := by
   refine (h.mem q).1 ?_
   unfold thP at ht
   split at ht
   ·rename_i x hx
    have : x.sq = q := by simpa using ht
    exact List.mem_map.2 ⟨x, List.mem_of_getElem? hx, this⟩
   ·cases ht
  refine ⟨by show r.self < (r.of.set _ _).length; rw [List.length_set]; exact h.sl, by rw [e]; exact ris_set (x := ⟨q, D q⟩) rfl h.ris ht, fun x hx => ?_, fun s => ?_⟩
  ·rw [e] at hx
   rcases List.mem_or_eq_of_mem_set hx with h9 | rfl
   ·exact h.dg x h9
   ·rfl
  ·rw [e, set_sq (x := ⟨q, D q⟩) rfl ht, h.mem s, List.mem_append, List.mem_singleton]
   exact ⟨.inl, fun h9 => h9.elim id (fun h8 => h8 ▸ hq)⟩
 ·rw [if_neg ht]
  have e := ownL_set (l := insP (ownL r) (befP q (ownL r)) ⟨q, D q⟩) (b := r.rows.take (befP q (ownL r)) ++ b :: r.rows.drop (befP q (ownL r))) h.sl
  refine ⟨by show r.self < (r.of.set _ _).length; rw [List.length_set]; exact h.sl, by rw [e]; exact ris_ins (x := ⟨q, D q⟩) rfl h.ris (by simpa using ht), fun x hx => ?_, fun s => ?_⟩
  ·rw [e] at hx
   rcases mem_ins.1 hx with rfl | h9
   ·rfl
   ·exact h.dg x h9
  ·rw [e, List.mem_append, List.mem_singleton, ← h.mem s, List.mem_map, List.mem_map]
   constructor
   ·rintro ⟨z, hz, rfl⟩
    rcases mem_ins.1 hz with rfl | h9
    ·exact .inr rfl
    ·exact .inl ⟨z, h9, rfl⟩
   ·rintro (⟨z, hz, rfl⟩ | rfl)
    ·exact ⟨z, mem_ins.2 (.inr hz), rfl⟩
    ·exact ⟨_, mem_ins.2 (.inl rfl), rfl⟩
/-- what is told: few, rising, from the lowest to the greatest -/
theorem Ownd.told {D : Int → List UInt8} {S : List Int} {r : Ptp} (h : Ownd D S r) (hS : S ≠ []) :
  (toldR r).length ≤ 4 ∧ Ris (toldR r) ∧ (∀ x ∈ toldR r, x.dg = D x.sq) ∧ ∃ a z, (toldR r)[0]? = some a ∧ (toldR r).getLast? = some z ∧ a.sq ∈ S ∧ z.sq ∈ S ∧ ∀ s ∈ S, a.sq ≤ s ∧ s ≤ z.sq := by
 have hsub : (toldR r).Sublist (ownL r) := tol_sub
 have hne : ownL r ≠ [] := fun e => by
  cases S with
  | nil => exact hS rfl
  | cons s S =>
   have := (h.mem s).2 (List.mem_cons_self ..)
   rw [e] at this
   cases this
 obtain ⟨x, l, e⟩ : ∃ x l, ownL r = x :: l := by
  cases e : ownL r with
  | nil => exact absurd e hne
  | cons x l => exact ⟨x, l, rfl⟩
 refine ⟨?_, ?_, fun x hx => h.dg x (hsub.subset hx), ?_⟩
 ·unfold toldR
  rw [e]
  show (tolP (x :: l).length 0 (x :: l)).length ≤ 4
  unfold tolP
  rw [if_pos (.inl rfl)]
  have := tol_few (k := (x :: l).length) (i := 0 + 1) (l := l) (by omega) (by simp only [List.length_cons]; omega)
  simp only [List.length_append, List.length_cons, List.length_nil] at this ⊢
  omega
 ·unfold Ris
  exact h.ris.sublist (hsub.map _)
 ·obtain ⟨z, hz⟩ : ∃ z, (ownL r).getLast? = some z := by
   cases e2 : (ownL r).getLast? with
   | none => rw [List.getLast?_eq_none_iff] at e2; exact absurd e2 hne
   | some z => exact ⟨z, rfl⟩
  have hr := h.ris
  rw [e, ris_cons] at hr
  have hzm : z ∈ ownL r := List.mem_of_getLast? hz
  refine ⟨x, z, by unfold toldR; rw [e]; exact tol_head, by unfold toldR; rw [tol_last hne (Nat.zero_add _)]; exact hz, (h.mem _).1 (List.mem_map.2 ⟨x, by rw [e]; exact List.mem_cons_self .., rfl⟩), (h.mem _).1 (List.mem_map.2 ⟨z, hzm, rfl⟩), fun s hs => ?_⟩
  obtain ⟨y, hy, rfl⟩ := List.mem_map.1 ((h.mem s).2 hs)
  refine ⟨?_, ?_⟩
  ·rw [e] at hy
   rcases List.mem_cons.1 hy with rfl | hy
   ·exact Int.le_refl _
   ·exact Int.le_of_lt (hr.1 y hy)
  ·obtain ⟨l0, hl0⟩ : ∃ l0, ownL r = l0 ++ [z] := by
    rw [List.getLast?_eq_some_iff] at hz
    exact hz
   rw [hl0] at hy
   rcases List.mem_append.1 hy with hy | hy
   ·have h9 := h.ris
    unfold Ris at h9
    rw [hl0, List.map_append, List.pairwise_append] at h9
    exact Int.le_of_lt (h9.2.2 _ (List.mem_map.2 ⟨y, hy, rfl⟩) _ (by simp))
   ·rw [List.mem_singleton.1 hy]
    exact Int.le_refl _
/-- how long the rows are -/
def Lens (k : Nat) (r : Ptp) : Prop := ∀ l ∈ r.of, l.length ≤ k
theorem lens_own {r : Ptp} {k : Nat} (h : ∀ l ∈ r.of, l.length ≤ k) : (ownL r).length ≤ k := by
 unfold ownL
 rw [List.getD_eq_getElem?_getD]
 cases e : r.of[r.self]? with
 | none => exact Nat.zero_le _
 | some l => exact h l (List.mem_of_getElem? e)
theorem ins_len_le {l : List Po} {i : Nat} {x : Po} : (insP l i x).length ≤ l.length + 1 := by
 unfold insP
 simp only [List.length_append, List.length_take, List.length_cons, List.length_drop]
 omega
theorem Lens.own {r : Ptp} {k : Nat} (h : Lens k r) (q : Int) (d b : List UInt8) : Lens (k + 1) (ownR r q d b) := by
 have h0 := lens_own h
 unfold ownR
 split
 ·intro l hl
  rcases List.mem_or_eq_of_mem_set hl with h9 | rfl
  ·exact Nat.le_succ_of_le (h l h9)
  ·rw [List.length_set]
   omega
 ·intro l hl
  rcases List.mem_or_eq_of_mem_set hl with h9 | rfl
  ·exact Nat.le_succ_of_le (h l h9)
  ·exact Nat.le_trans ins_len_le (by omega)
theorem Lens.vote {r : Ptp} {k : Nat} (h : Lens k r) (who : Int) (x : Po) : Lens (k + 1) (voteR r who x).1 := by
 unfold voteR
 split
 ·exact fun l hl => Nat.le_succ_of_le (h l hl)
 ·split
  ·exact fun l hl => Nat.le_succ_of_le (h l hl)
  ·rename_i l' hl'
   intro l hl
   rcases List.mem_or_eq_of_mem_set hl with h9 | rfl
   ·exact Nat.le_succ_of_le (h l h9)
   ·unfold voteL at hl'
    split at hl'
    ·cases hl'
    ·have h0 : (r.of.getD who.toNat []).length ≤ k := by
      rw [List.getD_eq_getElem?_getD]
      cases e : r.of[who.toNat]? with
      | none => exact Nat.zero_le _
      | some l => exact h l (List.mem_of_getElem? e)
     have h1 := ins_len_le (l := r.of.getD who.toNat []) (i := befP x.sq (r.of.getD who.toNat [])) (x := x)
     rw [← Option.some.inj hl']
     split
     ·rw [List.length_drop]
      omega
     ·omega
theorem drop_len {low : Int} : ∀ (l : List Po) (b : List (List UInt8)), (dropP low l b).1.length ≤ l.length
 | [], _ => Nat.le_refl _
 | x :: l, b => by
  unfold dropP
  split
  ·exact Nat.le_trans (drop_len l b.tail) (by simp)
  ·exact Nat.le_refl _
theorem Lens.move {r : Ptp} {k : Nat} (h : Lens k r) (low : Int) : Lens (k + 1) (moveR r low) := by
 have h0 := lens_own h
 intro l hl
 rcases List.mem_or_eq_of_mem_set hl with h9 | rfl
 ·exact Nat.le_succ_of_le (h l h9)
 ·exact Nat.le_trans (drop_len _ _) (by omega)

end Go.Proofs.Ytpolofehkckaoaa
