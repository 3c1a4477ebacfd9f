/-
  Plain facts on policies: what few says; who counts, who stops, who stands. No walk here.
-/
import Derived.Test.YtkildlonenjmaaaF9b
import Derived.Test.YtkildlonenjmaaaF10
import Derived.Test.YtkildlonenjmaaaF9
namespace Go.Proofs.Ytkildlonenjmaaa
open Go.RowKit

theorem wrap64_range (x : Int) : -9223372036854775808 ≤ wrap64 x ∧ wrap64 x ≤ 9223372036854775807 := by unfold wrap64; omega
theorem wrap64_in {x : Int} (h : -9223372036854775808 ≤ x ∧ x ≤ 9223372036854775807) : wrap64 x = x := by unfold wrap64; omega
mutual
theorem fewP_ok : ∀ (f : Fm) (d : Int), -9223372036854775808 ≤ d → d ≤ 9223372036854775807 → (fewP d f).2 = true → d ≤ 50 ∧ (fewP d f).1 = f.size ∧ f.size ≤ 200 ∧ d + f.depth ≤ 51
  | .mk o a ks, d, h1, h2, h => by
    have e : fewP d (.mk o a ks) = fewPs d (wrap64 (d + 1)) 1 ks := by rw [fewP]
    rw [e] at h ⊢
    have h3 := fewPs_ok ks d (wrap64 (d + 1)) 1 (by omega) (by omega) (wrap64_range _).1 (wrap64_range _).2 h
    obtain ⟨k1, k2, k3, k4⟩ := h3
    have hd : wrap64 (d + 1) = d + 1 := wrap64_in (by omega)
    rw [hd] at k4
    simp only [Fm.size, Fm.depth]
    refine ⟨k1, by omega, by omega, ?_⟩
    rcases k4 with k4 | k4 <;> omega
theorem fewPs_ok : ∀ (ks : List Fm) (d d' m : Int), 1 ≤ m → m ≤ 200 → -9223372036854775808 ≤ d' → d' ≤ 9223372036854775807 → (fewPs d d' m ks).2 = true → d ≤ 50 ∧ (fewPs d d' m ks).1 = m + Fm.sizes ks ∧ m + Fm.sizes ks ≤ 200 ∧ (Fm.depths ks = 0 ∨ d' + Fm.depths ks ≤ 51)
  | [], d, d', m, h1, h2, h3, h4, h => by
    rw [fewPs] at h ⊢
    simp only [decide_eq_true_eq] at h
    refine ⟨h, ?_, ?_, .inl rfl⟩ <;> simp [Fm.sizes] <;> omega
  | k :: ks, d, d', m, h1, h2, h3, h4, h => by
    rw [fewPs_cons] at h ⊢
    split at h
    · cases h
    · rename_i hc
      rw [if_neg hc]
      have hk : (fewP d' k).2 = true := by
        cases hb : (fewP d' k).2
        · exact absurd (Or.inl hb) hc
        · rfl
      obtain ⟨j1, j2, j3, j4⟩ := fewP_ok k d' h3 h4 hk
      have hw : wrap64 (m + (fewP d' k).1) = m + k.size := by rw [j2]; exact wrap64_in (by omega)
      have hpos := k.size_pos
      rw [hw] at h hc ⊢
      have hm : m + (k.size : Int) ≤ 200 := by
        apply Classical.byContradiction
        intro hn
        exact hc (.inr (by omega))
      obtain ⟨i1, i2, i3, i4⟩ := fewPs_ok ks d d' (m + k.size) (by omega) hm h3 h4 h
      simp only [Fm.sizes, Fm.depths]
      refine ⟨i1, by rw [i2]; simp; omega, by simp; omega, ?_⟩
      right
      rcases i4 with i4 | i4 <;> omega
end
theorem few_ok {f : Fm} (h : (fewP 1 f).2 = true) : f.few := by
  have h1 := fewP_ok f 1 (by omega) (by omega) h
  exact ⟨h1.2.2.1, by have := h1.2.2.2; omega⟩

mutual
theorem Fm.hold_mono {s s' : Nat} : ∀ (f : Fm), (∀ i, f.names.testBit i = true → s.testBit i = true → s'.testBit i = true) → f.hold s = true → f.hold s' = true
  | .mk o a [], h, hh => h o.toNat (by simp [Fm.names]) hh
  | .mk o a (k :: ks), h, hh => by
    simp only [Fm.hold, decide_eq_true_eq] at hh ⊢
    have := Fm.holds_mono (s := s) (s' := s') (k :: ks) h
    omega
theorem Fm.holds_mono {s s' : Nat} : ∀ (ks : List Fm), (∀ i, (Fm.namess ks).testBit i = true → s.testBit i = true → s'.testBit i = true) → Fm.holds s ks ≤ Fm.holds s' ks
  | [], _ => Nat.le_refl _
  | k :: ks, h => by
    have h1 := Fm.hold_mono (s := s) (s' := s') k (fun i hi => h i (by simp [Fm.namess, Nat.testBit_or, hi]))
    have h2 := Fm.holds_mono (s := s) (s' := s') ks (fun i hi => h i (by simp [Fm.namess, Nat.testBit_or, hi]))
    simp only [Fm.holds]
    cases hk : k.hold s
    · simp; omega
    · rw [h1 hk]; simp; omega
end
theorem Fm.hold_congr {s s' : Nat} (f : Fm) (h : ∀ i, f.names.testBit i = true → s.testBit i = s'.testBit i) : f.hold s = f.hold s' := by
  rw [Bool.eq_iff_iff]
  exact ⟨Fm.hold_mono f (fun i hi hs => h i hi ▸ hs), Fm.hold_mono f (fun i hi hs => (h i hi).symm ▸ hs)⟩
mutual
theorem Fm.hold_all {s : Nat} : ∀ (f : Fm), f.rng 7 = true → (∀ i, f.names.testBit i = true → s.testBit i = true) → f.hold s = true
  | .mk o a [], _, h => h o.toNat (by simp [Fm.names])
  | .mk o a (k :: ks), hr, h => by
    simp only [Fm.rng, Bool.and_eq_true, decide_eq_true_eq] at hr
    have := Fm.holds_all (s := s) (k :: ks) hr.1 h
    simp only [Fm.hold, decide_eq_true_eq]
    rw [this]
    simpa using hr.2.1.2
theorem Fm.holds_all {s : Nat} : ∀ (ks : List Fm), Fm.rngs 7 ks = true → (∀ i, (Fm.namess ks).testBit i = true → s.testBit i = true) → Fm.holds s ks = ks.length
  | [], _, _ => rfl
  | k :: ks, hr, h => by
    simp only [Fm.rngs, Bool.and_eq_true] at hr
    have h1 := Fm.hold_all (s := s) k hr.1 (fun i hi => h i (by simp [Fm.namess, Nat.testBit_or, hi]))
    have h2 := Fm.holds_all (s := s) ks hr.2 (fun i hi => h i (by simp [Fm.namess, Nat.testBit_or, hi]))
    simp only [Fm.holds, h1, h2, List.length_cons]
    simp; omega
end
mutual
theorem Fm.hold_none {s : Nat} : ∀ (f : Fm), f.rng 7 = true → (∀ i, f.names.testBit i = true → s.testBit i = false) → f.hold s = false
  | .mk o a [], _, h => h o.toNat (by simp [Fm.names])
  | .mk o a (k :: ks), hr, h => by
    simp only [Fm.rng, Bool.and_eq_true, decide_eq_true_eq] at hr
    have := Fm.holds_none (s := s) (k :: ks) hr.1 h
    simp only [Fm.hold, decide_eq_false_iff_not]
    rw [this]
    have := hr.2.1.1
    simp; omega
theorem Fm.holds_none {s : Nat} : ∀ (ks : List Fm), Fm.rngs 7 ks = true → (∀ i, (Fm.namess ks).testBit i = true → s.testBit i = false) → Fm.holds s ks = 0
  | [], _, _ => rfl
  | k :: ks, hr, h => by
    simp only [Fm.rngs, Bool.and_eq_true] at hr
    have h1 := Fm.hold_none (s := s) k hr.1 (fun i hi => h i (by simp [Fm.namess, Nat.testBit_or, hi]))
    have h2 := Fm.holds_none (s := s) ks hr.2 (fun i hi => h i (by simp [Fm.namess, Nat.testBit_or, hi]))
    simp only [Fm.holds, h1, h2]
    simp
end
mutual
theorem Fm.names_bit (i : Nat) : ∀ (f : Fm), f.rng 7 = true → f.names.testBit i = f.stands (i : Int)
  | .mk o a [], hr => by
    simp only [Fm.rng, Bool.and_eq_true, decide_eq_true_eq] at hr
    obtain ⟨j, rfl⟩ : ∃ j : Nat, o = (j : Int) := ⟨o.toNat, by omega⟩
    simp only [Fm.names, Fm.stands, Int.toNat_natCast, Nat.testBit_two_pow]
    rw [Bool.eq_iff_iff]
    simp
    omega
  | .mk o a (k :: ks), hr => by
    simp only [Fm.rng, Bool.and_eq_true] at hr
    exact Fm.namess_bit i (k :: ks) hr.1
theorem Fm.namess_bit (i : Nat) : ∀ (ks : List Fm), Fm.rngs 7 ks = true → (Fm.namess ks).testBit i = Fm.standss (i : Int) ks
  | [], _ => by simp [Fm.namess, Fm.standss]
  | k :: ks, hr => by
    simp only [Fm.rngs, Bool.and_eq_true] at hr
    simp only [Fm.namess, Fm.standss, Nat.testBit_or]
    rw [Fm.names_bit i k hr.1, Fm.namess_bit i ks hr.2]
end
theorem Fm.bit_lt {f : Fm} {i : Nat} (hr : f.rng 7 = true) (h : f.names.testBit i = true) : i < 7 := by
  apply Classical.byContradiction
  intro hn
  have h1 := Fm.names_lt f hr
  rw [Nat.testBit_lt_two_pow (Nat.lt_of_lt_of_le (show f.names < 2 ^ 7 by omega) (Nat.pow_le_pow_right (by omega) (by omega)))] at h
  cases h
theorem cntTo_zero {s : Nat} : ∀ {n : Nat}, cntTo s n = 0 → ∀ i, i < n → s.testBit i = false
  | 0, _, i, hi => by omega
  | n + 1, h, i, hi => by
    unfold cntTo at h
    rcases Nat.lt_or_eq_of_le (Nat.le_of_lt_succ hi) with h1 | rfl
    · exact cntTo_zero (by omega) i h1
    · cases hb : s.testBit i
      · rfl
      · rw [hb] at h; simp at h
theorem Fm.lst_pos {f : Fm} (hr : f.rng 7 = true) : ∀ n, 1 ≤ f.lst n
  | 0 => by simp [Fm.lst]
  | n + 1 => by
    have ih := Fm.lst_pos hr n
    rw [Fm.lst_succ]
    cases hb : f.hold n
    · simpa using ih
    · simp only [if_true]
      have : cnt n ≠ 0 := fun h0 => by
        have := f.hold_none (s := n) hr (fun i hi => cntTo_zero h0 i (Fm.bit_lt hr hi))
        rw [this] at hb
        cases hb
      omega
theorem Fm.least_pos {f : Fm} (hr : f.rng 7 = true) : 1 ≤ f.least := Fm.lst_pos hr 128
theorem apTo_iff (s o : Nat) : ∀ n, apTo s o n = true ↔ ∀ i, i < n → (s.testBit i && o.testBit i) = false
  | 0 => by simp [apTo]
  | n + 1 => by
    rw [apTo_succ, Bool.and_eq_true, apTo_iff s o n, Bool.not_eq_true']
    constructor
    · rintro ⟨h1, h2⟩ i hi
      rcases Nat.lt_or_eq_of_le (Nat.le_of_lt_succ hi) with h | rfl
      · exact h1 i h
      · exact h2
    · intro h
      exact ⟨fun i hi => h i (by omega), h n (by omega)⟩
/-- Who stops a policy are just those without whom it doesn't hold. -/
theorem Fm.stops_eq {f : Fm} {o : Nat} (hr : f.rng 7 = true) (ho : o < 4294967296) : f.stops o = !f.hold (cpl o) := by
  have h127 : ∀ i, (cpl o &&& 127).testBit i = ((cpl o).testBit i && decide (i < 7)) := fun i => by
    rw [Nat.testBit_and, show (127 : Nat) = 2 ^ 7 - 1 from rfl, Nat.testBit_two_pow_sub_one]
  have hlow : f.hold (cpl o &&& 127) = f.hold (cpl o) := f.hold_congr fun i hi => by
    have := Fm.bit_lt hr hi
    rw [h127]
    simp [this]
  cases hh : f.hold (cpl o)
  · rw [Bool.not_false, Fm.stops_iff]
    intro s hs
    cases ha : ap7 s o
    · rfl
    · rw [Bool.true_and]
      cases hb : f.hold s
      · rfl
      · have := f.hold_mono (s := s) (s' := cpl o) (fun i hi h1 => by
          have h7 := Fm.bit_lt hr hi
          have h2 := (apTo_iff s o 7).1 ha i h7
          rw [h1, Bool.true_and] at h2
          rw [cpl_bit o i ho, h2]
          simp; omega) hb
        rw [this] at hh
        cases hh
  · rw [Bool.not_true]
    refine Fm.stops_no (s := cpl o &&& 127) (Nat.lt_of_le_of_lt Nat.and_le_right (by omega)) ?_
    rw [hlow, hh, Bool.and_true]
    refine (apTo_iff _ o 7).2 fun i hi => ?_
    rw [h127, cpl_bit o i ho]
    cases o.testBit i <;> simp

end Go.Proofs.Ytkildlonenjmaaa
