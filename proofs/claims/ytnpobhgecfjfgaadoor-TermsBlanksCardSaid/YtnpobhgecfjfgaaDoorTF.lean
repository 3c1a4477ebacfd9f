/-
  Plain facts (out of formula).
-/
import Derived.Test.YtnpobhgecfjfgaaDoorTD
import Derived.Test.YtnpobhgecfjfgaaDoorTE
namespace Go.Proofs.YtnpobhgecfjfgaaDoor
open Go.RowKit

theorem wrap64_range (x : Int) : -9223372036854775808 ≤ wrap64 x ∧ wrap64 x ≤ 9223372036854775807 := by unfold wrap64; omega

theorem wrap64_in {x : Int} (h : -9223372036854775808 ≤ x ∧ x ≤ 9223372036854775807) : wrap64 x = x := by unfold wrap64; omega
mutual

theorem fewP_ok : ∀ (f : Fm) (d : Int), -9223372036854775808 ≤ d → d ≤ 9223372036854775807 → (fewP d f).2 = true → d ≤ 50 ∧ (fewP d f).1 = f.size ∧ f.size ≤ 200 ∧ d + f.depth ≤ 51
  | .mk o a ks, d, h1, h2, h => by
    have e : fewP d (.mk o a ks) = fewPs d (wrap64 (d + 1)) 1 ks := by rw [fewP]
    rw [e] at h ⊢
    have h3 := fewPs_ok ks d (wrap64 (d + 1)) 1 (by omega) (by omega) (wrap64_range _).1 (wrap64_range _).2 h
    obtain ⟨k1, k2, k3, k4⟩ := h3
    have hd : wrap64 (d + 1) = d + 1 := wrap64_in (by omega)
    rw [hd] at k4
    simp only [Fm.size, Fm.depth]
    refine ⟨k1, by omega, by omega, ?_⟩
    rcases k4 with k4 | k4 <;> omega

theorem fewPs_ok : ∀ (ks : List Fm) (d d' m : Int), 1 ≤ m → m ≤ 200 → -9223372036854775808 ≤ d' → d' ≤ 9223372036854775807 → (fewPs d d' m ks).2 = true → d ≤ 50 ∧ (fewPs d d' m ks).1 = m + Fm.sizes ks ∧ m + Fm.sizes ks ≤ 200 ∧ (Fm.depths ks = 0 ∨ d' + Fm.depths ks ≤ 51)
  | [], d, d', m, h1, h2, h3, h4, h => by
    rw [fewPs] at h ⊢
    simp only [decide_eq_true_eq] at h
    refine ⟨h, ?_, ?_, .inl rfl⟩ <;> simp [Fm.sizes] <;> omega
  | k :: ks, d, d', m, h1, h2, h3, h4, h => by
    rw [fewPs_cons] at h ⊢
    split at h
    · cases h
    · rename_i hc
      rw [if_neg hc]
      have hk : (fewP d' k).2 = true := by
        cases hb : (fewP d' k).2
        · exact absurd (Or.inl hb) hc
        · rfl
      obtain ⟨j1, j2, j3, j4⟩ := fewP_ok k d' h3 h4 hk
      have hw : wrap64 (m + (fewP d' k).1) = m + k.size := by rw [j2]; exact wrap64_in (by omega)
      have hpos := k.size_pos
      rw [hw] at h hc ⊢
      have hm : m + (k.size : Int) ≤ 200 := by
        apply Classical.byContradiction
        intro hn
        exact hc (.inr (by omega))
      obtain ⟨i1, i2, i3, i4⟩ := fewPs_ok ks d d' (m + k.size) (by omega) hm h3 h4 h
      simp only [Fm.sizes, Fm.depths]
      refine ⟨i1, by rw [i2]; simp; omega, by simp; omega, ?_⟩
      right
      rcases i4 with i4 | i4 <;> omega
end

theorem few_ok {f : Fm} (h : (fewP 1 f).2 = true) : f.few := by
  have h1 := fewP_ok f 1 (by omega) (by omega) h
  exact ⟨h1.2.2.1, by have := h1.2.2.2; omega⟩

end Go.Proofs.YtnpobhgecfjfgaaDoor
