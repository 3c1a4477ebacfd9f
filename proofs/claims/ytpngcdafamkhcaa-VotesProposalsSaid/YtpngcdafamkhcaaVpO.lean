/-
  A proposal opened out of an argument's reading; the program's ParseProposal and Proposal as VotesProposals asks for them. No walk here.
-/
import Derived.Test.YtpngcdafamkhcaaBaOp
import Derived.Test.YtpngcdafamkhcaaVpE
import Derived.Test.YtpngcdafamkhcaaVoR
namespace Go.Proofs.Ytpngcdafamkhcaa
open Go.ChangeShapes Go.WideShapes Go.ChangeAt Go.RowKit Go.Deep

theorem pprw : PPrW := fun xs N A n c w h _ _ hn => vparse_pr xs N A n c w h hn
theorem prw : PrW := fun v A k c w h hk hl => vprop_any v A k c w h (by omega) (fun y hy => by have := hl y hy; omega) (by
  have h1 := encB_len (es := v.es) 2000 (fun y hy => by have := hl y hy; omega)
  have h2 : v.es.length * (39 + 2000) ≤ 1000 * 2039 := by rw [h.len]; exact Nat.mul_le_mul hk (Nat.le_refl _)
  omega)
set_option maxRecDepth 100000 in
/-- An argument of type Proposal. -/
theorem opened_pr {H : Type} {enc : TypeId × Value → H} {W : World} {b : Nat} {v : Value} {d : DataW H} {p : List MemPlace} (hv : Value.okWide Try.prog W .any b 24 v)
    (h0 : DataW.Trod enc Try.prog W 0 (fun _ => true) true 24 v d p) :
    ∃ (m : Pr) (A : Option Addr) (k c : Nat), v = .agg #[.int .i64 m.vw, .int .i64 m.sq, .slice A k c] ∧ EysIn W A k m.es ∧ (∀ y ∈ m.es, y.In) ∧ k ≤ c ∧ c ≤ maxLen := by
  simp only [Value.okWide, Try.underlying24] at hv
  obtain ⟨cs, rfl, hsz, _⟩ := hv
  obtain ⟨fuel, hf⟩ := h0
  obtain ⟨xs, m, rfl, _, hl, hlen, hg⟩ := DataW.trod_struct Try.underlying24 hf
  have e8 : Try.prog.cellsOf 24 = 3 := by kernel_rfl
  have hcl : (Value.agg cs).cells.toList.length = 3 := by rw [e8] at hl; exact hl
  obtain ⟨cs⟩ := cs
  have e0 : (Value.agg ⟨cs⟩).cells.toList = cs := by simp [Value.cells]
  rw [e0] at hcl hg
  match cs, hcl with
  | [c0, c1, c2], _ =>
    have hx : ∀ i, i < 3 → ∃ y, xs[i]? = some y := fun i hi => ⟨_, List.getElem?_eq_getElem (by have := hlen; simp at this; omega)⟩
    have g0 := hg 0 _ rfl
    obtain ⟨z0, hz0⟩ := hx 0 (by omega)
    rw [hz0] at g0
    have g1 := hg 1 _ rfl
    obtain ⟨z1, hz1⟩ := hx 1 (by omega)
    rw [hz1] at g1
    have g2 := hg 2 _ rfl
    obtain ⟨z2, hz2⟩ := hx 2 (by omega)
    rw [hz2] at g2
    have k0 : Try.prog.cellsOf 2 = 1 := by kernel_rfl
    have k2 : Try.prog.cellsOf 22 = 1 := by kernel_rfl
    simp only [List.getElem_toArray, List.getElem_cons_zero, List.getElem_cons_succ] at g0 g1 g2
    rw [k0] at g0 g1
    rw [k2] at g2
    obtain ⟨v0, hv0, _, _⟩ := DataW.trod_int Try.underlying2 g0
    obtain ⟨v1, hv1, _, _⟩ := DataW.trod_int Try.underlying2 g1
    have d0 : c0 = .int .i64 v0 := by simpa using hv0
    have d1 : c1 = .int .i64 v1 := by simpa using hv1
    obtain ⟨A, n, c, es, d2, h1, h4, h2, h3⟩ := sl_ey (c0 := c2) (by simpa using g2)
    subst d0 d1 d2
    exact ⟨⟨v0, v1, es⟩, A, n, c, rfl, h1, h4, h2, h3⟩

end Go.Proofs.Ytpngcdafamkhcaa
