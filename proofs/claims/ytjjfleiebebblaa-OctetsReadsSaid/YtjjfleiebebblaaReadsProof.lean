/-
  OctetsReads: FOR EVERY SLICE OF BYTES AND EVERY SLICE OF STEPS (nil too), the law returns true, and leaves its arguments as they were. No condition.
-/
import Derived.Test.YtjjfleiebebblaaReads
import Derived.Test.YtjjfleiebebblaaOpen
import Derived.Deep.Slices
import Derived.Deep.Fields
namespace Go.Proofs.Ytjjfleiebebblaa
open Go.ChangeShapes Go.WideShapes Go.ChangeAt Go.RowKit Go.Deep

def numAt (v : Option Value) : Int := match v with | some (.int _ n) => n | _ => 0

theorem field_int {H : Type} {enc : TypeId × Value → H} {P : Program} {w : World} {base : Nat} {spare : Nat → Bool} {held : Bool} {fuel : Nat} {cs : List Value} {x : DataW H × List MemPlace} {t : TypeId} {fs : Array Field}
    (ht : P.underlying t = some (.struct fs)) (hone : oneCellFields P fs = true) (h : DataW.trod enc P w base spare held fuel t cs = some x) (i : Nat) (f : Field) (hf : fs[i]? = some f) (hi : i < cs.length) (k : IntKind) (hk : P.underlying f.type = some (.int k)) :
    ∃ v, cs[i]? = some (.int k v) ∧ (Lit.int k v).wf = true := by
  obtain ⟨xs, n, _, _, _, hlen, hg⟩ := DataW.trod_struct ht h
  obtain ⟨ho, hc⟩ := hone_of hone i f hf
  have h1 := hg i f hf
  rw [ho, hc] at h1
  have hs : i < fs.size := (Array.getElem?_eq_some_iff.1 hf).1
  have e1 : (cs.drop i).take 1 = [cs[i]] := by
    rw [List.drop_eq_getElem_cons hi]
    rfl
  rw [e1, List.getElem?_eq_getElem (by omega)] at h1
  obtain ⟨v, hv, _, hw⟩ := DataW.trod_int hk h1
  injection hv with hv
  exact ⟨v, by rw [List.getElem?_eq_getElem hi, hv], hw⟩

theorem Try.cells_step : Try.prog.cellsOf 32 = 4 := by kernel_rfl

/-- An argument of type []Step, nil or not. -/
theorem openedSteps {H : Type} {enc : TypeId × Value → H} {W : World} {a0 : Option Addr} {len cap : Nat} {d0 : DataW H} {p : List MemPlace}
    (h0 : DataW.Trod enc Try.prog W 0 (fun _ => true) true 23 (.slice a0 len cap) d0 p) :
    ∃ ks ns los his, StepsIn W a0 len ks ns los his := by
  obtain ⟨fuel, hf⟩ := h0
  rcases open_slice Try.underlying23 hf with ⟨hcs, hx⟩ | ⟨a, len', cap', m, n, D, Pl, hcs, _, hl, hm, hmm, hx, hi⟩
  · simp [Value.cells] at hcs
    obtain ⟨rfl, rfl, rfl⟩ := hcs
    exact ⟨fun _ => 0, fun _ => 0, fun _ => 0, fun _ => 0, fun h => absurd h (by omega)⟩
  · simp [Value.cells] at hcs
    obtain ⟨rfl, rfl, rfl⟩ := hcs
    simp only [if_true] at hmm
    subst hmm
    obtain ⟨b, o, s⟩ := a
    refine ⟨fun i => numAt (W.cell? ⟨b, o + i * 4, none⟩), fun i => numAt (W.cell? ⟨b, o + i * 4 + 1, none⟩), fun i => numAt (W.cell? ⟨b, o + i * 4 + 2, none⟩), fun i => numAt (W.cell? ⟨b, o + i * 4 + 3, none⟩), fun hn => ?_⟩
    have hs : s = none := by
      obtain ⟨cs', hc, _⟩ := hi 0 (by omega)
      rw [Try.cells_step] at hc
      obtain ⟨_, hlen, hcell⟩ := World.cells?_some hc
      have c0 := (hcell 0 (by omega)).trans (List.getElem?_eq_getElem (by omega))
      simpa [Addr.add] using World.cell?_spot c0
    subst hs
    have all : ∀ i, i < len → ∃ k n lo hi' : Int, W.cell? ⟨b, o + i * 4, none⟩ = some (.int .u8 k) ∧ W.cell? ⟨b, o + i * 4 + 1, none⟩ = some (.int .i64 n) ∧ W.cell? ⟨b, o + i * 4 + 2, none⟩ = some (.int .i64 lo) ∧ W.cell? ⟨b, o + i * 4 + 3, none⟩ = some (.int .i64 hi') ∧
        (0 ≤ k ∧ k < 256) ∧ n ≤ 9223372036854775807 := fun i hil => by
      obtain ⟨cs', hc, ht⟩ := hi i (by omega)
      rw [Try.cells_step] at hc
      obtain ⟨_, hlen, hcell⟩ := World.cells?_some hc
      obtain ⟨k, hk, wk⟩ := field_int Try.underlying32 (by kernel_rfl) ht 0 _ rfl (by omega) .u8 Try.underlying5
      obtain ⟨n1, hn1, wn⟩ := field_int Try.underlying32 (by kernel_rfl) ht 1 _ rfl (by omega) .i64 Try.underlying3
      obtain ⟨lo, hlo, _⟩ := field_int Try.underlying32 (by kernel_rfl) ht 2 _ rfl (by omega) .i64 Try.underlying2
      obtain ⟨hh, hhi, _⟩ := field_int Try.underlying32 (by kernel_rfl) ht 3 _ rfl (by omega) .i64 Try.underlying2
      have c0 := (hcell 0 (by omega)).trans hk
      have c1 := (hcell 1 (by omega)).trans hn1
      have c2 := (hcell 2 (by omega)).trans hlo
      have c3 := (hcell 3 (by omega)).trans hhi
      rw [Go.WideShapes.add_plain, Go.WideShapes.add_plain] at c0 c1 c2 c3
      refine ⟨k, n1, lo, hh, c0, c1, c2, c3, ?_, ?_⟩
      · have : 0 ≤ k ∧ k ≤ 255 := by simpa [Lit.wf, IntKind.min, IntKind.max, IntKind.signed, IntKind.bits] using wk
        omega
      · have : -9223372036854775808 ≤ n1 ∧ n1 ≤ 9223372036854775807 := by simpa [Lit.wf, IntKind.min, IntKind.max, IntKind.signed, IntKind.bits] using wn
        omega
    refine ⟨b, o, rfl, fun i hil => ?_⟩
    obtain ⟨k, n1, lo, hh, c0, c1, c2, c3, hk, hn1⟩ := all i hil
    simp only [c0, c1, c2, c3, numAt]
    exact ⟨trivial, trivial, trivial, trivial, hk.1, hk.2, hn1⟩

set_option maxHeartbeats 1000000 in
theorem reads_far1 (A : Option Addr) (n c : Nat) (L : Option Addr) (m d : Nat) (w : World) (hn : 500 < n) :
    Calls Try.prog 3 #[.slice A n c, .slice L m d] w fun e w' => e = .returned (.bool true) ∧ Below w.heap.size w w' := by
  have hg1 : decide (500 < (n : Int)) = true := by simp; omega
  go_enter Try.func3, Try.ntmps3
  go_wp2_with (go_at_call 6; refine (fixed_ok _).mono ?_; rintro e w1 ⟨rfl, hb1⟩)
  go_ret
  exact ⟨rfl, hb1⟩

set_option maxHeartbeats 1000000 in
theorem reads_far2 (A : Option Addr) (n c : Nat) (L : Option Addr) (m d : Nat) (w : World) (hn : n ≤ 500) (hm : 60 < m) :
    Calls Try.prog 3 #[.slice A n c, .slice L m d] w fun e w' => e = .returned (.bool true) ∧ Below w.heap.size w w' := by
  have hg1 : decide (500 < (n : Int)) = false := by simp; omega
  have hg2 : decide (60 < (m : Int)) = true := by simp; omega
  go_enter Try.func3, Try.ntmps3
  go_wp2_with (go_at_call 6; refine (fixed_ok _).mono ?_; rintro e w1 ⟨rfl, hb1⟩)
  go_ret
  exact ⟨rfl, hb1⟩

theorem reads_any (Q : Nat → Prop) (A : Option Addr) (n c : Nat) (xs : List UInt8) (L : Option Addr) (m d : Nat) (ks ns los his : Nat → Int) (w : World) (h : By w Q A n xs) (h2 : StepsIn w L m ks ns los his) :
    Calls Try.prog 3 #[.slice A n c, .slice L m d] w fun e w' => e = .returned (.bool true) ∧ Below w.heap.size w w' := by
  by_cases hn : n ≤ 500
  · by_cases hm : m ≤ 60
    · exact reads_walk Q A n c xs L m d ks ns los his w h h2 hn hm
    · exact reads_far2 A n c L m d w hn (by omega)
  · exact reads_far1 A n c L m d w (by omega)

set_option maxHeartbeats 800000 in
set_option maxRecDepth 100000 in
theorem reads_lifted (os : Os) (started : os.Started) (H : Type) (enc : TypeId × Value → H) :
    ReturnsInHanded {} Try.checked os 3 .any (Rows.octetsReadsSpec.pre6 enc Try.prog Try.f3 Rows.octetsReadsRow.domain false) (Rows.octetsReadsSpec.post enc Try.prog Try.f3 false true false false) := by
  refine returnsInHanded_of_change (C := Try.checked) Try.own started (by kernel_rfl) Try.func3
    (ChangeSpec.witness6 (enc := enc) (C := Try.checked) false ⟨#[], #[.slice none 0 0, .slice none 0 0], []⟩ 8 (by kernel_rfl) (by kernel_rfl) (by kernel_rfl) (by kernel_rfl)) ?_
  intro W base args ds gs before hval0 hW _ _
  have hval : ∀ (j : Nat) t v, Try.f3.params[j]? = some t → args[j]? = some v → Value.okWide Try.prog W .any base t v := hval0
  have hW' := hW
  obtain ⟨p, q, hA0, hV, rfl, _, _⟩ := hW
  have hA : DataW.TrodAll enc Try.prog W 0 (fun _ => true) true Try.f3.params.toList args.toList ds p := hA0
  rw [Try.params3] at hA hval
  obtain ⟨v0, v1, d0, d1, p0, p1, rfl, rfl, rfl, h0, h1⟩ := trodAll_two hA
  obtain ⟨rfl, rfl⟩ := trodVars_none hV
  obtain ⟨a0, len0, cap0, rfl⟩ := okWide_slice Try.underlying22 (hval 0 22 v0 rfl rfl)
  obtain ⟨a1, len1, cap1, rfl⟩ := okWide_slice Try.underlying23 (hval 1 23 v1 rfl rfl)
  clear hA0 hval0
  simp only [List.append_nil] at hW'
  have hlt : ∀ z ∈ p0 ++ p1, z.block < W.heap.size := fun z hz => by simpa using hW'.lt z hz
  obtain ⟨xs, hB, _⟩ := opened h0
  obtain ⟨ks, ns, los, his, hS⟩ := openedSteps h1
  refine (reads_any _ a0 len0 cap0 xs a1 len1 cap1 ks ns los his W hB hS).mono fun e W' ⟨he, hnx⟩ => ?_
  subst he
  have harg0 : DataW.Trod enc Try.prog W' 0 (fun b => decide (b < W.heap.size)) true 22 (.slice a0 len0 cap0) d0 p0 :=
    Below.trod Try.laidOut (by kernel_rfl) (of_decide_eq_true (by kernel_rfl)) h0 hnx (fun x hx => hlt x (List.mem_append.2 (.inl hx)))
  have harg1 : DataW.Trod enc Try.prog W' 0 (fun b => decide (b < W.heap.size)) true 23 (.slice a1 len1 cap1) d1 p1 :=
    Below.trod Try.laidOut (by kernel_rfl) (of_decide_eq_true (by kernel_rfl)) h1 hnx (fun x hx => hlt x (List.mem_append.2 (.inr hx)))
  exact ⟨_, rfl, _, _, _, [], _, [], hW', trodAll_mk1 (shut_bool Try.underlying4 _), trodAll_mk2 harg0 harg1, rfl, hnx.frame _, fun h => by cases h⟩

theorem reads_holds : Rows.OctetsReadsSaid :=
  OpenClaim.holds_of_wide 3 Try.f3 rfl rfl rfl rfl rfl rfl rfl ⟨rfl, rfl, rfl, rfl, rfl⟩ rfl rfl rfl rfl rfl (by kernel_rfl) Try.func3 (by kernel_rfl)
    (of_decide_eq_true (by kernel_rfl)) (by unfold Func.isWrapper; first | (rw [if_pos (by decide +kernel)]; kernel_rfl) | (rw [if_neg (by decide +kernel)]; exact ⟨rfl, rfl⟩))
    (fun os started H enc _ => reads_lifted os started H enc)

#print axioms reads_holds
end Go.Proofs.Ytjjfleiebebblaa
