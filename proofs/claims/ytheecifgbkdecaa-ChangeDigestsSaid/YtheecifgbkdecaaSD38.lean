/-
  CwD
-/
import Derived.Test.YtheecifgbkdecaaSD32
import Derived.Test.YtheecifgbkdecaaSD25
import Derived.Test.YtheecifgbkdecaaSD7
namespace Go.Proofs.Ytheecifgbkdecaa
open Go.RowKit

theorem Try.el_u8s : El Try.prog 28 5 1 1 (.int .u8 0) := ⟨Try.underlying28, by kernel_rfl, rfl, by omega, by omega, by omega⟩
theorem Try.el_bb : El Try.prog 109 28 1 24 (.slice none 0 0) := ⟨Try.underlying109, by kernel_rfl, rfl, by omega, by omega, by omega⟩
theorem Try.ix_bb (W : World) (g n c j : Nat) (hj : j < n) : (Instr.indexAt 109 (.slice (some ⟨g, 0, none⟩) n c) (.int .i64 (j : Int))).run Try.prog W = .ok (.pointer (some ⟨g, j, none⟩)) W := by
  have h9 := El.index Try.el_bb (by kernel_rfl) W g 0 n c j hj
  simpa using h9
set_option maxHeartbeats 16000000 in
set_option maxRecDepth 100000 in
theorem growb_any (m : Nat) (h0 : 0 < m) (hm : m ≤ 1000000) (w : World) :
    Calls Try.prog 75 #[.slice none 0 0, .int .i64 (m : Int)] w fun e w' => ∃ v, e = .returned v ∧ w'.ownsRow w.heap.size 5 1 v 0 [] ∧ Below w.heap.size w w' := by
  have hw1 : IntKind.i64.wrap ((m : Int) - 0) = (m : Int) := by rw [IntWalk.i64_in _ (by omega)]; omega
  have hd0 : decide ((m : Int) < 0) = false := by simp
  have hd1 : decide ((0 : Int) < (m : Int)) = true := by simp; omega
  go_enter Try.func75, Try.ntmps75
  go_wp2_with (at_builtin; refine wpList_append_zeros rfl Try.el_u8s 3 Try.underlying3 (.tmp 20) (.tmp 21) rfl rfl m rfl h0 hm ?_; intro cap w1 ho hcap hb; have HO := Lib.hid ho.1; have HX := Lib.hid hb; clear ho hb)
  go_ret
  exact ⟨_, rfl, HO.out, HX.out⟩
def flatB (q : List (Pl × List UInt8)) : List UInt8 := encAll (fun x => x.2) q

set_option maxHeartbeats 16000000 in
set_option maxRecDepth 100000 in
theorem concatb_any (q : List (Pl × List UInt8)) (gb n : Nat) (w : World) (hn : q.length = n) (hs : n ≤ 1000) (hb : Blk w gb 28 (q.map (fun x => .slice x.1.1 x.1.2.1 x.1.2.2))) (hy : ∀ x ∈ q, By w (fun _ => True) x.1.1 x.1.2.1 x.2) (h0 : 0 < (flatB q).length) (hm : (flatB q).length ≤ 1000000) :
    Calls Try.prog 33 #[.slice (some ⟨gb, 0, none⟩) n n] w (Byt w (flatB q)) := by
  obtain ⟨i0, hi, hz0, hz1, hz2⟩ := info_parts Try.info_u8
  have HB := Lib.hid hb
  have HN := Lib.hid hn
  have HY := Lib.hid hy
  obtain ⟨OUT, hO⟩ : ∃ OUT, flatB q = OUT := ⟨_, rfl⟩
  have HT : Hid (0 < OUT.length ∧ OUT.length ≤ 1000000) := Lib.hid (hO ▸ ⟨h0, hm⟩)
  have HO0 : Hid (flatB (q.drop 0) = OUT) := Lib.hid (by rw [← hO, List.drop_zero])
  rw [hO]
  have HGr : Hid (∀ W : World, Calls Try.prog 75 #[.slice none 0 0, .int .i64 (OUT.length : Int)] W fun e w' => ∃ v, e = .returned v ∧ w'.ownsRow W.heap.size 5 1 v 0 [] ∧ Below W.heap.size W w') := Lib.hid (fun W => growb_any OUT.length HT.out.1 HT.out.2 W)
  clear hb hn hy h0 hm hO
  go_enter Try.func33, Try.ntmps33
  go_wp2
  go_loopw [3, 11] (fun sv iv wr => ∃ i s : Nat, i ≤ n ∧ iv = .int .i64 (i : Int) ∧ sv = .int .i64 (s : Int) ∧ s + (flatB (q.drop i)).length = OUT.length ∧ w = wr) (fun _ iv _ => n - (intOf iv).toNat)
  case atStart => exact ⟨0, 0, Nat.zero_le _, rfl, rfl, by rw [HO0.out]; omega, rfl⟩
  case round =>
    obtain ⟨i, s, hi', rfl, rfl, hsum, rfl⟩ := hrel
    have HSm := Lib.hid hsum
    clear hsum
    by_cases hlt : i < n
    · have hil : i < q.length := by rw [HN.out]; exact hlt
      obtain ⟨⟨⟨B, m, c⟩, z⟩, hget⟩ : ∃ x, q[i]? = some x := ⟨_, List.getElem?_eq_getElem hil⟩
      have hix := fun W => Try.ix_bb W gb n n i hlt
      have hcl := HB.out.cellAt (i := i) (v := .slice B m c) (by rw [List.getElem?_map, hget]; rfl)
      have hmem := List.mem_of_getElem? hget
      have hyz := HY.out _ hmem
      have hd : q.drop i = ⟨⟨B, m, c⟩, z⟩ :: q.drop (i + 1) := by
        rw [List.drop_eq_getElem_cons hil]
        congr 1
        have h9 := List.getElem?_eq_getElem hil
        rw [hget] at h9
        exact (Option.some.inj h9).symm
      have HS2 : Hid ((s + m) + (flatB (q.drop (i + 1))).length = OUT.length) := Lib.hid (by
        have h9 := HSm.out
        rw [hd] at h9
        have h8 := hyz.len
        simp only [flatB, encAll, List.length_append] at h9 ⊢
        simp only at h8
        omega)
      have hw : IntKind.i64.wrap ((s : Int) + (m : Int)) = ((s + m : Nat) : Int) := by rw [IntWalk.i64_in _ (by have := HS2.out; have := HT.out.2; omega)]; omega
      have hd0 : decide (((s + m : Nat) : Int) < 0) = false := by simp; omega
      have hd1 : decide ((s : Int) + (m : Int) < 0) = false := by simp; omega
      clear hil hget hd hmem hyz
      go_wp2
      go_roundw
      case rel => exact ⟨i + 1, s + m, by omega, by go_num, by first | rfl | (rw [hw]) | go_num, HS2.out, by first | trivial | rfl⟩
      case measure => simp [intOf]; omega
    · have e9 : q.drop i = [] := List.drop_of_length_le (by have := HN.out; omega)
      have hse : s = OUT.length := by have h9 := HSm.out; rw [e9] at h9; simpa [flatB, encAll] using h9
      subst hse
      clear e9
      go_wp2_with (first
        | (go_at_call 75; (with_reducible refine (HGr.out _).mono ?_); rintro e w1 ⟨v1, rfl, ho1, hb1⟩; have HO1 := Lib.hid ho1; have HX1 := Lib.hid hb1; clear ho1 hb1))
      go_loopw [6, 27] (fun bv iv wr => ∃ (i : Nat) (ys : List UInt8) (v' : Value), i ≤ n ∧ iv = .int .i64 (i : Int) ∧ v' = bv ∧ ys ++ flatB (q.drop i) = OUT ∧ wr.ownsRow w.heap.size 5 1 v' ys.length (vs ys) ∧ Below w.heap.size w wr) (fun _ iv _ => n - (intOf iv).toNat)
      case atStart => exact ⟨0, [], v1, Nat.zero_le _, rfl, rfl, by rw [HO0.out]; rfl, HO1.out, HX1.out⟩
      case round =>
        obtain ⟨i, ys, v', hi', rfl, rfl, hpq, hown, hx⟩ := hrel
        have HO := Lib.hid hown
        have HX := Lib.hid hx
        have HPQ := Lib.hid hpq
        clear hown hx hpq
        by_cases hlt : i < n
        · have hil : i < q.length := by rw [HN.out]; exact hlt
          obtain ⟨⟨⟨B, m, c⟩, z⟩, hget⟩ : ∃ x, q[i]? = some x := ⟨_, List.getElem?_eq_getElem hil⟩
          have hix := fun W => Try.ix_bb W gb n n i hlt
          have hcl := (HB.out.through HX.out).cellAt (i := i) (v := .slice B m c) (by rw [List.getElem?_map, hget]; rfl)
          have hmem := List.mem_of_getElem? hget
          have HYz : Hid (By wr (fun _ => True) B m z) := Lib.hid ((HY.out _ hmem).through HX.out)
          have hd : q.drop i = ⟨⟨B, m, c⟩, z⟩ :: q.drop (i + 1) := by
            rw [List.drop_eq_getElem_cons hil]
            congr 1
            have h9 := List.getElem?_eq_getElem hil
            rw [hget] at h9
            exact (Option.some.inj h9).symm
          have HPQ2 : Hid ((ys ++ z) ++ flatB (q.drop (i + 1)) = OUT) := Lib.hid (by rw [← HPQ.out, hd]; simp [flatB, encAll])
          have HBD : Hid (ys.length + m ≤ 140737488355328) := Lib.hid (by have h9 := congrArg List.length HPQ2.out; simp only [List.length_append] at h9; have h8 := HYz.out.len; have := HT.out.2; omega)
          clear hil hget hd hmem
          go_wp2_with (first
            | (at_builtin; refine wpList_append_by _ rfl (.tmp 31) (.tmp 32) 28 rfl w.heap.size i0 Try.underlying28 hi hz0 hz1 hz2 v' ys.length (vs ys) rfl HO.out (fun _ => True) B m c z rfl HYz.out HBD.out HX.out.size ?_; intro v6 w6 hown6 hgrow6 _; have HN6 : Hid (w6.ownsRow w.heap.size 5 1 v6 (ys ++ z).length (vs (ys ++ z))) := Lib.hid (by rw [List.length_append, ← vs_append, HYz.out.len]; exact hown6); have HX6 : Hid (Below w.heap.size w w6) := Lib.hid (HX.out.grown hgrow6 HX.out.size (fun g hg => (HO.out.lt g hg).1)); clear hown6 hgrow6))
          go_roundw
          case rel => exact ⟨i + 1, ys ++ z, v6, by omega, by go_num, rfl, HPQ2.out, HN6.out, HX6.out⟩
          case measure => simp [intOf]; omega
        · have e9 : q.drop i = [] := List.drop_of_length_le (by have := HN.out; omega)
          have HE : Hid (ys = OUT) := Lib.hid (by rw [← HPQ.out, e9]; simp [flatB, encAll])
          clear e9
          obtain ⟨A7, c7, rfl, hn7, hm7, _⟩ := own_form HO.out
          go_wp2
          go_ret
          rw [← HE.out]
          exact ⟨A7, _, c7, rfl, (By.of_own HO.out).weak fun _ _ => trivial, hn7, hm7, HX.out⟩

end Go.Proofs.Ytheecifgbkdecaa
