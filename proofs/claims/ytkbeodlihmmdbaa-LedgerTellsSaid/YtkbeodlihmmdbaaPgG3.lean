/-
  The program's Bytes.
-/
import Derived.Test.YtkbeodlihmmdbaaPgG2
import Derived.Test.YtkbeodlihmmdbaaPgE2
namespace Go.Proofs.Ytkbeodlihmmdbaa
open Go.RowKit

set_option maxHeartbeats 8000000 in
set_option maxRecDepth 100000 in
theorem bytes_any (l : Lg) (A : Option Addr) (n c : Nat) (B : Option Addr) (m d : Nat) (w : World) (h : LgIn w A n B m l) (hn : n ≤ 1000000) (hm : m ≤ 1000000) (hnl : ∀ x ∈ l.ls, x.nm.length ≤ 140737488355328) :
    Calls Try.prog 20 #[l.val A n c B m d] w (Byt w (if l.right then l.bytes else [])) := by
  have hck : ∀ W, Below w.heap.size w W → Calls Try.prog 21 #[.agg #[.int .i64 l.sq, .int .i64 l.tt, .slice A n c, .slice B m d]] W fun e w' => e = .returned (.int .i64 (chkE l)) ∧ Below W.heap.size W w' := fun W hW => check_any l A n c B m d W (h.through hW) hn hm hnl
  have H0 : Hid (Blk (w.alloc (.cells #[.int .i64 l.sq, .int .i64 l.tt, .slice A n c, .slice B m d] 25)) w.heap.size 25 [.int .i64 l.sq, .int .i64 l.tt, .slice A n c, .slice B m d]) := Lib.hid (Blk.fresh rfl rfl)
  have HX0 : Hid (Below w.heap.size w (w.alloc (.cells #[.int .i64 l.sq, .int .i64 l.tt, .slice A n c, .slice B m d] 25))) := Lib.hid (below1 w _)
  have hcv := fun (v : Int) (W : World) => conv_u64 2 61 Try.underlying2 Try.underlying61 v W
  unfold chkE at hck
  cases hr : l.right with
  | false =>
    rw [hr] at hck
    have hck2 : ∀ W, Below w.heap.size w W → Calls Try.prog 21 #[.agg #[.int .i64 l.sq, .int .i64 l.tt, .slice A n c, .slice B m d]] W fun e w' => e = .returned (.int .i64 2) ∧ Below W.heap.size W w' := hck
    have HCk := Lib.hid hck2
    clear h hck hck2 hr hcv hnl
    rw [if_neg (by simp)]
    unfold Lg.val
    go_enter Try.func20, Try.ntmps20
    go_wp2_with (first
      | (refine wpList_load_blk rfl 25 (.tmp 1) rfl w.heap.size rfl 25 [.int .i64 l.sq, .int .i64 l.tt, .slice A n c, .slice B m d] _ H0.out Try.underlying25 rfl (by kernel_rfl) ?_)
      | (go_at_call 21; (with_reducible refine (HCk.out _ HX0.out).mono ?_); rintro e w1 ⟨rfl, hb1⟩; have H1 := Lib.hid (H0.out.through hb1); have HX1 : Hid (Below w.heap.size w w1) := Lib.hid (below_step HX0.out hb1); have c1x := H1.out.cellAt (i := 0) rfl; clear hb1))
    go_ret
    exact ⟨none, 0, 0, rfl, By.none_, Nat.le_refl _, by simp [maxLen], HX1.out⟩
  | true =>
    rw [hr] at hck
    have hck2 : ∀ W, Below w.heap.size w W → Calls Try.prog 21 #[.agg #[.int .i64 l.sq, .int .i64 l.tt, .slice A n c, .slice B m d]] W fun e w' => e = .returned (.int .i64 0) ∧ Below W.heap.size W w' := hck
    have HCk := Lib.hid hck2
    rw [if_pos rfl]
    have hR := Lg.right_iff.1 hr
    have hlt := lsOk_mem _ _ hR.ls
    have hlen := h.len
    have hn16 : n ≤ 16 := by have := hR.l16; omega
    have hm4 : m ≤ 4 := by have := hR.o4; omega
    have hle : ∀ i, (encAll encLt (l.ls.take i)).length ≤ 8000 := fun i => by
      have h1 := encAll_len (f := encLt) (b := 500) (l.ls.take i) (fun x hx => encLt_len (hlt x (List.mem_of_mem_take hx)))
      have h2 : (l.ls.take i).length ≤ 16 := by rw [List.length_take]; omega
      have h3 : (l.ls.take i).length * 500 ≤ 16 * 500 := Nat.mul_le_mul_right _ h2
      omega
    have hoe : ∀ i, (encAll encOc (l.os.take i)).length ≤ 40 := fun i => by
      have h1 := encAll_len (f := encOc) (b := 10) (l.os.take i) (fun x _ => Nat.le_of_eq (encOc_len x))
      have h2 : (l.os.take i).length ≤ 4 := by rw [List.length_take]; omega
      have h3 : (l.os.take i).length * 10 ≤ 4 * 10 := Nat.mul_le_mul_right _ h2
      omega
    have hok : ∀ x ∈ l.ls, x.nm.length ≤ 1000 ∧ x.po.length ≤ 1000 ∧ x.pa.length ≤ 1000 := fun x hx => by
      have := hlt x hx
      simp only [ltOk, Bool.and_eq_true, decide_eq_true_eq] at this
      have h9 := isNm_len this.1.1.1.1.1.1.1
      exact ⟨by omega, by omega, by omega⟩
    have hls : ∀ (W : World) (B' : Option Addr) (m' d' : Nat) (xs : List UInt8), Below w.heap.size w W → By W (fun _ => True) B' m' xs → m' ≤ d' → xs.length ≤ 100000 → Calls Try.prog 37 #[.slice B' m' d', .slice A n c, .func (.func 38) #[] #[]] W (Byt W (xs ++ beB l.ls.length 2 ++ encAll encLt l.ls)) := fun W B' m' d' xs hW hY hmd hl => listL_any l.ls B' m' d' A n c xs W hY hmd hl (h.1.through hW) (by omega) (fun i => by have := hle i; omega) hok
    have hos : ∀ (W : World) (B' : Option Addr) (m' d' : Nat) (xs : List UInt8), Below w.heap.size w W → By W (fun _ => True) B' m' xs → m' ≤ d' → xs.length ≤ 100000 → Calls Try.prog 39 #[.slice B' m' d', .slice B m d, .func (.func 40) #[] #[]] W (Byt W (xs ++ beB l.os.length 2 ++ encAll encOc l.os)) := fun W B' m' d' xs hW hY hmd hl => listO_any l.os B' m' d' B m d xs W hY hmd hl (h.2.through hW) (by omega) (fun i => by have := hoe i; omega)
    have HLs := Lib.hid hls
    have HOs := Lib.hid hos
    have hl4 : ([] ++ beB (u64N l.sq) 8 ++ beB (u64N l.tt) 8 ++ beB l.ls.length 2 ++ encAll encLt l.ls).length ≤ 100000 := by
      have h9 := hle l.ls.length
      rw [List.take_of_length_le (Nat.le_refl _)] at h9
      simp
      omega
    have HL4 := Lib.hid hl4
    clear h hck hck2 hr hnl hR hlt hlen hle hoe hok hls hos hl4
    unfold Lg.val
    go_enter Try.func20, Try.ntmps20
    go_wp2_with (first
      | (refine wpList_load_blk rfl 25 (.tmp 1) rfl w.heap.size rfl 25 [.int .i64 l.sq, .int .i64 l.tt, .slice A n c, .slice B m d] _ H0.out Try.underlying25 rfl (by kernel_rfl) ?_)
      | (go_at_call 21; (with_reducible refine (HCk.out _ HX0.out).mono ?_); rintro e w1 ⟨rfl, hb1⟩; have H1 := Lib.hid (H0.out.through hb1); have HX1 : Hid (Below w.heap.size w w1) := Lib.hid (below_step HX0.out hb1); have c1x := H1.out.cellAt (i := 0) rfl; clear hb1)
      | (go_at_call 36; (with_reducible refine (put8_by (Q := fun _ => True) (A := none) (n := 0) (c := 0) (xs := []) (u64N l.sq) (u64N_lt64 _) By.none_ (by simp) (Nat.le_refl _)).mono ?_); rintro e w2 ⟨A2, n2, c2, rfl, hy2, hc2, hm2, hb2⟩; have HY2 := Lib.hid hy2; have HC2 := Lib.hid (And.intro hc2 hm2); have H2 := Lib.hid (H1.out.through hb2); have HX2 : Hid (Below w.heap.size w w2) := Lib.hid (below_step HX1.out hb2); have c2x := H2.out.cellAt (i := 1) rfl; clear hy2 hc2 hm2 hb2)
      | (go_at_call 36; (with_reducible refine (put8_by (u64N l.tt) (u64N_lt64 _) HY2.out (by simp) HC2.out.1).mono ?_); rintro e w3 ⟨A3, n3, c3, rfl, hy3, hc3, hm3, hb3⟩; have HY3 := Lib.hid hy3; have HC3 := Lib.hid (And.intro hc3 hm3); have H3 := Lib.hid (H2.out.through hb3); have HX3 : Hid (Below w.heap.size w w3) := Lib.hid (below_step HX2.out hb3); have c3x := H3.out.cellAt (i := 2) rfl; clear hy3 hc3 hm3 hb3)
      | (go_at_call 37; (with_reducible refine (HLs.out _ _ _ _ _ HX3.out HY3.out HC3.out.1 (by simp)).mono ?_); rintro e w4 ⟨A4, n4, c4, rfl, hy4, hc4, hm4, hb4⟩; have HY4 := Lib.hid hy4; have HC4 := Lib.hid (And.intro hc4 hm4); have H4 := Lib.hid (H3.out.through hb4); have HX4 : Hid (Below w.heap.size w w4) := Lib.hid (below_step HX3.out hb4); have c4x := H4.out.cellAt (i := 3) rfl; clear hy4 hc4 hm4 hb4)
      | (go_at_call 39; (with_reducible refine (HOs.out _ _ _ _ _ HX4.out HY4.out HC4.out.1 HL4.out).mono ?_); rintro e w5 ⟨A5, n5, c5, rfl, hy5, hc5, hm5, hb5⟩; have HY5 := Lib.hid hy5; have HC5 := Lib.hid (And.intro hc5 hm5); have HX5 : Hid (Below w.heap.size w w5) := Lib.hid (below_step HX4.out hb5); clear hy5 hc5 hm5 hb5))
    go_ret
    exact ⟨A5, n5, c5, rfl, by have h9 := HY5.out; simpa only [Lg.bytes, List.nil_append, List.append_assoc] using h9, HC5.out.1, HC5.out.2, HX5.out⟩

end Go.Proofs.Ytkbeodlihmmdbaa
