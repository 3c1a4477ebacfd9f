/-
  The program's list: how many there are, and each one's bytes.
-/
import Derived.Test.YtkbeodlihmmdbaaPgG1
namespace Go.Proofs.Ytkbeodlihmmdbaa
open Go.RowKit

set_option maxHeartbeats 8000000 in
set_option maxRecDepth 100000 in
theorem listL_any (ls : List Lt) (B : Option Addr) (m d : Nat) (A : Option Addr) (n c : Nat) (xs : List UInt8) (w : World) (h : By w (fun _ => True) B m xs) (hnc : m ≤ d) (hl : xs.length ≤ 100000) (hs : Sl w 6 A n (ls.map Lt.cells)) (hn : n ≤ 1000) (hle : ∀ i, (encAll encLt (ls.take i)).length ≤ 100000) (hx : ∀ x ∈ ls, x.nm.length ≤ 1000 ∧ x.po.length ≤ 1000 ∧ x.pa.length ≤ 1000) :
    Calls Try.prog 37 #[.slice B m d, .slice A n c, .func (.func 38) #[] #[]] w (Byt w (xs ++ beB ls.length 2 ++ encAll encLt ls)) := by
  have HI := Lib.hid hs
  have hlen : ls.length = n := by simpa using hs.len
  have HLn := Lib.hid hlen
  have HLE := Lib.hid hle
  have HIX := Lib.hid Try.ix_lt
  have HY := Lib.hid h
  have HXL := Lib.hid hx
  have hcv := fun (W : World) => conv_u64 3 61 Try.underlying3 Try.underlying61 (n : Int) W
  have hun : u64N (n : Int) = n := u64N_nat (by omega)
  rw [hun] at hcv
  rw [hlen]
  have hP : (xs ++ beB n 2).length ≤ 200000 := by simp; omega
  clear h hs hlen hle hun hx
  go_enter Try.func37, Try.ntmps37
  go_wp2_with (first
    | (go_at_call 36; (with_reducible refine (put2_by n (by omega) HY.out (by omega) hnc).mono ?_); rintro e w1 ⟨A1, n1, c1, rfl, hy1, hc1, hm1, hb1⟩; have HX1 := Lib.hid hb1; have HY1 := Lib.hid hy1; have HC1 := Lib.hid (And.intro hc1 hm1); clear hy1 hb1 hc1 hm1))
  go_loopw [0, 16] (fun bv iv wr => ∃ (i : Nat) (Ai : Option Addr) (ni ci : Nat), i ≤ n ∧ iv = .int .i64 i ∧ bv = .slice Ai ni ci ∧ By wr (fun _ => True) Ai ni (xs ++ beB n 2 ++ encAll encLt (ls.take i)) ∧ ni ≤ ci ∧ ci ≤ maxLen ∧ Below w.heap.size w wr) (fun _ iv _ => n - (intOf iv).toNat)
  case atStart => exact ⟨0, A1, n1, c1, Nat.zero_le _, rfl, rfl, by simpa [encAll] using HY1.out, HC1.out.1, HC1.out.2, HX1.out⟩
  case round =>
    obtain ⟨i, Ai, ni, ci, hi, rfl, rfl, hy, hc1, hc2, hx⟩ := hrel
    have HX := Lib.hid hx
    have HYi := Lib.hid hy
    have HCi := Lib.hid (And.intro hc1 hc2)
    clear hx hy hc1 hc2
    by_cases hlt : i < n
    · obtain ⟨g, o, x, rfl, hxi, hmem, _, hrx⟩ := (HI.out.through HX.out).at_lt hlt
      have HRx := Lib.hid hrx
      have hix := HIX.out wr g o n c i hlt
      have HTk := Lib.hid (encAll_take encLt hxi)
      have hq : (xs ++ beB n 2 ++ encAll encLt (ls.take i)).length ≤ 1000000 := by
        have h9 := HLE.out i
        rw [List.length_append]
        omega
      have hca : ∀ W, Below w.heap.size w W → By W (fun _ => True) Ai ni (xs ++ beB n 2 ++ encAll encLt (ls.take i)) → Calls Try.prog 38 #[.slice Ai ni ci, .agg #[.string (ba x.nm), .int .i64 x.st, .int .i64 x.am, .int .i64 x.du, .string (ba x.po), .string (ba x.pa)]] W (Byt W (xs ++ beB n 2 ++ encAll encLt (ls.take i) ++ encLt x)) := fun W _ hY => addletter_any x Ai ni ci _ W hY HCi.out.1 hq (HXL.out x hmem)
      have HCa := Lib.hid hca
      clear hrx hxi hmem hca hq
      go_wp2_with (first
        | (refine wpList_load_mid rfl 27 (.tmp 18) rfl g (o + i * 6) rfl [.string (ba x.nm), .int .i64 x.st, .int .i64 x.am, .int .i64 x.du, .string (ba x.po), .string (ba x.pa)] _ HRx.out Try.underlying27 rfl (by kernel_rfl) ?_)
        | (refine wpList_load_blk rfl 27 (.tmp 8) rfl wr.heap.size rfl 27 [.string (ba x.nm), .int .i64 x.st, .int .i64 x.am, .int .i64 x.du, .string (ba x.po), .string (ba x.pa)] _ (Blk.fresh rfl rfl) Try.underlying27 rfl (by kernel_rfl) ?_)
        | (go_at_call 38; (with_reducible refine (HCa.out _ (HX.out.alloc HX.out.size (.cells #[.string (ba x.nm), .int .i64 x.st, .int .i64 x.am, .int .i64 x.du, .string (ba x.po), .string (ba x.pa)] 27)) (HYi.out.alloc (.cells #[.string (ba x.nm), .int .i64 x.st, .int .i64 x.am, .int .i64 x.du, .string (ba x.po), .string (ba x.pa)] 27))).mono ?_); rintro e w2 ⟨A2, n2, c2, rfl, hy2, hc2, hm2, hb2⟩; have HX2 : Hid (Below w.heap.size w w2) := Lib.hid (below_step (HX.out.alloc HX.out.size (.cells #[.string (ba x.nm), .int .i64 x.st, .int .i64 x.am, .int .i64 x.du, .string (ba x.po), .string (ba x.pa)] 27)) hb2); have HY2 := Lib.hid hy2; have HC2 := Lib.hid (And.intro hc2 hm2); clear hy2 hb2 hc2 hm2))
      go_roundw
      case rel => exact ⟨i + 1, A2, n2, c2, by omega, by go_num, rfl, by (rw [HTk.out, ← List.append_assoc]; exact HY2.out), HC2.out.1, HC2.out.2, HX2.out⟩
      case measure => simp [intOf]; omega
    · have e : ls.take i = ls := List.take_of_length_le (by have := HLn.out; omega)
      have hy := HYi.out
      rw [e] at hy
      have HYe := Lib.hid hy
      clear e hy
      go_wp2
      go_ret
      exact ⟨Ai, ni, ci, rfl, HYe.out, HCi.out.1, HCi.out.2, HX.out⟩

set_option maxHeartbeats 8000000 in
set_option maxRecDepth 100000 in
theorem listO_any (ls : List Oc) (B : Option Addr) (m d : Nat) (A : Option Addr) (n c : Nat) (xs : List UInt8) (w : World) (h : By w (fun _ => True) B m xs) (hnc : m ≤ d) (hl : xs.length ≤ 100000) (hs : Sl w 3 A n (ls.map Oc.cells)) (hn : n ≤ 1000) (hle : ∀ i, (encAll encOc (ls.take i)).length ≤ 100000) :
    Calls Try.prog 39 #[.slice B m d, .slice A n c, .func (.func 40) #[] #[]] w (Byt w (xs ++ beB ls.length 2 ++ encAll encOc ls)) := by
  have HI := Lib.hid hs
  have hlen : ls.length = n := by simpa using hs.len
  have HLn := Lib.hid hlen
  have HLE := Lib.hid hle
  have HIX := Lib.hid Try.ix_oc
  have HY := Lib.hid h
  have hcv := fun (W : World) => conv_u64 3 61 Try.underlying3 Try.underlying61 (n : Int) W
  have hun : u64N (n : Int) = n := u64N_nat (by omega)
  rw [hun] at hcv
  rw [hlen]
  have hP : (xs ++ beB n 2).length ≤ 200000 := by simp; omega
  clear h hs hlen hle hun
  go_enter Try.func39, Try.ntmps39
  go_wp2_with (first
    | (go_at_call 36; (with_reducible refine (put2_by n (by omega) HY.out (by omega) hnc).mono ?_); rintro e w1 ⟨A1, n1, c1, rfl, hy1, hc1, hm1, hb1⟩; have HX1 := Lib.hid hb1; have HY1 := Lib.hid hy1; have HC1 := Lib.hid (And.intro hc1 hm1); clear hy1 hb1 hc1 hm1))
  go_loopw [0, 16] (fun bv iv wr => ∃ (i : Nat) (Ai : Option Addr) (ni ci : Nat), i ≤ n ∧ iv = .int .i64 i ∧ bv = .slice Ai ni ci ∧ By wr (fun _ => True) Ai ni (xs ++ beB n 2 ++ encAll encOc (ls.take i)) ∧ ni ≤ ci ∧ ci ≤ maxLen ∧ Below w.heap.size w wr) (fun _ iv _ => n - (intOf iv).toNat)
  case atStart => exact ⟨0, A1, n1, c1, Nat.zero_le _, rfl, rfl, by simpa [encAll] using HY1.out, HC1.out.1, HC1.out.2, HX1.out⟩
  case round =>
    obtain ⟨i, Ai, ni, ci, hi, rfl, rfl, hy, hc1, hc2, hx⟩ := hrel
    have HX := Lib.hid hx
    have HYi := Lib.hid hy
    have HCi := Lib.hid (And.intro hc1 hc2)
    clear hx hy hc1 hc2
    by_cases hlt : i < n
    · obtain ⟨g, o, x, rfl, hxi, hmem, _, hrx⟩ := (HI.out.through HX.out).at_oc hlt
      have HRx := Lib.hid hrx
      have hix := HIX.out wr g o n c i hlt
      have HTk := Lib.hid (encAll_take encOc hxi)
      have hq : (xs ++ beB n 2 ++ encAll encOc (ls.take i)).length ≤ 1000000 := by
        have h9 := HLE.out i
        rw [List.length_append]
        omega
      have hca : ∀ W, Below w.heap.size w W → By W (fun _ => True) Ai ni (xs ++ beB n 2 ++ encAll encOc (ls.take i)) → Calls Try.prog 40 #[.slice Ai ni ci, .agg #[.int .i64 x.cl, .int .i64 x.sp, .int .i64 x.rs]] W (Byt W (xs ++ beB n 2 ++ encAll encOc (ls.take i) ++ encOc x)) := fun W _ hY => addoutcome_any x Ai ni ci _ W hY HCi.out.1 hq
      have HCa := Lib.hid hca
      clear hrx hxi hmem hca hq
      go_wp2_with (first
        | (refine wpList_load_mid rfl 30 (.tmp 18) rfl g (o + i * 3) rfl [.int .i64 x.cl, .int .i64 x.sp, .int .i64 x.rs] _ HRx.out Try.underlying30 rfl (by kernel_rfl) ?_)
        | (refine wpList_load_blk rfl 30 (.tmp 8) rfl wr.heap.size rfl 30 [.int .i64 x.cl, .int .i64 x.sp, .int .i64 x.rs] _ (Blk.fresh rfl rfl) Try.underlying30 rfl (by kernel_rfl) ?_)
        | (go_at_call 40; (with_reducible refine (HCa.out _ (HX.out.alloc HX.out.size (.cells #[.int .i64 x.cl, .int .i64 x.sp, .int .i64 x.rs] 30)) (HYi.out.alloc (.cells #[.int .i64 x.cl, .int .i64 x.sp, .int .i64 x.rs] 30))).mono ?_); rintro e w2 ⟨A2, n2, c2, rfl, hy2, hc2, hm2, hb2⟩; have HX2 : Hid (Below w.heap.size w w2) := Lib.hid (below_step (HX.out.alloc HX.out.size (.cells #[.int .i64 x.cl, .int .i64 x.sp, .int .i64 x.rs] 30)) hb2); have HY2 := Lib.hid hy2; have HC2 := Lib.hid (And.intro hc2 hm2); clear hy2 hb2 hc2 hm2))
      go_roundw
      case rel => exact ⟨i + 1, A2, n2, c2, by omega, by go_num, rfl, by (rw [HTk.out, ← List.append_assoc]; exact HY2.out), HC2.out.1, HC2.out.2, HX2.out⟩
      case measure => simp [intOf]; omega
    · have e : ls.take i = ls := List.take_of_length_le (by have := HLn.out; omega)
      have hy := HYi.out
      rw [e] at hy
      have HYe := Lib.hid hy
      clear e hy
      go_wp2
      go_ret
      exact ⟨Ai, ni, ci, rfl, HYe.out, HCi.out.1, HCi.out.2, HX.out⟩

end Go.Proofs.Ytkbeodlihmmdbaa
