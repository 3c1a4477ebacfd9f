/-
  The law's fixed calls, walked; what the program's own calls keep, as the laws ask it.
-/
import Derived.Test.YtkklgfcmgefedaaWiK
import Derived.Test.YtkklgfcmgefedaaWiE
import Derived.Test.YtkklgfcmgefedaaWiG
import Derived.Test.YtkklgfcmgefedaaWiH
import Derived.Lib.SlBytesConst
namespace Go.Proofs.Ytkklgfcmgefedaa
open Go.RowKit

theorem checkw : CheckW := fun a B nb cb A nt ct w h _ _ => check_any a B nb cb A nt ct w h
theorem bytesw : BytesW := fun a B nb cb A nt ct w h h1 h2 => bytes_any a B nb cb A nt ct w h (by rw [h.enc_len]; omega) (by omega)
theorem samew : SameW := fun a b B nb cb A nt ct B' nb' cb' A' nt' ct' w h h' => same_any a b B nb cb A nt ct B' nb' cb' A' nt' ct' w h h'
theorem parsew : ParseW := fun xs A n c w h _ _ => parse_any xs A n c w h
theorem enc_m0 : encM ⟨4, 2, [120], []⟩ = [4, 2, 0, 0, 0, 1, 120, 0, 0] := rfl
theorem chk_m0 : chkM ⟨4, 2, [120], []⟩ = 0 := by unfold chkM; rw [enc_m0]; rfl
theorem parse_m0 : parseM [4, 2, 0, 0, 0, 1, 120, 0, 0] = (⟨4, 2, [120], []⟩, 0) := by rw [← enc_m0]; exact parseM_back chk_m0 (fun t h => by cases h)
theorem parse_nil : parseM [] = (Ms.no, 2) := rfl
theorem by_mark (w : World) : By (w.alloc (.cells #[.int .u8 120] 5 (1, 2))) (fun _ => True) (some ⟨w.heap.size, 0, none⟩) 1 [120] := by
  refine ⟨rfl, fun _ => ⟨_, _, rfl, trivial, fun j u hu => ?_⟩⟩
  match j, hu with
  | 0, hu =>
    simp at hu
    subst hu
    rw [cell_of_row _ w.heap.size _ _ _ _ (heap_alloc_new w _)]
    rfl
  | j + 1, hu => simp at hu
theorem msIn_m0 (w : World) : MsIn (w.alloc (.cells #[.int .u8 120] 5 (1, 2))) (some ⟨w.heap.size, 0, none⟩) 1 none 0 0 ⟨4, 2, [120], []⟩ := ⟨by_mark w, TsIn.nil_⟩

set_option maxHeartbeats 16000000 in
set_option maxRecDepth 100000 in
theorem fixedw : FixedW := fun w => by
  have HX1 : Hid (Below w.heap.size w (w.alloc (.cells #[.int .u8 120] 5 (1, 2)))) := Lib.hid (below1_ w _)
  have HBy : Hid (Calls Try.prog 8 #[.agg #[.int .i64 4, .int .i64 2, .slice (some ⟨w.heap.size, 0, none⟩) 1 1, .slice none 0 0]] (w.alloc (.cells #[.int .u8 120] 5 (1, 2))) (Byt (w.alloc (.cells #[.int .u8 120] 5 (1, 2))) [4, 2, 0, 0, 0, 1, 120, 0, 0])) := Lib.hid (by
    have h9 := bytes_any ⟨4, 2, [120], []⟩ (some ⟨w.heap.size, 0, none⟩) 1 1 none 0 0 (w.alloc (.cells #[.int .u8 120] 5 (1, 2))) (msIn_m0 w) (by rw [enc_m0]; decide) (by decide)
    rw [enc_m0] at h9
    exact h9)
  have HP1 : Hid (∀ (A : Option Addr) (n c : Nat) (W : World), By W (fun _ => True) A n [4, 2, 0, 0, 0, 1, 120, 0, 0] → Calls Try.prog 14 #[.slice A n c] W fun e w' => ∃ (B : Option Addr) (nb cb : Nat) (A : Option Addr) (nt ct : Nat), e = .returned (.tuple #[.agg #[.int .i64 4, .int .i64 2, .slice B nb cb, .slice A nt ct], .int .i64 0]) ∧ MsIn w' B nb A nt ct ⟨4, 2, [120], []⟩ ∧ Below W.heap.size W w') := Lib.hid (fun A n c W h => by
    have h9 := parse_any [4, 2, 0, 0, 0, 1, 120, 0, 0] A n c W h
    rw [parse_m0] at h9
    exact h9)
  have HP2 : Hid (∀ W : World, Calls Try.prog 14 #[.slice none 0 0] W fun e w' => ∃ (B : Option Addr) (nb cb : Nat) (A : Option Addr) (nt ct : Nat), e = .returned (.tuple #[.agg #[.int .i64 0, .int .i64 0, .slice B nb cb, .slice A nt ct], .int .i64 2]) ∧ Below W.heap.size W w') := Lib.hid (fun W => by
    have h9 := parse_any [] none 0 0 W By.none_
    rw [parse_nil] at h9
    exact h9.mono fun e w' ⟨B, nb, cb, A, nt, ct, h1, _, h2⟩ => ⟨B, nb, cb, A, nt, ct, h1, h2⟩)
  have HCk : Hid (∀ (B : Option Addr) (nb cb : Nat) (A : Option Addr) (nt ct : Nat) (W : World), MsIn W B nb A nt ct ⟨4, 2, [120], []⟩ → Calls Try.prog 9 #[.agg #[.int .i64 4, .int .i64 2, .slice B nb cb, .slice A nt ct]] W fun e w' => e = .returned (.int .i64 0) ∧ Below W.heap.size W w') := Lib.hid (fun B nb cb A nt ct W h => by
    have h9 := check_any ⟨4, 2, [120], []⟩ B nb cb A nt ct W h
    rw [chk_m0] at h9
    exact h9)
  have HStr : Hid (∀ (A : Option Addr) (n c : Nat) (W : World), By W (fun _ => True) A n [4, 2, 0, 0, 0, 1, 120, 0, 0] → (convert 22 9 (.slice A n c)).run Try.prog W = .ok (.string (ba [4, 2, 0, 0, 0, 1, 120, 0, 0])) W) := Lib.hid (fun A n c W h => run_string_by _ 22 9 5 Try.underlying22 Try.underlying5 Try.underlying9 _ _ _ _ _ h)
  have hcs := fun (w : World) (C : Array Value) (n c : Nat) => Lib.run_convert_bytes_const (P := Try.prog) w 22 5 C n c Try.underlying22 Try.underlying5
  have hc9 : (⟨#[4, 2, 0, 0, 0, 1, 120, 0, 0]⟩ : ByteArray).toList = [4, 2, 0, 0, 0, 1, 120, 0, 0] := ba_list _
  have hb9 : (ba [4, 2, 0, 0, 0, 1, 120, 0, 0]).toList = [4, 2, 0, 0, 0, 1, 120, 0, 0] := ba_list _
  go_enter Try.func7, Try.ntmps7
  go_wp2_with (first
    | (go_at_call 8; (with_reducible refine (HBy.out).mono ?_); rintro e w2 ⟨A2, n2, d2, rfl, hy2, hn2, hm2, hb2⟩; have HY2 := Lib.hid hy2; have HX2 : Hid (Below w.heap.size w w2) := Lib.hid (below_step HX1.out hb2); clear hy2 hn2 hm2 hb2)
    | (go_at_call 14; (with_reducible refine (HP1.out _ _ _ _ HY2.out).mono ?_); rintro e w3 ⟨B3, nb3, cb3, A3, nt3, ct3, rfl, hm3, hb3⟩; have HX3 : Hid (Below w.heap.size w (w3.alloc (.cells #[.int .i64 4, .int .i64 2, .slice B3 nb3 cb3, .slice A3 nt3 ct3] 25))) := Lib.hid ((below_step HX2.out hb3).alloc (below_step HX2.out hb3).size (.cells #[.int .i64 4, .int .i64 2, .slice B3 nb3 cb3, .slice A3 nt3 ct3] 25)); have HB3 : Hid (Blk (w3.alloc (.cells #[.int .i64 4, .int .i64 2, .slice B3 nb3 cb3, .slice A3 nt3 ct3] 25)) w3.heap.size 25 [.int .i64 4, .int .i64 2, .slice B3 nb3 cb3, .slice A3 nt3 ct3]) := Lib.hid (Blk.fresh rfl rfl); have HM3 : Hid (MsIn (w3.alloc (.cells #[.int .i64 4, .int .i64 2, .slice B3 nb3 cb3, .slice A3 nt3 ct3] 25)) B3 nb3 A3 nt3 ct3 ⟨4, 2, [120], []⟩) := Lib.hid (hm3.through (below1_ w3 (.cells #[.int .i64 4, .int .i64 2, .slice B3 nb3 cb3, .slice A3 nt3 ct3] 25))); have HY3 := Lib.hid ((HY2.out.through hb3).through (below1_ w3 (.cells #[.int .i64 4, .int .i64 2, .slice B3 nb3 cb3, .slice A3 nt3 ct3] 25))); clear hm3 hb3)
    | (go_at_call 14; (with_reducible refine (HP2.out _).mono ?_); rintro e w4 ⟨B4, nb4, cb4, A4, nt4, ct4, rfl, hb4⟩; have HB5 := Lib.hid ((HB3.out.through hb4).through (below1_ w4 (.cells #[.int .i64 0, .int .i64 0, .slice B4 nb4 cb4, .slice A4 nt4 ct4] 25))); have HX5 : Hid (Below w.heap.size w (w4.alloc (.cells #[.int .i64 0, .int .i64 0, .slice B4 nb4 cb4, .slice A4 nt4 ct4] 25))) := Lib.hid ((below_step HX3.out hb4).alloc (below_step HX3.out hb4).size (.cells #[.int .i64 0, .int .i64 0, .slice B4 nb4 cb4, .slice A4 nt4 ct4] 25)); have HM5 := Lib.hid ((HM3.out.through hb4).through (below1_ w4 (.cells #[.int .i64 0, .int .i64 0, .slice B4 nb4 cb4, .slice A4 nt4 ct4] 25))); have hv := HStr.out A2 n2 d2 _ ((HY3.out.through hb4).through (below1_ w4 (.cells #[.int .i64 0, .int .i64 0, .slice B4 nb4 cb4, .slice A4 nt4 ct4] 25))); have c50 := HB5.out.cellAt (i := 0) rfl; clear hb4)
    | (refine wpList_load_blk_g 25 (.tmp 2) rfl (by kernel_rfl) w3.heap.size rfl 25 [.int .i64 4, .int .i64 2, .slice B3 nb3 cb3, .slice A3 nt3 ct3] _ HB5.out Try.underlying25 rfl (by kernel_rfl) ?_)
    | (go_at_call 9; (with_reducible refine (HCk.out _ _ _ _ _ _ _ HM5.out).mono ?_); rintro e w6 ⟨rfl, hb6⟩; have HX6 := Lib.hid (below_step HX5.out hb6); clear hb6 hv c50))
  go_ret
  exact ⟨rfl, HX6.out⟩

end Go.Proofs.Ytkklgfcmgefedaa
