/-
  The law WireReads, walked over contracts of the program's own calls.
-/
import Derived.Test.YtkklgfcmgefedaaWiR
namespace Go.Proofs.Ytkklgfcmgefedaa
open Go.RowKit

/-- what the program's Parse keeps -/
def ParseW : Prop := ∀ (xs : List UInt8) (A : Option Addr) (n c : Nat) (w : World), By w (fun _ => True) A n xs → n ≤ c → c ≤ maxLen → Calls Try.prog 14 #[.slice A n c] w (MsOut w (parseM xs).1 (parseM xs).2)
/-- what the law's fixed keeps -/
def FixedW : Prop := ∀ w : World, Calls Try.prog 7 #[] w fun e w' => e = .returned (.bool true) ∧ Below w.heap.size w w'

set_option maxHeartbeats 16000000 in
set_option maxRecDepth 100000 in
theorem wirereads_of (hfx : FixedW) (hpa : ParseW) (xs : List UInt8) (A : Option Addr) (n c : Nat) (w : World) (h : By w (fun _ => True) A n xs) (hnc : n ≤ c) (hc : c ≤ maxLen) :
    Calls Try.prog 4 #[.slice A n c] w fun e w' => e = .returned (.bool true) ∧ Below w.heap.size w w' := by
  have HFx : Hid (∀ w : World, Calls Try.prog 7 #[] w fun e w' => e = .returned (.bool true) ∧ Below w.heap.size w w') := Lib.hid hfx
  have HY := Lib.hid h
  have HNc := Lib.hid (And.intro hnc hc)
  clear h hnc hc
  by_cases h1 : 2000 < n
  · have d1 : decide ((2000 : Int) < (n : Int)) = true := by simp; omega
    clear h1 hfx hpa
    go_enter Try.func4, Try.ntmps4
    go_wp2_with (first
      | (go_at_call 7; (with_reducible refine (HFx.out _).mono ?_); rintro e w1 ⟨rfl, hb1⟩; have HX1 := Lib.hid hb1; have HY1 := Lib.hid (HY.out.through hb1); clear hb1))
    go_ret
    exact ⟨rfl, HX1.out⟩
  have d1 : decide ((2000 : Int) < (n : Int)) = false := by simp; omega
  obtain ⟨m, er, hP⟩ : ∃ m er, parseM xs = (m, er) := ⟨_, _, rfl⟩
  have HPa : Hid (∀ (A : Option Addr) (n c : Nat) (w : World), By w (fun _ => True) A n xs → n ≤ c → c ≤ maxLen → Calls Try.prog 14 #[.slice A n c] w (MsOut w m er)) := Lib.hid (fun A n c w h1 h2 h3 => by
    have h9 := hpa xs A n c w h1 h2 h3
    rw [hP] at h9
    exact h9)
  have HRp : Hid (∀ (A : Option Addr) (k c : Nat) (w : World), By w (fun _ => True) A k xs → k ≤ c → c ≤ maxLen → Calls Try.prog 15 #[.slice A k c] w (MsOut w m er)) := Lib.hid (fun A k c w h1 h2 h3 => by
    have h9 := rmparse_any xs A k c w h1 h2 h3 (by simp only [maxLen] at h3; have := h1.len; have := HY.out.len; omega)
    rw [hP] at h9
    exact h9)
  have HSm : Hid (∀ (B : Option Addr) (nb cb : Nat) (A : Option Addr) (nt ct : Nat) (B' : Option Addr) (nb' cb' : Nat) (A' : Option Addr) (nt' ct' : Nat) (w : World), MsIn w B nb A nt ct m → MsIn w B' nb' A' nt' ct' m → Calls Try.prog 13 #[.agg #[.int .i64 m.kd, .int .i64 m.fr, .slice B nb cb, .slice A nt ct], .agg #[.int .i64 m.kd, .int .i64 m.fr, .slice B' nb' cb', .slice A' nt' ct']] w fun e w' => e = .returned (.bool true) ∧ Below w.heap.size w w') := Lib.hid (fun B nb cb A nt ct B' nb' cb' A' nt' ct' w h1 h2 => by
    have h9 := rmsame_any m m B nb cb A nt ct B' nb' cb' A' nt' ct' w h1 h2
    rw [Ms.eqb_self] at h9
    exact h9)
  clear h1 hP hfx hpa
  go_enter Try.func4, Try.ntmps4
  go_wp2_with (first
    | (go_at_call 7; (with_reducible refine (HFx.out _).mono ?_); rintro e w1 ⟨rfl, hb1⟩; have HX1 := Lib.hid hb1; have HY1 := Lib.hid (HY.out.through hb1); clear hb1)
    | (go_at_call 14; (with_reducible refine (HPa.out _ _ _ _ HY1.out HNc.out.1 HNc.out.2).mono ?_); rintro e w2 ⟨B2, n2, c2, A2, t2, d2, rfl, hm2, hb2⟩; have HM2 := Lib.hid (hm2.through (below1_ w2 (.cells #[.int .i64 m.kd, .int .i64 m.fr, .slice B2 n2 c2, .slice A2 t2 d2] 25))); have K2 : Hid (Blk (w2.alloc (.cells #[.int .i64 m.kd, .int .i64 m.fr, .slice B2 n2 c2, .slice A2 t2 d2] 25)) w2.heap.size 25 [.int .i64 m.kd, .int .i64 m.fr, .slice B2 n2 c2, .slice A2 t2 d2]) := Lib.hid (Blk.fresh rfl rfl); have HX2 : Hid (Below w.heap.size w (w2.alloc (.cells #[.int .i64 m.kd, .int .i64 m.fr, .slice B2 n2 c2, .slice A2 t2 d2] 25))) := Lib.hid ((below_step HX1.out hb2).alloc (below_step HX1.out hb2).size (.cells #[.int .i64 m.kd, .int .i64 m.fr, .slice B2 n2 c2, .slice A2 t2 d2] 25)); have HY2 := Lib.hid (HY.out.through HX2.out); clear hm2 hb2)
    | (go_at_call 15; (with_reducible refine (HRp.out _ _ _ _ HY2.out HNc.out.1 HNc.out.2).mono ?_); rintro e w3 ⟨B3, n3, c3, A3, t3, d3, rfl, hm3, hb3⟩; have HM3 := Lib.hid (hm3.through (below1_ w3 (.cells #[.int .i64 m.kd, .int .i64 m.fr, .slice B3 n3 c3, .slice A3 t3 d3] 25))); have HM2b := Lib.hid ((HM2.out.through hb3).through (below1_ w3 (.cells #[.int .i64 m.kd, .int .i64 m.fr, .slice B3 n3 c3, .slice A3 t3 d3] 25))); have K3 : Hid (Blk (w3.alloc (.cells #[.int .i64 m.kd, .int .i64 m.fr, .slice B3 n3 c3, .slice A3 t3 d3] 25)) w3.heap.size 25 [.int .i64 m.kd, .int .i64 m.fr, .slice B3 n3 c3, .slice A3 t3 d3]) := Lib.hid (Blk.fresh rfl rfl); have K2b := Lib.hid ((K2.out.through hb3).alloc (.cells #[.int .i64 m.kd, .int .i64 m.fr, .slice B3 n3 c3, .slice A3 t3 d3] 25)); have HX3 : Hid (Below w.heap.size w (w3.alloc (.cells #[.int .i64 m.kd, .int .i64 m.fr, .slice B3 n3 c3, .slice A3 t3 d3] 25))) := Lib.hid ((below_step HX2.out hb3).alloc (below_step HX2.out hb3).size (.cells #[.int .i64 m.kd, .int .i64 m.fr, .slice B3 n3 c3, .slice A3 t3 d3] 25)); clear hm3 hb3)
    | (refine wpList_load_blk_g 25 (.tmp 3) rfl (by kernel_rfl) w2.heap.size rfl 25 [.int .i64 m.kd, .int .i64 m.fr, .slice B2 n2 c2, .slice A2 t2 d2] _ K2b.out Try.underlying25 rfl (by kernel_rfl) ?_)
    | (refine wpList_load_blk_g 25 (.tmp 5) rfl (by kernel_rfl) w3.heap.size rfl 25 [.int .i64 m.kd, .int .i64 m.fr, .slice B3 n3 c3, .slice A3 t3 d3] _ K3.out Try.underlying25 rfl (by kernel_rfl) ?_)
    | (go_at_call 13; (with_reducible refine (HSm.out _ _ _ _ _ _ _ _ _ _ _ _ _ HM2b.out HM3.out).mono ?_); rintro e w4 ⟨rfl, hb4⟩; have HX4 := Lib.hid (below_step HX3.out hb4); clear hb4))
  go_ret
  exact ⟨rfl, HX4.out⟩

end Go.Proofs.Ytkklgfcmgefedaa
