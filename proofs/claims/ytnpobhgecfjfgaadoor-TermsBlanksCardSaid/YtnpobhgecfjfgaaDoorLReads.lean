/-
  TermsReads, walked.
-/
import Derived.Test.YtnpobhgecfjfgaaDoorLF9
import Derived.Test.YtnpobhgecfjfgaaDoorTE
namespace Go.Proofs.YtnpobhgecfjfgaaDoor
open Go.RowKit

mutual
theorem Fm.same_self : ∀ f : Fm, f.same f = true
  | .mk o a ks => by rw [Fm.same_eq, Fm.sames_self ks]; simp
theorem Fm.sames_self : ∀ ks : List Fm, Fm.sames ks ks = true
  | [] => rfl
  | k :: ks => by rw [Fm.sames_cons, Fm.same_self k, Fm.sames_self ks]; rfl
end

set_option maxHeartbeats 8000000 in
set_option maxRecDepth 100000 in
theorem lreads_any (t : List UInt8) (n : Int) (w : World) (he : EV w) :
    Calls Tryd.prog 3 #[.string (ba t), .int .i64 n] w fun e w' => e = .returned (.bool true) ∧ Below w.heap.size w w' := by
  have hsz := ba_size
  have HE := Lib.hid he
  by_cases hl : 1000 < t.length
  · clear he
    go_enter Tryd.func3, Tryd.ntmps3
    go_wp2_with (first
      | (go_at_call 6; (with_reducible refine (fixed_any _ HE.out).mono ?_); rintro e w1 ⟨rfl, hb⟩; have HX1 := Lib.hid hb; have HE1 := Lib.hid (HE.out.through hb); clear hb))
    go_ret
    exact ⟨rfl, HX1.out⟩
  · obtain ⟨⟨f, x⟩, hp⟩ : ∃ p : Fm × Int, parseP t n = p := ⟨_, rfl⟩
    have hc1 : ∀ W : World, EV W → Calls Tryd.prog 7 #[.string (ba t), .int .i64 n] W fun e w' => ∃ A m c, e = .returned (.tuple #[.agg #[.int .i64 f.org, .int .i64 f.nd, .slice A m c], .int .i64 x]) ∧ f.In w' (fun _ => True) A m ∧ Below W.heap.size W w' := fun W he => (pparse_any t n W (by omega) he).mono fun e w' ⟨⟨A, m, c, h1, h2⟩, h3⟩ => by
      rw [hp] at h1 h2
      exact ⟨A, m, c, h1, h2.any, h3⟩
    have hc2 : ∀ W : World, Calls Tryd.prog 8 #[.string (ba t), .int .i64 n] W fun e w' => ∃ A m c, e = .returned (.tuple #[.agg #[.int .i64 f.org, .int .i64 f.nd, .slice A m c], .int .i64 x]) ∧ f.In w' (fun _ => True) A m ∧ Below W.heap.size W w' := fun W => (rparse_any t n W (by omega)).mono fun e w' ⟨⟨A, m, c, h1, h2⟩, h3⟩ => by
      rw [hp] at h1 h2
      exact ⟨A, m, c, h1, h2.any, h3⟩
    have hs : ∀ (A B : Option Addr) (m c m' c' : Nat) (W : World), f.In W (fun _ => True) A m → f.In W (fun _ => True) B m' → Calls Tryd.prog 9 #[.agg #[.int .i64 f.org, .int .i64 f.nd, .slice A m c], .agg #[.int .i64 f.org, .int .i64 f.nd, .slice B m' c']] W fun e w' => e = .returned (.bool true) ∧ Below W.heap.size W w' := fun A B m c m' c' W h1 h2 => by
      have := rsame_any f f A B m c m' c' W h1 h2
      rw [f.same_self] at this
      exact this
    have H1 := Lib.hid hc1
    have H2 := Lib.hid hc2
    have H3 := Lib.hid hs
    clear hc1 hc2 hs hp he
    go_enter Tryd.func3, Tryd.ntmps3
    go_wp2_with (first
      | (go_at_call 6; (with_reducible refine (fixed_any _ HE.out).mono ?_); rintro e w1 ⟨rfl, hb⟩; have HX1 := Lib.hid hb; have HE1 := Lib.hid (HE.out.through hb); clear hb)
      | (go_at_call 7; (with_reducible refine (H1.out _ HE1.out).mono ?_); rintro e w2 ⟨A, m, c, rfl, hf, hb⟩; have HX2 := Lib.hid ((below_step HX1.out hb).alloc (below_step HX1.out hb).size (.cells #[.int .i64 f.org, .int .i64 f.nd, .slice A m c] 25)); have HF2 := Lib.hid (hf.alloc (.cells #[.int .i64 f.org, .int .i64 f.nd, .slice A m c] 25)); have HB2 : Hid (Blk (w2.alloc (.cells #[.int .i64 f.org, .int .i64 f.nd, .slice A m c] 25)) w2.heap.size 25 [.int .i64 f.org, .int .i64 f.nd, .slice A m c]) := Lib.hid (Blk.fresh rfl rfl); clear hb hf)
      | (go_at_call 8; (with_reducible refine (H2.out _).mono ?_); rintro e w3 ⟨B, m2, c2, rfl, hf, hb⟩; have HX3 := Lib.hid ((below_step HX2.out hb).alloc (below_step HX2.out hb).size (.cells #[.int .i64 f.org, .int .i64 f.nd, .slice B m2 c2] 25)); have HF3 := Lib.hid ((HF2.out.through hb).alloc (.cells #[.int .i64 f.org, .int .i64 f.nd, .slice B m2 c2] 25)); have HG3 := Lib.hid (hf.alloc (.cells #[.int .i64 f.org, .int .i64 f.nd, .slice B m2 c2] 25)); have HB3 := Lib.hid ((HB2.out.through hb).alloc (.cells #[.int .i64 f.org, .int .i64 f.nd, .slice B m2 c2] 25)); have HC3 : Hid (Blk (w3.alloc (.cells #[.int .i64 f.org, .int .i64 f.nd, .slice B m2 c2] 25)) w3.heap.size 25 [.int .i64 f.org, .int .i64 f.nd, .slice B m2 c2]) := Lib.hid (Blk.fresh rfl rfl); clear hb hf)
      | (refine wpList_load_blk_g 25 (.tmp 5) rfl (by kernel_rfl) w2.heap.size rfl 25 [.int .i64 f.org, .int .i64 f.nd, .slice A m c] _ HB3.out Tryd.underlying25 rfl (by kernel_rfl) ?_)
      | (refine wpList_load_blk_g 25 (.tmp 7) rfl (by kernel_rfl) w3.heap.size rfl 25 [.int .i64 f.org, .int .i64 f.nd, .slice B m2 c2] _ HC3.out Tryd.underlying25 rfl (by kernel_rfl) ?_)
      | (go_at_call 9; (with_reducible refine (H3.out _ _ _ _ _ _ _ HF3.out HG3.out).mono ?_); rintro e w4 ⟨rfl, hb⟩; have HX4 := Lib.hid (below_step HX3.out hb); clear hb))
    go_ret
    exact ⟨rfl, HX4.out⟩

end Go.Proofs.YtnpobhgecfjfgaaDoor
