/-
  Joined: SwA.
-/
import Derived.Test.YtponmfkddglopaaWV24
namespace Go.Proofs.Ytponmfkddglopaa
open Go.RowKit

theorem saidW_get (d : List UInt8) (who : Int) : ∀ l : Wl, saidW l who d = (match getM who l with | none => 0 | some o => if o = d then 15 else 2)
 | [] => rfl
 | x :: l => by
  unfold saidW getM
  by_cases h : x.1 = who
  ·rw [if_pos h, if_pos h.symm]
  ·rw [if_neg h, if_neg (fun e => h e.symm)]
   exact saidW_get d who l
set_option maxHeartbeats 16000000 in
set_option maxRecDepth 100000 in
theorem isnone_sl (R : Nat) (s : Slt) (b p c : Value) (w : World) (h : Blk w R 61 (slC s b p c)) (hn : 1 ≤ s.n) :
  Calls Try.prog 23 #[(.pointer (some ⟨R, 0, none⟩))] w fun e w' => e = .returned (.bool false) ∧ w' = w := by
 have k0 : w.cell? ⟨R, 0, none⟩ = some (.int .i64 s.n) := h.cellAt rfl
 have hb : (s.n == 0) = false := by simp; omega
 have hb2 : ¬ s.n = 0 := by omega
 clear h
 go_enter Try.func23, Try.ntmps23
 go_wp2
 go_ret
 exact ⟨by first | rfl | simp [hb2], rfl⟩
set_option maxHeartbeats 16000000 in
set_option maxRecDepth 100000 in
theorem vote_sl (s : Slt) (bv p0 c0 : Value) (R g gv gc : Nat) (M : Wl) (who : Int) (d : List UInt8) (w : World) (hR : Blk w R 61 (slC s bv p0 c0)) (h : TlR 76 encD okD w g gv gc M) (hd : d.length = 32) (hm : M.length ≤ 100000) :
  Calls Try.prog 24 #[(.pointer (some ⟨R, 0, none⟩)), (.pointer (some ⟨g, 0, none⟩)), .int .i64 who, .agg (vs d).toArray] w fun e w' => e = .returned (.int .i64 (voteE s.n M who d)) ∧ TlR 76 encD okD w' g gv gc (voteW s.n M who d) ∧ Ft (D3 g gv gc) w w' := by
 have hz : ∀ W, (zeroValue 40).run Try.prog W = .ok (.agg (vs dgZ).toArray) W := fun W => Try.zero_d W
 have HD := Lib.hid hd
 have HMl := Lib.hid hm
 have HVd : Hid ((vs d).length = 32) := Lib.hid (D_len d hd)
 have HZl : Hid ((vs dgZ).length = 32) := Lib.hid (D_len _ D_okz)
 have X1 := below1_ w (.cells (vs d).toArray 40)
 have k0 : (w.alloc (.cells (vs d).toArray 40)).cell? ⟨R, 0, none⟩ = some (.int .i64 s.n) := (hR.through X1).cellAt rfl
 have HT0 := Lib.hid (h.through X1)
 have HB0 : Hid (Blk (w.alloc (.cells (vs d).toArray 40)) w.heap.size 40 (vs d)) := Lib.hid (Blk.fresh rfl rfl)
 have HF0 : Hid (Ft (D3 g gv gc) w (w.alloc (.cells (vs d).toArray 40))) := Lib.hid (Ft.of_below X1)
 have HOk := Lib.hid h.vm.2
 obtain ⟨n, hn⟩ : ∃ n, s.n = n := ⟨_, rfl⟩
 rw [hn] at k0 ⊢
 clear h hd hm hR X1 hn
 by_cases h1 : who < 0
 ·have e1 : voteE n M who d = 17 := by unfold voteE; rw [if_pos (.inl h1)]
  have e2 : voteW n M who d = M := by unfold voteW; rw [e1]; rfl
  rw [e1, e2]
  clear e1 e2
  go_enter Try.func24, Try.ntmps24
  go_wp2
  go_ret
  exact ⟨rfl, HT0.out, HF0.out⟩
 by_cases h2 : n ≤ who
 ·have e1 : voteE n M who d = 17 := by unfold voteE; rw [if_pos (.inr h2)]
  have e2 : voteW n M who d = M := by unfold voteW; rw [e1]; rfl
  rw [e1, e2]
  clear e1 e2
  go_enter Try.func24, Try.ntmps24
  go_wp2
  go_ret
  exact ⟨rfl, HT0.out, HF0.out⟩
 have e0 : voteE n M who d = saidW M who d := by unfold voteE; rw [if_neg (by omega)]
 rw [saidW_get] at e0
 cases hgm : getM who M with
 | none =>
  have HGm := Lib.hid hgm
  rw [hgm] at e0
  have e2 : voteW n M who d = addM who d M := by unfold voteW addM; rw [e0, hgm, if_pos rfl]; simp only; rw [put_new hgm]
  rw [e0, e2]
  clear e0 e2 hgm
  go_enter Try.func24, Try.ntmps24
  go_wp2_with (first
   | (go_at_call 29; (with_reducible refine (of_D who HT0.out).mono ?_); rintro e w1 ⟨rfl, hb9⟩; have HT1 := Lib.hid (HT0.out.through hb9); have HB1 := Lib.hid (HB0.out.through hb9); have HF1 : Hid (Ft (D3 g gv gc) w w1) := Lib.hid (HF0.out.deep hb9); clear hb9; rw [HGm.out]; (try simp only [Option.getD_none, Option.isSome_none]))
   | (refine wpList_store_blk rfl 40 (.tmp 9) (.tmp 25) rfl w1.heap.size (vs dgZ) rfl rfl 40 (vs dgZ) (Blk.fresh rfl rfl) (by rw [HZl.out]; kernel_rfl) (HZl.out.trans HZl.out.symm) (D_one dgZ) ?_; intro w2 hb9 hg9; have HB9 := Lib.hid hb9; have HN9 := below_new hg9; have HT2 := Lib.hid (HT1.out.through HN9); have HB2 := Lib.hid (HB1.out.through HN9); have HF2 : Hid (Ft (D3 g gv gc) w w2) := Lib.hid (HF1.out.deep HN9); clear hb9 hg9 HN9)
   | (refine wpList_load_blk rfl 40 (.tmp 7) rfl w.heap.size rfl 40 (vs d) _ HB2.out Try.underlying40 rfl (by rw [HVd.out]; kernel_rfl) ?_)
   | (go_at_call 30; (with_reducible refine (add_D who d HT2.out HD.out HMl.out).mono ?_); rintro e w3 ⟨rfl, ht9, hf9⟩; have HT3 := Lib.hid ht9; have HF3 : Hid (Ft (D3 g gv gc) w w3) := Lib.hid (HF2.out.trans hf9 (fun q hq => .inl hq)); clear ht9 hf9))
  go_ret
  exact ⟨rfl, HT3.out, HF3.out⟩
 | some o =>
  have HGm := Lib.hid hgm
  have hol : o.length = 32 := HOk.out _ (get_memM hgm)
  have HOl : Hid ((vs o).length = 32) := Lib.hid (D_len o hol)
  have hxe := fun W => eq_dgy o d hol HD.out W
  rw [hgm] at e0
  simp only at e0
  by_cases hod : o = d
  ·have e3 : (o == d) = true := by simpa using hod
   rw [if_pos hod] at e0
   have e2 : voteW n M who d = M := by unfold voteW; rw [e0]; rfl
   rw [e3] at hxe
   rw [e0, e2]
   clear e0 e2 hgm hod e3 hol
   go_enter Try.func24, Try.ntmps24
   go_wp2_with (first
    | (go_at_call 29; (with_reducible refine (of_D who HT0.out).mono ?_); rintro e w1 ⟨rfl, hb9⟩; have HT1 := Lib.hid (HT0.out.through hb9); have HB1 := Lib.hid (HB0.out.through hb9); have HF1 : Hid (Ft (D3 g gv gc) w w1) := Lib.hid (HF0.out.deep hb9); clear hb9; rw [HGm.out]; (try simp only [Option.getD_some, Option.isSome_some]))
    | (refine wpList_store_blk rfl 40 (.tmp 9) (.tmp 25) rfl w1.heap.size (vs o) rfl rfl 40 (vs dgZ) (Blk.fresh rfl rfl) (by rw [HOl.out]; kernel_rfl) (HZl.out.trans HOl.out.symm) (D_one o) ?_; intro w2 hb9 hg9; have HB9 := Lib.hid hb9; have HN9 := below_new hg9; have HT2 := Lib.hid (HT1.out.through HN9); have HB2 := Lib.hid (HB1.out.through HN9); have HF2 : Hid (Ft (D3 g gv gc) w w2) := Lib.hid (HF1.out.deep HN9); clear hb9 hg9 HN9)
    | (refine wpList_load_blk rfl 40 (.tmp 9) rfl w1.heap.size rfl 40 (vs o) _ HB9.out Try.underlying40 rfl (by rw [HOl.out]; kernel_rfl) ?_)
    | (refine wpList_load_blk rfl 40 (.tmp 7) rfl w.heap.size rfl 40 (vs d) _ HB2.out Try.underlying40 rfl (by rw [HVd.out]; kernel_rfl) ?_))
   go_ret
   exact ⟨rfl, HT2.out, HF2.out⟩
  ·have e3 : (o == d) = false := by simpa using hod
   rw [if_neg hod] at e0
   have e2 : voteW n M who d = M := by unfold voteW; rw [e0]; rfl
   rw [e3] at hxe
   rw [e0, e2]
   clear e0 e2 hgm hod e3 hol
   go_enter Try.func24, Try.ntmps24
   go_wp2_with (first
    | (go_at_call 29; (with_reducible refine (of_D who HT0.out).mono ?_); rintro e w1 ⟨rfl, hb9⟩; have HT1 := Lib.hid (HT0.out.through hb9); have HB1 := Lib.hid (HB0.out.through hb9); have HF1 : Hid (Ft (D3 g gv gc) w w1) := Lib.hid (HF0.out.deep hb9); clear hb9; rw [HGm.out]; (try simp only [Option.getD_some, Option.isSome_some]))
    | (refine wpList_store_blk rfl 40 (.tmp 9) (.tmp 25) rfl w1.heap.size (vs o) rfl rfl 40 (vs dgZ) (Blk.fresh rfl rfl) (by rw [HOl.out]; kernel_rfl) (HZl.out.trans HOl.out.symm) (D_one o) ?_; intro w2 hb9 hg9; have HB9 := Lib.hid hb9; have HN9 := below_new hg9; have HT2 := Lib.hid (HT1.out.through HN9); have HB2 := Lib.hid (HB1.out.through HN9); have HF2 : Hid (Ft (D3 g gv gc) w w2) := Lib.hid (HF1.out.deep HN9); clear hb9 hg9 HN9)
    | (refine wpList_load_blk rfl 40 (.tmp 9) rfl w1.heap.size rfl 40 (vs o) _ HB9.out Try.underlying40 rfl (by rw [HOl.out]; kernel_rfl) ?_)
    | (refine wpList_load_blk rfl 40 (.tmp 7) rfl w.heap.size rfl 40 (vs d) _ HB2.out Try.underlying40 rfl (by rw [HVd.out]; kernel_rfl) ?_))
   go_ret
   exact ⟨rfl, HT2.out, HF2.out⟩

end Go.Proofs.Ytponmfkddglopaa
