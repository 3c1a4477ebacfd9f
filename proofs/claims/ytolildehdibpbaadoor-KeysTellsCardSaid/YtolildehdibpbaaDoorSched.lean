/-
  schedule: the words of all rounds of a block.
-/
import Derived.Test.YtolildehdibpbaaDoorSchedW
import Derived.Test.YtolildehdibpbaaDoorTurn
import Derived.RegionTactic
import Derived.ChangeAlike
import Derived.Outline
namespace Go.Proofs.YtolildehdibpbaaDoor
open Go.RowKit

theorem Tryd.sched_idx (b : List UInt8) (hb : b.length = 64) (j : Nat) (hj : j < 64) (w : World) :
    (Instr.index 58 (.agg (vs b).toArray) (.int .i64 (j : Int))).run Tryd.prog w = .ok (.int .u8 ((b.getD j 0).toNat : Int)) w :=
  run_index_row w 58 5 64 (vs b) .i64 j _ Tryd.underlying58 (by kernel_rfl) (by kernel_rfl) hj (vs_getD b j (by omega))

set_option maxHeartbeats 1000000 in
set_option maxRecDepth 100000 in
theorem schedule_any (b : List UInt8) (hb : b.length = 64) (w : World) :
    Calls Tryd.prog 43 #[.agg (vs b).toArray] w fun e w' => e = .returned (.agg ((wds b 64).map c32).toArray) ∧ Below w.heap.size w w' := by
  have HB := Lib.hid hb
  clear hb
  go_enter Tryd.func43, Tryd.ntmps43
  go_wp2_with (refine wpList_load_row rfl 58 (.tmp 1) rfl w.heap.size rfl 58 (vs b).toArray (0, 0) _ ?hg Tryd.underlying58 rfl ?hs ?_)
  case hg => exact (Below.heap_alloc _ _ _ (by simp; omega)).trans ((Below.heap_alloc _ _ _ (by simp)).trans (heap_alloc_new _ _))
  case hs => rw [show (vs b).toArray.size = 64 from by simp [vs, HB.out]]; kernel_rfl
  go_wp2
  go_loopw [12] (fun i wr => ∃ k : Nat, k ≤ 64 ∧ i = .int .i64 k ∧ Blk wr (w.heap.size + 1 + 1) 79 (pcs b k) ∧ Blk wr (w.heap.size + 1) 79 (List.replicate 64 (c32 0)) ∧ Below w.heap.size w wr) (fun i _ => 64 - (intOf i).toNat)
  case atStart =>
    refine ⟨0, by omega, rfl, ?_, ?_, ?_⟩
    · rw [pcs_0]; exact Blk.fresh (by simp) (by kernel_rfl)
    · exact Blk.alloc (Blk.fresh (by simp) (by kernel_rfl)) _
    · exact (((Below.refl _ w).alloc (Nat.le_refl _) _).alloc (by simp) _).alloc (by simp; omega) _
  case round =>
    obtain ⟨k, hk, rfl, h3, h2, hb⟩ := hrel
    by_cases hlt : k < 64
    · have H3 := Lib.hid h3
      have H2 := Lib.hid h2
      have HBe := Lib.hid hb
      have hc : wr.cell? ⟨w.heap.size + 1 + 1, k / 4, none⟩ = some (.int .u32 (n32 (pw b k (k / 4)))) := h3.cellAt (pcs_get b k (k / 4) (by omega))
      have hf : wr.frozen? ⟨w.heap.size + 1 + 1, k / 4, none⟩ = false := h3.frozen _
      have hx := Tryd.sched_idx b HB.out k hlt
      have hset := pcs_set b k HB.out hlt
      generalize b.getD k 0 = x at hx hset
      have HS := Lib.hid hset
      have hp := w32_pack (pw b k (k / 4)) x
      have hbt := x.toNat_lt
      clear hset
      clear h3 h2 hb
      go_wp2
      go_roundw
      case rel =>
        refine ⟨k + 1, by omega, by go_num, ?_, H2.out.far (by simp) _, HBe.out.setCell (by simp; omega) _⟩
        have h := H3.out.set_ (k / 4) (c32 ((pw b k (k / 4) <<< 8) ||| x.toUInt32))
        rw [HS.out] at h
        exact h
      case measure => simp [intOf]; omega
    · have e64 : k = 64 := by omega
      rw [e64, pcs_64 b HB.out] at h3
      clear e64
      have H3 := Lib.hid h3
      have H2 := Lib.hid h2
      have HBe := Lib.hid hb
      clear h3 h2 hb
      go_wp2
      obtain ⟨wo, rfl⟩ : ∃ wo : World, wo = wr := ⟨_, rfl⟩
      go_loopw [6] (fun i wr => ∃ k : Nat, 16 ≤ k ∧ k ≤ 64 ∧ i = .int .i64 k ∧ Blk wr (w.heap.size + 1 + 1) 79 (scs b k) ∧ Blk wr (w.heap.size + 1) 79 (List.replicate 64 (c32 0)) ∧ Below w.heap.size w wr) (fun i _ => 64 - (intOf i).toNat)
      case atStart => exact ⟨16, by omega, by omega, rfl, H3.out, H2.out, HBe.out⟩
      case round =>
        obtain ⟨k, hk16, hk, rfl, h3, h2, hb⟩ := hrel
        by_cases hlt : k < 64
        · clear H3 H2 HBe
          have H3 := Lib.hid h3
          have H2 := Lib.hid h2
          have HBe := Lib.hid hb
          have hc : ∀ j, j < k → wr.cell? ⟨w.heap.size + 1 + 1, j, none⟩ = some (.int .u32 (n32 ((wds b k).getD j 0))) := fun j hj => h3.cellAt (scs_get b k j hj)
          have c15 := hc (k - 15) (by omega)
          have c2 := hc (k - 2) (by omega)
          have c16 := hc (k - 16) (by omega)
          have c7 := hc (k - 7) (by omega)
          have ck : wr.cell? ⟨w.heap.size + 1 + 1, k, none⟩ = some (.int .u32 (n32 0)) := h3.cellAt (scs_zero b k hlt)
          have hf : wr.frozen? ⟨w.heap.size + 1 + 1, k, none⟩ = false := h3.frozen _
          have hxx := w32_xor
          have haa := w32_add
          have s3 := w32_shr3
          have s10 := w32_shr10
          have hset := scs_set b k hlt
          rw [nextW, if_neg (by omega)] at hset
          generalize (wds b k).getD (k - 15) 0 = x15 at c15 hset
          generalize (wds b k).getD (k - 2) 0 = x2 at c2 hset
          generalize (wds b k).getD (k - 16) 0 = x16 at c16 hset
          generalize (wds b k).getD (k - 7) 0 = x7 at c7 hset
          have HS := Lib.hid hset
          clear h3 h2 hb hc hset
          go_wp2
          go_region
          all_goals go_wp2_with (go_at_call 25; refine (turn_lit _ _ (by omega) (by omega) _).mono ?_; rintro e w' ⟨rfl, rfl⟩)
          all_goals go_region
          all_goals go_wp2
          all_goals go_roundw
          case measure => simp [intOf]; omega
          case rel =>
            refine ⟨k + 1, by omega, by omega, by go_num, ?_, H2.out.far (by simp) _, (HBe.out.setCell (by simp; omega) _).drew.drew⟩
            have h := H3.out.set_ k (c32 (x16 + sg0 x15 + x7 + sg1 x2))
            rw [HS.out] at h
            exact h
        · have e64 : k = 64 := by omega
          rw [e64, scs_64] at h3
          clear e64 H3 H2 HBe
          obtain ⟨ws, hws⟩ : ∃ ws, ws = (wds b 64).map c32 := ⟨_, rfl⟩
          have hlen : ws.toArray.size = 64 := by rw [hws]; simp [wds_length]
          have hone : ws.toArray.all (·.oneCell') = true := by rw [hws]; exact one_u32
          rw [← hws] at h3
          have HW := Lib.hid hws
          have HL := Lib.hid hlen
          have HO := Lib.hid hone
          have H3 := Lib.hid h3
          have H2 := Lib.hid h2
          have HBe := Lib.hid hb
          clear h3 h2 hb hlen hws hone
          go_wp2_with (first
            | (refine wpList_load_row rfl 79 (.tmp 3) rfl (w.heap.size + 1 + 1) rfl 79 ws.toArray (0, 0) _ H3.out Tryd.underlying79 rfl ?hs2 ?_)
            | (refine wpList_store_row rfl 79 (.tmp 2) (.tmp 71) rfl (w.heap.size + 1) ws.toArray rfl rfl 79 (List.replicate 64 (c32 0)).toArray H2.out ?i1 ?i2 HO.out ?_))
          case hs2 => rw [HL.out]; kernel_rfl
          case i1 => rw [HL.out]; kernel_rfl
          case i2 => rw [HL.out]; rfl
          refine bodyPost_ret (v := .agg ws.toArray) (results_cell_row rfl _ _ (w.heap.size + 1) 79 _ (0, 0) _ rfl (H2.out.row _) Tryd.underlying79 rfl ?r1) rfl ⟨by rw [HW.out], below_row HBe.out _ (by omega) _⟩
          rw [HL.out]; kernel_rfl

end Go.Proofs.YtolildehdibpbaaDoor
