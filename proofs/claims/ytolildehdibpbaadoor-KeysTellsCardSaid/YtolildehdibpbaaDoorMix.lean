/-
  mix: the rounds of a block.
-/
import Derived.Test.YtolildehdibpbaaDoorRowW
import Derived.Test.YtolildehdibpbaaDoorTurn
import Derived.RegionTactic
import Derived.ChangeAlike
import Derived.Deep.QuietTactic
import Derived.BigQuiet
import Derived.Outline
namespace Go.Proofs.YtolildehdibpbaaDoor
open Go.RowKit

/-- The two tables stand as the program's text lays them. -/
def Tab (w : World) : Prop :=
  (∀ i : Nat, i < 8 → w.cell? ⟨0, i, none⟩ = some (.int .u32 (n32 (first8.list.getD i 0)))) ∧
  (∀ i : Nat, i < 64 → w.cell? ⟨1, i, none⟩ = some (.int .u32 (n32 (kTab.getD i 0))))
theorem Tab.lt {w : World} (h : Tab w) : 0 < w.heap.size ∧ 1 < w.heap.size :=
  ⟨World.block_lt_of_cell? w ⟨0, 0, none⟩ (h.1 0 (by omega)), World.block_lt_of_cell? w ⟨1, 0, none⟩ (h.2 0 (by omega))⟩
theorem Tab.below {B : Nat} {w w' : World} (h : Tab w) (hb : Below B w w') (h0 : 0 < B) (h1 : 1 < B) : Tab w' :=
  ⟨fun i hi => (hb.cell (p := ⟨0, i, none⟩) h0).trans (h.1 i hi), fun i hi => (hb.cell (p := ⟨1, i, none⟩) h1).trans (h.2 i hi)⟩
theorem Tab.through {w w' : World} (h : Tab w) (hb : Below w.heap.size w w') : Tab w' := h.below hb h.lt.1 h.lt.2

theorem Tryd.mix_idx (s : S8) (j : Nat) (hj : j < 8) (w : World) :
    (Instr.index 75 (.agg s.cells.toArray) (.int .i64 (j : Int))).run Tryd.prog w = .ok (.int .u32 (n32 (s.list.getD j 0))) w :=
  run_index_row w 75 46 8 s.cells .i64 j _ Tryd.underlying75 (by kernel_rfl) (by kernel_rfl) hj (s.cells_at j hj)

theorem Tryd.mix_build (a b c d e f g h : Int) (w : World) :
    (Instr.build 75 #[(0, .int .u32 a), (1, .int .u32 b), (2, .int .u32 c), (3, .int .u32 d), (4, .int .u32 e), (5, .int .u32 f), (6, .int .u32 g), (7, .int .u32 h)]).run Tryd.prog w =
      .ok (.agg #[.int .u32 a, .int .u32 b, .int .u32 c, .int .u32 d, .int .u32 e, .int .u32 f, .int .u32 g, .int .u32 h]) w := by kernel_rfl

set_option maxHeartbeats 2000000 in
set_option maxRecDepth 100000 in
theorem mix_any (ad : S8) (ws : List UInt32) (hws : ws.length = 64) (w : World) (ht : Tab w) :
    Calls Tryd.prog 42 #[.agg ad.cells.toArray, .agg (ws.map c32).toArray] w fun e w' => e = .returned (.agg (ad.plus (rounds ws (first8.plus ad) 64)).cells.toArray) ∧ Below w.heap.size w w' := by
  obtain ⟨wc, hwc⟩ : ∃ wc, wc = ws.map c32 := ⟨_, rfl⟩
  have hwat : ∀ k, k < 64 → wc[k]? = some (.int .u32 (n32 (ws.getD k 0))) := by
    intro k hk
    rw [hwc, List.getElem?_map, List.getElem?_eq_getElem (by omega)]
    simp [c32, List.getD, hws, hk]
  rw [← hwc]
  have HW := Lib.hid hwat
  have HT := Lib.hid ht
  clear hwat hwc hws ht
  go_enter Tryd.func42, Tryd.ntmps42
  go_wp2
  go_loopw [22] (fun i wr => ∃ k : Nat, k ≤ 8 ∧ i = .int .i64 k ∧ Blk wr (w.heap.size + 1 + 1 + 1) 75 (swp (first8.plus ad).cells S8.zero.cells k) ∧ Blk wr w.heap.size 75 ad.cells ∧ Blk wr (w.heap.size + 1) 79 wc ∧ Blk wr (w.heap.size + 1 + 1) 75 S8.zero.cells ∧ Below w.heap.size w wr) (fun i _ => 8 - (intOf i).toNat)
  case atStart =>
    refine ⟨0, by omega, rfl, ?_, ?_, ?_, ?_, ?_⟩
    · rw [swp_0]; exact Blk.fresh (by simp) (by kernel_rfl)
    · exact (((Blk.fresh rfl rfl).alloc _).alloc _).alloc _
    · exact ((Blk.fresh (by simp) rfl).alloc _).alloc _
    · exact (Blk.fresh (by simp) (by kernel_rfl)).alloc _
    · exact ((((Below.refl _ w).alloc (Nat.le_refl _) _).alloc (by simp) _).alloc (by simp; omega) _).alloc (by simp; omega) _
  case round =>
    obtain ⟨k, hk, rfl, h3, h0, h1, h2, hb⟩ := hrel
    by_cases hlt : k < 8
    · as_aux_lemma =>
      have hT := HT.out.through hb
      have hc3 : wr.cell? ⟨w.heap.size + 1 + 1 + 1, k, none⟩ = some (.int .u32 (n32 (S8.zero.list.getD k 0))) := h3.cellAt ((swp_at (first8.plus ad).cells S8.zero.cells k hlt).trans (S8.zero.cells_at k hlt))
      have hf3 : wr.frozen? ⟨w.heap.size + 1 + 1 + 1, k, none⟩ = false := h3.frozen _
      have hc0 : wr.cell? ⟨w.heap.size, k, none⟩ = some (.int .u32 (n32 (ad.list.getD k 0))) := h0.cellAt (ad.cells_at k hlt)
      have hcT := hT.1 k hlt
      have hset := swp_set (first8.plus ad).cells S8.zero.cells k _ ((first8.plus ad).cells_at k hlt) hlt
      rw [S8.plus_at _ _ k hlt] at hset
      have HS := Lib.hid hset
      have haa := w32_add
      have H3 := Lib.hid h3
      have H0 := Lib.hid h0
      have H1 := Lib.hid h1
      have H2 := Lib.hid h2
      have HBe := Lib.hid hb
      clear h3 h0 h1 h2 hb hT hset
      generalize S8.zero.list.getD k 0 = z at hc3
      generalize first8.list.getD k 0 = x at hcT HS
      generalize ad.list.getD k 0 = y at hc0 HS
      go_wp2
      go_region
      go_wp2
      go_roundw
      case rel =>
        have h := H3.out.set_ k (.int .u32 (n32 (x + y)))
        rw [HS.out] at h
        exact ⟨k + 1, by omega, by go_num, h, H0.out.far (by simp; omega) _, H1.out.far (by simp) _, H2.out.far (by simp) _, (HBe.out.setCell (by simp; omega) _).drew⟩
      case measure => simp [intOf]; omega
    · as_aux_lemma =>
      have e8 : k = 8 := by omega
      rw [e8, swp_all _ _ 8 rfl rfl] at h3
      obtain ⟨s0, hs0⟩ : ∃ s0, s0 = first8.plus ad := ⟨_, rfl⟩
      rw [← hs0] at h3
      have c0 : wr.cell? ⟨w.heap.size + 1 + 1 + 1, 0, none⟩ = some (.int .u32 (n32 s0.a)) := h3.cellAt rfl
      have c1 : wr.cell? ⟨w.heap.size + 1 + 1 + 1, 1, none⟩ = some (.int .u32 (n32 s0.b)) := h3.cellAt rfl
      have c2 : wr.cell? ⟨w.heap.size + 1 + 1 + 1, 2, none⟩ = some (.int .u32 (n32 s0.c)) := h3.cellAt rfl
      have c3 : wr.cell? ⟨w.heap.size + 1 + 1 + 1, 3, none⟩ = some (.int .u32 (n32 s0.d)) := h3.cellAt rfl
      have c4 : wr.cell? ⟨w.heap.size + 1 + 1 + 1, 4, none⟩ = some (.int .u32 (n32 s0.e)) := h3.cellAt rfl
      have c5 : wr.cell? ⟨w.heap.size + 1 + 1 + 1, 5, none⟩ = some (.int .u32 (n32 s0.f)) := h3.cellAt rfl
      have c6 : wr.cell? ⟨w.heap.size + 1 + 1 + 1, 6, none⟩ = some (.int .u32 (n32 s0.g)) := h3.cellAt rfl
      have c7 : wr.cell? ⟨w.heap.size + 1 + 1 + 1, 7, none⟩ = some (.int .u32 (n32 s0.h)) := h3.cellAt rfl
      have HS0 := Lib.hid hs0
      have H0 := Lib.hid h0
      have H1 := Lib.hid h1
      have H2 := Lib.hid h2
      have HBe := Lib.hid hb
      clear h3 h0 h1 h2 hb e8 hs0
      go_wp2
      go_quiet (fail)
      clear c0 c1 c2 c3 c4 c5 c6 c7
      go_wp2
      obtain ⟨wo, hwo⟩ : ∃ wo : World, wo = wr.drewN nq := ⟨_, rfl⟩
      have H0' : Blk wo w.heap.size 75 ad.cells := by rw [hwo]; exact H0.out
      have H1' : Blk wo (w.heap.size + 1) 79 wc := by rw [hwo]; exact H1.out
      have H2' : Blk wo (w.heap.size + 1 + 1) 75 S8.zero.cells := by rw [hwo]; exact H2.out
      have HB' : Below w.heap.size w wo := by rw [hwo]; exact below_drewN HBe.out _
      rw [← hwo]
      clear hwo H0 H1 H2 HBe
      go_loopw [7, 8, 9, 10, 11, 12, 13, 14, 51] (fun a b c d e f g h i wr => ∃ (k : Nat) (s : S8), k ≤ 64 ∧ s = rounds ws s0 k ∧ i = .int .i64 k ∧ a = .int .u32 (n32 s.a) ∧ b = .int .u32 (n32 s.b) ∧ c = .int .u32 (n32 s.c) ∧ d = .int .u32 (n32 s.d) ∧ e = .int .u32 (n32 s.e) ∧ f = .int .u32 (n32 s.f) ∧ g = .int .u32 (n32 s.g) ∧ h = .int .u32 (n32 s.h) ∧ Blk wr w.heap.size 75 ad.cells ∧ Blk wr (w.heap.size + 1) 79 wc ∧ Blk wr (w.heap.size + 1 + 1) 75 S8.zero.cells ∧ Below w.heap.size w wr) (fun _ _ _ _ _ _ _ _ i _ => 64 - (intOf i).toNat)
      case atStart => exact ⟨0, s0, by omega, rfl, rfl, rfl, rfl, rfl, rfl, rfl, rfl, rfl, rfl, H0', H1', H2', HB'⟩
      case round =>
        obtain ⟨j, s, hj, hs, rfl, rfl, rfl, rfl, rfl, rfl, rfl, rfl, rfl, h0, h1, h2, hb⟩ := hrel
        clear H0' H1' H2' HB'
        have HSs := Lib.hid hs
        have H0 := Lib.hid h0
        have H1 := Lib.hid h1
        have H2 := Lib.hid h2
        have HBe := Lib.hid hb
        by_cases hltj : j < 64
        · as_aux_lemma =>
          have hT := HT.out.through hb
          have hcT := hT.2 j hltj
          have hcw : wr.cell? ⟨w.heap.size + 1, j, none⟩ = some (.int .u32 (n32 (ws.getD j 0))) := h1.cellAt (HW.out j hltj)
          have hr : rnd (kTab.getD j 0) (ws.getD j 0) s = rounds ws s0 (j + 1) := by rw [rounds, hs]
          generalize kTab.getD j 0 = kk at hcT hr
          generalize ws.getD j 0 = ww at hcw hr
          have HR := Lib.hid hr
          clear hs h0 h1 h2 hb hT hr
          have hand := w32_and
          have hxor := w32_xor
          have hadd := w32_add
          have hnot := w32_not'
          have hch := choose_xor
          have hmo := most_xor
          go_wp2
          go_quiet ((go_at_call 25; exact Calls.quiet_of_same (turn_q _ _ (by omega) (by omega) _)))
          go_wp2_with (go_at_call 25; refine (turn_lit _ _ (by omega) (by omega) _).mono ?_; rintro e w' ⟨rfl, rfl⟩)
          go_roundw
          case rel => exact ⟨j + 1, rnd kk ww s, by omega, HR.out, by go_num, by rw [w32_add, rnd_a], rfl, rfl, rfl, by rw [w32_add, rnd_e], rfl, rfl, rfl, H0.out, H1.out, H2.out, below_drewN HBe.out _⟩
          case measure => simp [intOf]; omega
        · as_aux_lemma =>
          have e64 : j = 64 := by omega
          rw [e64] at hs
          clear HSs H0 H1 H2 HBe e64
          have HSs := Lib.hid hs
          have H0 := Lib.hid h0
          have H2 := Lib.hid h2
          have HBe := Lib.hid hb
          clear hs h0 h1 h2 hb
          go_wp2_with (refine wpList_build_to rfl 75 _ rfl [(0, .int .u32 (n32 s.a)), (1, .int .u32 (n32 s.b)), (2, .int .u32 (n32 s.c)), (3, .int .u32 (n32 s.d)), (4, .int .u32 (n32 s.e)), (5, .int .u32 (n32 s.f)), (6, .int .u32 (n32 s.g)), (7, .int .u32 (n32 s.h))] rfl _ (Tryd.mix_build _ _ _ _ _ _ _ _ _) ?_)
          obtain ⟨wv, rfl⟩ : ∃ wv : World, wv = wr := ⟨_, rfl⟩
          go_loopw [125] (fun i wr => ∃ k : Nat, k ≤ 8 ∧ i = .int .i64 k ∧ Blk wr w.heap.size 75 (swp (ad.plus s).cells ad.cells k) ∧ Blk wr (w.heap.size + 1 + 1) 75 S8.zero.cells ∧ Below w.heap.size w wr) (fun i _ => 8 - (intOf i).toNat)
          case atStart => exact ⟨0, by omega, rfl, by rw [swp_0]; exact H0.out, H2.out, HBe.out⟩
          case round =>
            obtain ⟨m, hm, rfl, h0, h2, hb⟩ := hrel
            clear H0 H2 HBe
            by_cases hltm : m < 8
            · as_aux_lemma =>
              have hc0 : wr.cell? ⟨w.heap.size, m, none⟩ = some (.int .u32 (n32 (ad.list.getD m 0))) := h0.cellAt ((swp_at (ad.plus s).cells ad.cells m hltm).trans (ad.cells_at m hltm))
              have hf0 : wr.frozen? ⟨w.heap.size, m, none⟩ = false := h0.frozen _
              have hset := swp_set (ad.plus s).cells ad.cells m _ ((ad.plus s).cells_at m hltm) hltm
              rw [S8.plus_at _ _ m hltm] at hset
              have hidx : (Instr.index 75 (.agg #[.int .u32 (n32 s.a), .int .u32 (n32 s.b), .int .u32 (n32 s.c), .int .u32 (n32 s.d), .int .u32 (n32 s.e), .int .u32 (n32 s.f), .int .u32 (n32 s.g), .int .u32 (n32 s.h)]) (.int .i64 (m : Int))).run Tryd.prog wr = .ok (.int .u32 (n32 (s.list.getD m 0))) wr := Tryd.mix_idx s m hltm wr
              have haa := w32_add
              have HS := Lib.hid hset
              have H0 := Lib.hid h0
              have H2 := Lib.hid h2
              have HBe := Lib.hid hb
              clear h0 h2 hb hset
              generalize s.list.getD m 0 = y at hidx HS
              generalize ad.list.getD m 0 = x at hc0 HS
              go_wp2
              go_roundw
              case rel =>
                have h := H0.out.set_ m (.int .u32 (n32 (x + y)))
                rw [HS.out] at h
                exact ⟨m + 1, by omega, by go_num, h, H2.out.far (by simp; omega) _, HBe.out.setCell (by simp) _⟩
              case measure => simp [intOf]; omega
            · as_aux_lemma =>
              have e8 : m = 8 := by omega
              rw [e8, swp_all _ _ 8 rfl rfl] at h0
              obtain ⟨r, hr⟩ : ∃ r, r = (ad.plus s).cells := ⟨_, rfl⟩
              have hlen : r.toArray.size = 8 := by rw [hr]; rfl
              have hone : r.toArray.all (·.oneCell') = true := by rw [hr]; exact one_u32
              have hfin : r.toArray = (ad.plus (rounds ws (first8.plus ad) 64)).cells.toArray := by rw [hr, HSs.out, HS0.out]
              rw [← hr] at h0
              have HL := Lib.hid hlen
              have HO := Lib.hid hone
              have HF := Lib.hid hfin
              have H0 := Lib.hid h0
              have H2 := Lib.hid h2
              have HBe := Lib.hid hb
              clear h0 h2 hb e8 hr hlen hone hfin
              go_wp2_with (first
                | (refine wpList_load_row rfl 75 (.tmp 2) rfl w.heap.size rfl 75 r.toArray (0, 0) _ H0.out Tryd.underlying75 rfl ?hs2 ?_)
                | (refine wpList_store_row rfl 75 (.tmp 4) (.tmp 136) rfl (w.heap.size + 1 + 1) r.toArray rfl rfl 75 S8.zero.cells.toArray H2.out ?i1 ?i2 HO.out ?_))
              case hs2 => rw [HL.out]; kernel_rfl
              case i1 => rw [HL.out]; kernel_rfl
              case i2 => rw [HL.out]; rfl
              refine bodyPost_ret (v := .agg r.toArray) (results_cell_row rfl _ _ (w.heap.size + 1 + 1) 75 _ (0, 0) _ rfl (H2.out.row _) Tryd.underlying75 rfl ?r1) rfl ⟨by rw [HF.out], below_row HBe.out _ (by omega) _⟩
              rw [HL.out]; kernel_rfl

end Go.Proofs.YtolildehdibpbaaDoor
