/-
  Sum: of all that was added; the hash stays as it was.
-/
import Derived.Test.YtolildehdibpbaaDoorAdd
import Derived.Test.YtolildehdibpbaaDoorHash1
import Derived.Outline
namespace Go.Proofs.YtolildehdibpbaaDoor
open Go.RowKit

theorem S8.bytes_at (s : S8) (i j : Nat) (hi : i < 8) (hj : j < 4) : (vs s.bytes)[i * 4 + j]? = some (.int .u8 (n32 (s.list.getD i 0) / 2 ^ (8 * (3 - j)) % 256)) := by
  have hl : vs s.bytes = vs (beB s.a.toNat 4) ++ (vs (beB s.b.toNat 4) ++ (vs (beB s.c.toNat 4) ++ (vs (beB s.d.toNat 4) ++ (vs (beB s.e.toNat 4) ++ (vs (beB s.f.toNat 4) ++ (vs (beB s.g.toNat 4) ++ vs (beB s.h.toNat 4))))))) := by
    simp [S8.bytes, S8.list, vs]
  have hb : ∀ x : UInt32, vs (beB x.toNat 4) = [.int .u8 (n32 x / 16777216 % 256), .int .u8 (n32 x / 65536 % 256), .int .u8 (n32 x / 256 % 256), .int .u8 (n32 x % 256)] := fun x => by
    have h := beB_4 (n32 x) (n32_lo x) (by have := n32_hi x; omega)
    have e : (n32 x).toNat = x.toNat := by unfold n32; simp
    rw [e] at h
    exact h
  rw [hl]
  simp only [hb, List.cons_append, List.nil_append]
  match i, hi with
  | 0, _ => match j, hj with
    | 0, _ => rfl
    | 1, _ => rfl
    | 2, _ => rfl
    | 3, _ => simp [S8.list]
  | 1, _ => match j, hj with
    | 0, _ => rfl
    | 1, _ => rfl
    | 2, _ => rfl
    | 3, _ => simp [S8.list]
  | 2, _ => match j, hj with
    | 0, _ => rfl
    | 1, _ => rfl
    | 2, _ => rfl
    | 3, _ => simp [S8.list]
  | 3, _ => match j, hj with
    | 0, _ => rfl
    | 1, _ => rfl
    | 2, _ => rfl
    | 3, _ => simp [S8.list]
  | 4, _ => match j, hj with
    | 0, _ => rfl
    | 1, _ => rfl
    | 2, _ => rfl
    | 3, _ => simp [S8.list]
  | 5, _ => match j, hj with
    | 0, _ => rfl
    | 1, _ => rfl
    | 2, _ => rfl
    | 3, _ => simp [S8.list]
  | 6, _ => match j, hj with
    | 0, _ => rfl
    | 1, _ => rfl
    | 2, _ => rfl
    | 3, _ => simp [S8.list]
  | 7, _ => match j, hj with
    | 0, _ => rfl
    | 1, _ => rfl
    | 2, _ => rfl
    | 3, _ => simp [S8.list]

/-- A digest, as a value. -/
def dig (xs : List UInt8) : Value := .agg (vs xs).toArray
def zero32 : List UInt8 := List.replicate 32 0

set_option maxHeartbeats 400000 in
theorem sum_nil (w : World) :
    Calls Tryd.prog 28 #[.pointer none] w fun e w' => e = .returned (dig zero32) ∧ Below w.heap.size w w' := by
  go_enter Tryd.func28, Tryd.ntmps28
  have hbd := fun (w : World) => (show (Instr.build 25 #[]).run Tryd.prog w = .ok (dig zero32) w by kernel_rfl)
  go_wp2_with (first
    | (refine wpList_build_to rfl 25 [] rfl [] rfl (dig zero32) (hbd _) ?_)
    | (refine wpList_store_row rfl 25 (.tmp 2) (.tmp 10) rfl w.heap.size (vs zero32).toArray rfl rfl 25 (vs zero32).toArray (Blk.fresh rfl (by kernel_rfl)) (by kernel_rfl) rfl one_u8 ?_))
  refine bodyPost_ret (v := dig zero32) (results_cell_row rfl _ _ w.heap.size 25 _ (0, 0) _ rfl ((Blk.fresh (w := w) (t := 25) (cs := vs zero32) rfl (by kernel_rfl)).row (vs zero32)) Tryd.underlying25 rfl (by kernel_rfl)) rfl ⟨rfl, below_row ((Below.refl _ w).alloc (Nat.le_refl _) _) _ (Nat.le_refl _) _⟩

theorem sum_setup {w w1 : World} {g : Nat} {Z : Array Value} {t t' : TypeId} {Y : Array Value} {ad : S8} {pt xs : List UInt8} (ho : ((w.alloc (.cells Z t)).alloc (.cells Y t')).grownBy w1 (some (w.heap.size + 1)))
    (hb : Blk w g 77 (hcs ad pt xs.length)) (hok : HOk ad pt xs) (hz : Blk (w.alloc (.cells Z t)) w.heap.size 25 (vs zero32)) :
    w1.cell? ⟨g, 72, none⟩ = some (.int .i64 (xs.length : Int)) ∧ Blk w1 w.heap.size 25 (vs zero32) ∧ Below w.heap.size w w1 ∧ w.heap.size + 2 ≤ w1.heap.size := by
  have hx : Below w.heap.size w w1 := (((Below.refl _ w).alloc (Nat.le_refl _) _).alloc (by simp) _).grown ho (by simp; omega) (by intro k hk; injection hk with hk; omega)
  refine ⟨(hb.through hx).cellAt (hcs_len hok.1), (hz.alloc _).grown ho (by simp), hx, ?_⟩
  have := ho.size
  simp at this
  omega

set_option maxHeartbeats 2000000 in
set_option maxRecDepth 100000 in
theorem sum_any (g : Nat) (xs : List UInt8) (w : World) (h : HS w g xs) (ht : Tab w) (hlen : xs.length ≤ 549755813888) :
    Calls Tryd.prog 28 #[.pointer (some ⟨g, 0, none⟩)] w fun e w' => e = .returned (dig (sha xs)) ∧ Below w.heap.size w w' := by
  obtain ⟨ad, pt, hblk, hok⟩ := h
  have hgl := hblk.lt
  have HT := Lib.hid ht
  have HB := Lib.hid hblk
  have HOK := Lib.hid hok
  have hsz := Lib.hid (hcs_length (ad := ad) (n := xs.length) hok.1)
  have hgt := ht.lt
  have hg0 := hgt.1
  have hg1 := hgt.2
  have hz := fun (w : World) => (show (zeroValue 77).run Tryd.prog w = .ok (.agg (hcs S8.zero (List.replicate 64 0) 0).toArray) w by kernel_rfl)
  have HG0 : Hid (0 < w.heap.size) := Lib.hid hg0
  have HG1 : Hid (1 < w.heap.size) := Lib.hid hg1
  clear hblk hok ht hgt hg0 hg1
  go_enter Tryd.func28, Tryd.ntmps28
  go_wp2_with (first
    | (refine wpList_load_blk rfl 77 (.tmp 12) rfl g rfl 77 (hcs ad pt xs.length) _ (HB.out.alloc _) Tryd.underlying77 rfl (by rw [hsz.out]; kernel_rfl) ?_)
    | (refine wpList_store_blk rfl 77 (.tmp 3) (.tmp 13) rfl (w.heap.size + 1) (hcs ad pt xs.length) rfl rfl 77 (hcs S8.zero (List.replicate 64 0) 0) (Blk.fresh (by simp) rfl) (by rw [hsz.out]; kernel_rfl) (by rw [hsz.out]; rfl) hcs_one ?_; intro w1 hb1 ho1; have HU := sum_setup ho1 HB.out HOK.out (Blk.fresh rfl (by kernel_rfl)); have hc72 := HU.1; have HD1 := Lib.hid HU.2.1; have HX1 := Lib.hid HU.2.2.1; have hs1 := HU.2.2.2; have HS1 : Hid (HS w1 (w.heap.size + 1) xs) := Lib.hid ⟨ad, pt, hb1, HOK.out⟩; clear ho1 hb1 HU)
    | (go_at_call 44; refine (ending_any xs.length (by omega) _).mono ?_; rintro e w2 ⟨v2, rfl, hown, hb2⟩; obtain ⟨A2, c2, rfl, hnc2, hcm2, _⟩ := own_form hown; have HO2 := Lib.hid hown; have HB2 := Lib.hid hb2; clear hown hb2 hc72)
    | (go_at_call 27; refine (add_any (w.heap.size + 1) xs (ends xs.length) A2 _ c2 _ ((By.of_own HO2.out).weak (fun k hk e => by have := hk.1; omega)) hnc2 hcm2 (HS1.out.through HB2.out) ((HT.out.through HX1.out).through HB2.out) (by have := HG0.out; omega) (by have := HG1.out; omega) (by omega)).mono ?_; rintro e w3 ⟨rfl, hs3, ho3⟩))
  obtain ⟨ad', pt', hb3, hok3⟩ := hs3
  obtain ⟨s, hs⟩ : ∃ s, s = first8.plus ad' := ⟨_, rfl⟩
  have hsum := hok3.sum
  rw [← hs] at hsum
  have hpl := hok3.1
  have hsz2 := HB2.out.size
  have hsz3 := ho3.size
  have hd3 : Blk w3 w.heap.size 25 (vs zero32) := (HD1.out.through HB2.out).grown ho3 (by simp)
  have hx3 : Below w.heap.size w w3 := (HX1.out.trans (HB2.out.mono HX1.out.size)).grown ho3 (Nat.le_trans HX1.out.size hsz2) (by intro k hk; injection hk with hk; omega)
  obtain ⟨N, hN⟩ : ∃ N, N = (xs ++ ends xs.length).length := ⟨_, rfl⟩
  rw [← hN] at hb3
  obtain ⟨gd, hgd⟩ : ∃ gd, gd = w3.heap.size := ⟨_, rfl⟩
  have hgd2 : w.heap.size + 2 ≤ gd := by omega
  obtain ⟨wo, hwo⟩ : ∃ wo, wo = w3.alloc (.cells (vs zero32).toArray 25) := ⟨_, rfl⟩
  have hbo : Blk wo gd 25 (vs zero32) := by rw [hwo, hgd]; exact Blk.fresh rfl rfl
  have hb1o : Blk wo (w.heap.size + 1) 77 (hcs ad' pt' N) := by rw [hwo]; exact hb3.alloc _
  have hb0o : Blk wo w.heap.size 25 (vs zero32) := by rw [hwo]; exact hd3.alloc _
  have hxo : Below w.heap.size w wo := by rw [hwo]; exact hx3.alloc hx3.size _
  have hgoal : wo = w3.alloc (.cells (vs zero32).toArray 25) := hwo
  have hbz : (vs s.bytes).length = 32 := by rw [vs_length, S8.bytes_length]
  have HSum := Lib.hid hsum
  have HS := Lib.hid hs
  have HPl := Lib.hid hpl
  have HBo := Lib.hid hbo
  have HB1o := Lib.hid hb1o
  have HB0o := Lib.hid hb0o
  have HXo := Lib.hid hxo
  have HBz := Lib.hid hbz
  have HGd := Lib.hid hgd
  clear hwo hb3 hok3 hs hsum hpl hsz2 hsz3 hd3 hx3 hN hbo hb1o hb0o hxo hbz
  change Code.wp _ _ _ _ (w3.alloc (.cells (vs zero32).toArray 25))
  rw [← hgd, ← hgoal]
  clear hgd hgoal
  go_loopw [20] (fun iv wr => ∃ i : Nat, i ≤ 8 ∧ iv = .int .i64 i ∧ Blk wr gd 25 (swp (vs s.bytes) (vs zero32) (i * 4)) ∧ Blk wr (w.heap.size + 1) 77 (hcs ad' pt' N) ∧ Blk wr w.heap.size 25 (vs zero32) ∧ Below w.heap.size w wr) (fun iv _ => 8 - (intOf iv).toNat)
  case atStart => exact ⟨0, by omega, rfl, by rw [Nat.zero_mul, swp_0]; exact HBo.out, HB1o.out, HB0o.out, HXo.out⟩
  case round =>
    obtain ⟨i, hi, rfl, hd, h1, h0, hx⟩ := hrel
    by_cases hlt : i < 8
    · have hT := (HT.out.through hx).1 i hlt
      have hc1 : wr.cell? ⟨w.heap.size + 1, i, none⟩ = some (.int .u32 (n32 (ad'.list.getD i 0))) := h1.cellAt (hcs_word i hlt)
      have hxx : first8.list.getD i 0 + ad'.list.getD i 0 = s.list.getD i 0 := by rw [HS.out, S8.plus_at _ _ i hlt]
      have hat := fun j hj => s.bytes_at i j hlt hj
      generalize s.list.getD i 0 = x at hxx hat
      generalize first8.list.getD i 0 = x1 at hT hxx
      generalize ad'.list.getD i 0 = x2 at hc1 hxx
      have hadd := w32_add
      have HAt := Lib.hid hat
      have Hd := Lib.hid hd
      have H1 := Lib.hid h1
      have H0 := Lib.hid h0
      have HX := Lib.hid hx
      clear hd h1 h0 hx hat
      go_wp2
      go_quiet (fail)
      go_wp2
      rw [w32_add, hxx]
      obtain ⟨wi, hwi⟩ : ∃ wi, wi = wr.drewN nq := ⟨_, rfl⟩
      have Hd' : Blk wi gd 25 (swp (vs s.bytes) (vs zero32) (i * 4)) := by rw [hwi]; exact Hd.out
      have H1' : Blk wi (w.heap.size + 1) 77 (hcs ad' pt' N) := by rw [hwi]; exact H1.out
      have H0' : Blk wi w.heap.size 25 (vs zero32) := by rw [hwi]; exact H0.out
      have HX' : Below w.heap.size w wi := by rw [hwi]; exact below_drewN HX.out _
      rw [← hwi]
      clear hwi Hd H1 H0 HX hT hc1 hxx hadd
      go_loopw [31] (fun jv wr => ∃ j : Nat, j ≤ 4 ∧ jv = .int .i64 j ∧ Blk wr gd 25 (swp (vs s.bytes) (vs zero32) (i * 4 + j)) ∧ Blk wr (w.heap.size + 1) 77 (hcs ad' pt' N) ∧ Blk wr w.heap.size 25 (vs zero32) ∧ Below w.heap.size w wr) (fun jv _ => 4 - (intOf jv).toNat)
      case atStart => exact ⟨0, by omega, rfl, Hd', H1', H0', HX'⟩
      case round =>
        obtain ⟨j, hj, rfl, hd, h1, h0, hx⟩ := hrel
        clear Hd' H1' H0' HX'
        by_cases hltj : j < 4
        · have hlen : i * 4 + j < (vs s.bytes).length := by rw [HBz.out]; omega
          have hl2 : i * 4 + j < (vs zero32).length := by rw [vs_length, show zero32.length = 32 from rfl]; omega
          have hcz : (swp (vs s.bytes) (vs zero32) (i * 4 + j))[i * 4 + j]? = some (vs zero32)[i * 4 + j] := by rw [swp_at _ _ _ hlen, List.getElem?_eq_getElem hl2]
          have hcd : wr.cell? ⟨gd, i * 4 + j, none⟩ = some (vs zero32)[i * 4 + j] := hd.cellAt hcz
          have hfd : wr.frozen? ⟨gd, i * 4 + j, none⟩ = false := hd.frozen _
          generalize (vs zero32)[i * 4 + j] = z at hcd
          have hset := swp_set (vs s.bytes) (vs zero32) (i * 4 + j) _ (HAt.out j hltj) hl2
          have hsh : ((8 : Int) * (3 - (j : Int))).toNat = 8 * (3 - j) := by omega
          have HSet := Lib.hid hset
          have Hd := Lib.hid hd
          have H1 := Lib.hid h1
          have H0 := Lib.hid h0
          have HX := Lib.hid hx
          clear hd h1 h0 hx hset hcz hlen hl2
          go_wp2
          go_roundw
          case rel =>
            have h := Hd.out.set_ (i * 4 + j) (.int .u8 (n32 x / 2 ^ (8 * (3 - j)) % 256))
            rw [HSet.out] at h
            exact ⟨j + 1, by omega, by go_num, h, H1.out.far (by simp; omega) _, H0.out.far (by simp; omega) _, HX.out.setCell (by simp; omega) _⟩
          case measure => simp [intOf]; omega
        · have e4 : j = 4 := by omega
          have e5 : i * 4 + j = (i + 1) * 4 := by omega
          rw [e5] at hd
          have Hd := Lib.hid hd
          have H1 := Lib.hid h1
          have H0 := Lib.hid h0
          have HX := Lib.hid hx
          clear hd h1 h0 hx e4 e5
          go_wp2
          go_roundw
          case rel => exact ⟨i + 1, by omega, by go_num, Hd.out, H1.out, H0.out, HX.out⟩
          case measure => simp [intOf]; omega
    · have e8 : i = 8 := by omega
      rw [e8, swp_all _ _ (8 * 4) HBz.out rfl] at hd
      obtain ⟨r, hr⟩ : ∃ r, r = vs s.bytes := ⟨_, rfl⟩
      have hrl : r.length = 32 := by rw [hr]; exact HBz.out
      have hone : r.toArray.all (·.oneCell') = true := by rw [hr]; exact one_u8
      have hfin : (.agg r.toArray : Value) = dig (sha xs) := by rw [hr, HSum.out]; rfl
      rw [← hr] at hd
      have HRl := Lib.hid hrl
      have HO := Lib.hid hone
      have HF := Lib.hid hfin
      have Hd := Lib.hid hd
      have H0 := Lib.hid h0
      have HX := Lib.hid hx
      clear hd h1 h0 hx e8 hr hrl hone hfin
      go_wp2_with (first
        | (refine wpList_load_blk rfl 25 (.tmp 4) rfl gd rfl 25 r _ Hd.out Tryd.underlying25 rfl (by rw [HRl.out]; kernel_rfl) ?_)
        | (refine wpList_store_row rfl 25 (.tmp 2) (.tmp 47) rfl w.heap.size r.toArray rfl rfl 25 (vs zero32).toArray H0.out (by rw [List.size_toArray, HRl.out]; kernel_rfl) (by rw [List.size_toArray, List.size_toArray, HRl.out]; rfl) HO.out ?_))
      refine bodyPost_ret (v := .agg r.toArray) (results_cell_row rfl _ _ w.heap.size 25 _ (0, 0) _ rfl (H0.out.row _) Tryd.underlying25 rfl ?r1) rfl ⟨by rw [HF.out], below_row HX.out _ (Nat.le_refl _) _⟩
      rw [List.size_toArray, HRl.out]; kernel_rfl

end Go.Proofs.YtolildehdibpbaaDoor
