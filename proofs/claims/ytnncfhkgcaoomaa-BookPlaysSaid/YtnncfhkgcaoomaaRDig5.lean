/-
  The document's Digest of a book.
-/
import Derived.Test.YtnncfhkgcaoomaaRTag5
import Derived.Test.YtnncfhkgcaoomaaBDig
namespace Go.Proofs.Ytnncfhkgcaoomaa
open Go.RowKit

theorem dk_str (z x : DK) : ((⟨(z.1 :: z.2).toArray⟩ : ByteArray).toList == (⟨(x.1 :: x.2).toArray⟩ : ByteArray).toList) = decide (z = x) := by
  obtain ⟨a, t⟩ := z
  obtain ⟨b, u⟩ := x
  rw [str_beq]
  by_cases h1 : a = b <;> by_cases h2 : t = u <;> simp [h1, h2]

set_option maxHeartbeats 8000000 in
set_option maxRecDepth 100000 in
theorem rdig5_any (Q : Nat → Prop) (g : Nat) (ds : List DK) (ts : List TK) (k : Int) (t : List UInt8) (A : Option Addr) (n c : Nat) (w : World) (h : RB w g ds ts) (hby : By w Q A n t) (hn : n ≤ 1000000) (hl : ds.length < 100000000) :
    Calls Try.prog 8 #[.pointer (some ⟨g, 0, none⟩), .int .i64 k, .slice A n c] w fun e w' => e = .returned (.agg (vs (numB (kb k) (ord (kb k, t) (also (kb k, t) ds)))).toArray) ∧ RB w' g (also (kb k, t) ds) ts ∧ RF g w w' := by
  have hg := h.lt
  obtain ⟨v1, v2, h⟩ := h
  have h : RB2 w g v1 v2 ds ts := h
  obtain ⟨A1, c1, rfl, _, _, hob⟩ := own_formS h.2.1
  obtain ⟨i0, hi, hz0, hz1, hz2⟩ := info_parts Try.info_u8
  obtain ⟨j0, hj, hy0, hy1, hy2⟩ := info_parts Try.info_str
  have hwk := kb_wrap k
  have hmk := kb_mod k
  obtain ⟨kx, hkx⟩ : ∃ kx, kx = kb k := ⟨_, rfl⟩
  rw [← hkx] at hwk hmk ⊢
  obtain ⟨s, hs⟩ : ∃ s : ByteArray, s = ⟨(kx :: t).toArray⟩ := ⟨_, rfl⟩
  obtain ⟨x, hx⟩ : ∃ x : DK, x = (kx, t) := ⟨_, rfl⟩
  rw [← hx]
  have hdk : ∀ z : DK, ((⟨(z.1 :: z.2).toArray⟩ : ByteArray).toList == s.toList) = decide (z = x) := fun z => by rw [hs, hx]; exact dk_str z (kx, t)
  obtain ⟨r, hr⟩ : ∃ r, r = vs (numB kx (ord x (also x ds))) := ⟨_, rfl⟩
  have hrl : r.length = 32 := by rw [hr, vs_length, numB_length]
  have hro : r.toArray.all (·.oneCell') = true := by rw [hr]; exact one_u8
  have hole := ord_le (mem_also x ds)
  have hall := also_length x ds
  have hnum : ∀ W (m : Nat), ord x (also x ds) = m + 1 → Calls Try.prog 21 #[.int .u8 (kx.toNat : Int), .int .i64 ((m : Int) + 1)] W fun e w' => e = .returned (.agg r.toArray) ∧ Below W.heap.size W w' := fun W m hm => by
    have h2 := rnum5_any kx (ord x (also x ds)) (by omega) W
    rw [hr]
    rw [hm] at h2 ⊢
    exact h2
  obtain ⟨N, hN⟩ : ∃ N, N = ds.length := ⟨_, rfl⟩
  have hNb : N < 100000000 := by omega
  have HNum := Lib.hid hnum
  have HRl := Lib.hid hrl
  have HRo := Lib.hid hro
  have HDk := Lib.hid hdk
  have HBy := Lib.hid hby
  have HSs := Lib.hid hs
  have HXx := Lib.hid hx
  have HN := Lib.hid hN
  have hob2 : ∀ k, (Value.slice A1 N c1).ownBlock = some k → g + 1 ≤ k ∧ k < w.heap.size := by rw [hN]; exact hob
  have HV10 : Hid (w.ownsRow (g + 1) 9 1 (.slice A1 N c1) N (strs ds)) := Lib.hid (by rw [hN]; exact h.2.1)
  have HV20 := Lib.hid h.2.2
  have HG0 : Hid (Blk w g 30 [.slice A1 N c1, v2]) := Lib.hid (by rw [hN]; exact h.1)
  have hown8 : ∀ o, ((w.alloc o).alloc (.cells #[.int .u8 (kx.toNat : Int)] 5)).ownsRow (w.heap.size + 1) 5 1 (.slice (some ⟨w.heap.size + 1, 0, none⟩) 1 1) 1 (vs [kx]) := fun o => by
    have h := own_one8 (w := w.alloc o) (x := kx) (base := w.heap.size + 1) (by simp)
    have e : (w.alloc o).heap.size = w.heap.size + 1 := by simp
    rw [e] at h
    exact h
  rw [← hr]
  clear h hby hs hx hr hrl hro hnum hdk hN hob hole hall hkx
  go_enter Try.func8, Try.ntmps8
  go_wp2_with (at_builtin; refine wpList_append_by _ rfl (.tmp 12) (.tmp 13) 33 rfl (w.heap.size + 1) i0 Try.underlying33 hi hz0 hz1 hz2 _ 1 (vs [kx]) rfl (hown8 _) Q A n c t rfl ((HBy.out.alloc _).alloc _) (by omega) (by simp) ?_; intro va w1 ho1 hg1 _; have HL1 : Hid (Below w.heap.size w w1) := Lib.hid ((((Below.refl _ w).alloc (Nat.le_refl _) _).alloc (by simp) _).grown hg1 (by simp <;> omega) (fun k hk => (Option.some.inj hk) ▸ Nat.le_succ _)); have HA1 : Hid (Blk w1 w.heap.size 38 (vs zero32)) := Lib.hid (((Blk.fresh rfl (by kernel_rfl)).alloc _).grown hg1 (fun e => absurd (Option.some.inj e) (Nat.ne_of_lt (Nat.lt_succ_self _)))); rw [vs_append] at ho1; obtain ⟨Aa, ca, rfl, _⟩ := own_form ho1; have hcv : (convert 33 9 (.slice Aa (1 + n) ca)).run Try.prog w1 = .ok (.string s) w1 := HSs.out ▸ str_any _ ca (By.of_own ho1); have HG1 := Lib.hid (HG0.out.through HL1.out); have c0 := HG1.out.cellAt (i := 0) rfl; clear ho1 hg1)
  have HX1 : Hid (RF g w w1) := Lib.hid (RF.of_below hg HL1.out)
  have HV11 := Lib.hid (own_through HV10.out HL1.out)
  have HV21 := Lib.hid (own_through HV20.out HL1.out)
  obtain ⟨b6, hb6⟩ : ∃ b6, b6 = w.heap.size := ⟨_, rfl⟩
  rw [← hb6] at HA1
  rw [← hb6]
  have h6w : w.heap.size ≤ b6 := by omega
  have h6g : b6 ≠ g := by omega
  have hob3 : ∀ k, (Value.slice A1 N c1).ownBlock = some k → k ≠ b6 ∧ k ≠ g := fun k hk => by have := hob2 k hk; omega
  clear hb6 hob2
  go_loopw [21] (fun iv wr => ∃ i : Nat, i ≤ N ∧ iv = .int .i64 i ∧ (∀ j, j < i → ds[j]? ≠ some x) ∧ wr = w1) (fun iv _ => N - (intOf iv).toNat)
  case atStart => exact ⟨0, Nat.zero_le _, rfl, fun j hj => absurd hj (by omega), rfl⟩
  case round =>
    obtain ⟨i, hin, rfl, hno, rfl⟩ := hrel
    have HNo := Lib.hid hno
    clear hno
    by_cases hlt : i < N
    · obtain ⟨z, hz⟩ : ∃ z, ds[i]? = some z := ⟨_, List.getElem?_eq_getElem (by have := HN.out; omega)⟩
      obtain ⟨g1, rfl, hci⟩ := own_cell1 HV11.out i _ (strs_get ds i z hz)
      have hse := HDk.out z
      generalize (⟨(z.1 :: z.2).toArray⟩ : ByteArray) = sz at *
      by_cases hzx : z = x
      · rw [decide_eq_true hzx] at hse
        have hord : ord x ds = i + 1 := ord_first (hzx ▸ hz) HNo.out
        have hal : also x ds = ds := also_mem (List.mem_of_getElem? (hzx ▸ hz))
        have HAl := Lib.hid hal
        have hnum2 := fun W => HNum.out W i (by rw [hal]; exact hord)
        have HNum2 := Lib.hid hnum2
        clear hz hzx hord hal hnum2
        go_wp2_with (first
          | (go_at_call 21; (with_reducible refine (HNum2.out _).mono ?_); rintro e w2 ⟨rfl, hb2⟩; have HX2 := Lib.hid (HX1.out.below hg hb2); have HA2 := Lib.hid (HA1.out.through hb2); have HR2 : Hid (RB2 w2 g (.slice (some ⟨g1, 0, none⟩) N c1) v2 ds ts) := Lib.hid ⟨HG1.out.through hb2, by (have h5 := own_through HV11.out hb2; rwa [HN.out] at h5 ⊢), own_through HV21.out hb2⟩; clear hb2)
          | (refine wpList_store_blk rfl 38 (.tmp 6) (.tmp 33) rfl b6 r rfl rfl 38 (vs zero32) HA2.out (by rw [HRl.out]; kernel_rfl) (by rw [HRl.out]; rfl) HRo.out ?_; intro w3 hb3 ho3; have HA3 := Lib.hid hb3; have HR3 := Lib.hid (HR2.out.cell HA2.out ho3 h6g (by decide) (by decide)); have HX3 := Lib.hid (HX2.out.grownB ho3 h6w hg); clear hb3 ho3))
        refine bodyPost_ret (v := .agg r.toArray) (results_cell_row rfl _ _ b6 38 _ (0, 0) _ rfl HA3.out Try.underlying38 rfl ?r1) rfl ⟨rfl, by rw [HAl.out]; exact HR3.out.rb, HX3.out⟩
        rw [List.size_toArray, HRl.out]; kernel_rfl
      · rw [decide_eq_false hzx] at hse
        have hno2 : ∀ j, j < i + 1 → ds[j]? ≠ some x := fun j hj => by
          rcases Nat.lt_or_ge j i with h1 | h1
          · exact HNo.out j h1
          · obtain rfl : j = i := by omega
            rw [hz]
            exact fun e => hzx (Option.some.inj e)
        have HNo2 := Lib.hid hno2
        clear hz hzx hno2
        go_wp2
        go_roundw
        case rel => exact ⟨i + 1, by omega, by go_num, HNo2.out, by trivial⟩
        case measure => simp [intOf]; omega
    · obtain rfl : i = N := by omega
      have hnx : x ∉ ds := not_mem_all (by rw [← HN.out]; exact HNo.out)
      have hal : also x ds = ds ++ [x] := also_new hnx
      have hord : ord x (also x ds) = i + 1 := by rw [ord_new hnx, ← HN.out]
      have hsn : strs ds ++ [.string s] = strs (ds ++ [x]) := by rw [HSs.out, ← strs_snoc, HXx.out]
      have hlen : (ds ++ [x]).length = i + 1 := by simp [← HN.out]
      have HAl := Lib.hid hal
      have HSn := Lib.hid hsn
      have HLen := Lib.hid hlen
      have hnum2 := fun W => HNum.out W i hord
      have HNum2 := Lib.hid hnum2
      have hgz : g < wr.heap.size := HG1.out.lt
      clear hnx hal hord hsn hlen hnum2
      go_wp2_with (first
        | (at_builtin; refine wpList_append_lies _ rfl (.tmp 39) (.tmp 41) 27 rfl (g + 1) 9 j0 (.string ⟨#[]⟩) 1 16 Try.underlying27 hj hy0 hy1 hy2 rfl (by decide) _ i (strs ds) rfl (own_at HV11.out (fun k _ hl _ _ => Below.heap_alloc wr _ k hl)) ⟨wr.heap.size, 0, none⟩ 1 1 [.string s] rfl rfl (fun j' y hy => row_cell (Blk.fresh rfl rfl) j' y hy) (fun y hy => by simp at hy; subst hy; rfl) (by omega) (by unfold maxLen; omega) (by omega) (by simp; omega) _ rfl ?_; intro gc cap w2 ho2 hg2 _ _; rw [HSn.out] at ho2; have HV12 := Lib.hid ho2; have HV22 := Lib.hid (own_other (own_at (w' := wr.alloc (.cells #[.string s] 9)) HV21.out (fun k _ hl _ _ => Below.heap_alloc wr _ k hl)) (own_at (w' := wr.alloc (.cells #[.string s] 9)) HV11.out (fun k _ hl _ _ => Below.heap_alloc wr _ k hl)) (by decide) hg2); have HG2 := Lib.hid ((HG1.out.alloc _).grown hg2 (fun e => (hob3 _ e.symm).2 rfl)); have HA2 := Lib.hid ((HA1.out.alloc _).grown hg2 (fun e => (hob3 _ e.symm).1 rfl)); have HX2 := Lib.hid ((HX1.out.below hg ((Below.refl _ wr).alloc (Nat.le_refl _) (.cells #[.string s] 9))).trans (RF.grownRow (own_at (w' := wr.alloc (.cells #[.string s] 9)) HV11.out (fun k _ hl _ _ => Below.heap_alloc wr _ k hl)) (.inl rfl) (Nat.lt_trans hgz (by simp)) hg2)); clear ho2 hg2)
        | (refine wpList_store_cell rfl 27 (.tmp 44) (.tmp 42) rfl g 0 rfl (.slice (some ⟨gc, 0, none⟩) (i + 1) cap) rfl rfl rfl Try.size_sst 30 [.slice A1 i c1, v2] HG2.out (by simp) ?_; intro w3 hb3 hg3; have HG3 : Hid (Blk w3 g 30 [.slice (some ⟨gc, 0, none⟩) (i + 1) cap, v2]) := Lib.hid hb3; have c3 := HG3.out.cellAt (i := 0) rfl; have HA3 := Lib.hid (HA2.out.grown hg3 (fun e => h6g (Option.some.inj e))); have HV13 := Lib.hid (own_at HV12.out (fun k hk hl _ _ => hg3.block k hl (fun e => by have := Option.some.inj e; omega))); have HV23 := Lib.hid (own_at HV22.out (fun k hk hl _ _ => hg3.block k hl (fun e => by have := Option.some.inj e; omega))); have HX3 := Lib.hid (HX2.out.trans (RF.self hg3 HG2.out.lt)); clear hb3 hg3)
        | (go_at_call 21; (with_reducible refine (HNum2.out _).mono ?_); rintro e w4 ⟨rfl, hb4⟩; have HX4 := Lib.hid (HX3.out.below hg hb4); have HA4 := Lib.hid (HA3.out.through hb4); have HR4 : Hid (RB2 w4 g (.slice (some ⟨gc, 0, none⟩) (i + 1) cap) v2 (ds ++ [x]) ts) := Lib.hid ⟨HG3.out.through hb4, by (rw [HLen.out]; exact own_through HV13.out hb4), own_through HV23.out hb4⟩; clear hb4)
        | (refine wpList_store_blk rfl 38 (.tmp 6) (.tmp 52) rfl b6 r rfl rfl 38 (vs zero32) HA4.out (by rw [HRl.out]; kernel_rfl) (by rw [HRl.out]; rfl) HRo.out ?_; intro w5 hb5 ho5; have HA5 := Lib.hid hb5; have HR5 := Lib.hid (HR4.out.cell HA4.out ho5 h6g (by decide) (by decide)); have HX5 := Lib.hid (HX4.out.grownB ho5 h6w hg); clear hb5 ho5))
      refine bodyPost_ret (v := .agg r.toArray) (results_cell_row rfl _ _ b6 38 _ (0, 0) _ rfl HA5.out Try.underlying38 rfl ?r2) rfl ⟨rfl, by rw [HAl.out]; exact HR5.out.rb, HX5.out⟩
      rw [List.size_toArray, HRl.out]; kernel_rfl

end Go.Proofs.Ytnncfhkgcaoomaa
