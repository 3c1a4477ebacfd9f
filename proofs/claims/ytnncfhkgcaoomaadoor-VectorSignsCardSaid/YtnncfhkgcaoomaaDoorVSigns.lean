/-
  VectorSigns, walked.
-/
import Derived.Test.YtnncfhkgcaoomaaDoorVSt
namespace Go.Proofs.YtnncfhkgcaoomaaDoor
open Go.RowKit

set_option maxHeartbeats 16000000 in
set_option maxRecDepth 100000 in
theorem vsig_far_ns (k f pl who k3 f3 : Int) (SA B T B3 A3 : Option Addr) (ns sc nb cb n tc nb3 cb3 nt3 ct3 : Nat) (w : World)  (hns : 50 < ns) :
    Calls Tryd.prog 3 #[.slice SA ns sc, .int .i64 k, .int .i64 f, .slice B nb cb, .slice T n tc, .int .i64 pl, .int .i64 who, .agg #[.int .i64 k3, .int .i64 f3, .slice B3 nb3 cb3, .slice A3 nt3 ct3]] w fun e w' => e = .returned (.bool true) ∧ Below w.heap.size w w' := by
  have hdns : decide (50 < (ns : Int)) = true := by simp; omega
  go_enter Tryd.func3, Tryd.ntmps3
  go_wp2_with (go_at_call 4; (with_reducible refine (vfixed_any _).mono ?_); rintro e w1 ⟨rfl, hb1⟩; have HX1 : Hid (Below w.heap.size w w1) := Lib.hid (((Below.refl _ w).alloc (Nat.le_refl _) _).trans (hb1.mono (by simp))); have HM1 : Hid (Blk w1 w.heap.size 26 [.int .i64 k3, .int .i64 f3, .slice B3 nb3 cb3, .slice A3 nt3 ct3]) := Lib.hid ((Blk.fresh rfl rfl).through hb1); have c2 := HM1.out.cellAt (i := 2) rfl; have c3 := HM1.out.cellAt (i := 3) rfl; clear hb1)
  go_ret
  exact ⟨rfl, HX1.out⟩

set_option maxHeartbeats 16000000 in
set_option maxRecDepth 100000 in
theorem vsig_far_nb (k f pl who k3 f3 : Int) (SA B T B3 A3 : Option Addr) (ns sc nb cb n tc nb3 cb3 nt3 ct3 : Nat) (w : World) (hns : ns ≤ 50) (hnb : 100 < nb) :
    Calls Tryd.prog 3 #[.slice SA ns sc, .int .i64 k, .int .i64 f, .slice B nb cb, .slice T n tc, .int .i64 pl, .int .i64 who, .agg #[.int .i64 k3, .int .i64 f3, .slice B3 nb3 cb3, .slice A3 nt3 ct3]] w fun e w' => e = .returned (.bool true) ∧ Below w.heap.size w w' := by
  have hdns : decide (50 < (ns : Int)) = false := by simp; omega
  have hdnb : decide (100 < (nb : Int)) = true := by simp; omega
  go_enter Tryd.func3, Tryd.ntmps3
  go_wp2_with (go_at_call 4; (with_reducible refine (vfixed_any _).mono ?_); rintro e w1 ⟨rfl, hb1⟩; have HX1 : Hid (Below w.heap.size w w1) := Lib.hid (((Below.refl _ w).alloc (Nat.le_refl _) _).trans (hb1.mono (by simp))); have HM1 : Hid (Blk w1 w.heap.size 26 [.int .i64 k3, .int .i64 f3, .slice B3 nb3 cb3, .slice A3 nt3 ct3]) := Lib.hid ((Blk.fresh rfl rfl).through hb1); have c2 := HM1.out.cellAt (i := 2) rfl; have c3 := HM1.out.cellAt (i := 3) rfl; clear hb1)
  go_ret
  exact ⟨rfl, HX1.out⟩

set_option maxHeartbeats 16000000 in
set_option maxRecDepth 100000 in
theorem vsig_far_n (k f pl who k3 f3 : Int) (SA B T B3 A3 : Option Addr) (ns sc nb cb n tc nb3 cb3 nt3 ct3 : Nat) (w : World) (hns : ns ≤ 50) (hnb : nb ≤ 100) (hn : 10 < n) :
    Calls Tryd.prog 3 #[.slice SA ns sc, .int .i64 k, .int .i64 f, .slice B nb cb, .slice T n tc, .int .i64 pl, .int .i64 who, .agg #[.int .i64 k3, .int .i64 f3, .slice B3 nb3 cb3, .slice A3 nt3 ct3]] w fun e w' => e = .returned (.bool true) ∧ Below w.heap.size w w' := by
  have hdns : decide (50 < (ns : Int)) = false := by simp; omega
  have hdnb : decide (100 < (nb : Int)) = false := by simp; omega
  have hdn : decide (10 < (n : Int)) = true := by simp; omega
  go_enter Tryd.func3, Tryd.ntmps3
  go_wp2_with (go_at_call 4; (with_reducible refine (vfixed_any _).mono ?_); rintro e w1 ⟨rfl, hb1⟩; have HX1 : Hid (Below w.heap.size w w1) := Lib.hid (((Below.refl _ w).alloc (Nat.le_refl _) _).trans (hb1.mono (by simp))); have HM1 : Hid (Blk w1 w.heap.size 26 [.int .i64 k3, .int .i64 f3, .slice B3 nb3 cb3, .slice A3 nt3 ct3]) := Lib.hid ((Blk.fresh rfl rfl).through hb1); have c2 := HM1.out.cellAt (i := 2) rfl; have c3 := HM1.out.cellAt (i := 3) rfl; clear hb1)
  go_ret
  exact ⟨rfl, HX1.out⟩

set_option maxHeartbeats 16000000 in
set_option maxRecDepth 100000 in
theorem vsig_far_nb3 (k f pl who k3 f3 : Int) (SA B T B3 A3 : Option Addr) (ns sc nb cb n tc nb3 cb3 nt3 ct3 : Nat) (w : World) (hns : ns ≤ 50) (hnb : nb ≤ 100) (hn : n ≤ 10) (hnb3 : 100 < nb3) :
    Calls Tryd.prog 3 #[.slice SA ns sc, .int .i64 k, .int .i64 f, .slice B nb cb, .slice T n tc, .int .i64 pl, .int .i64 who, .agg #[.int .i64 k3, .int .i64 f3, .slice B3 nb3 cb3, .slice A3 nt3 ct3]] w fun e w' => e = .returned (.bool true) ∧ Below w.heap.size w w' := by
  have hdns : decide (50 < (ns : Int)) = false := by simp; omega
  have hdnb : decide (100 < (nb : Int)) = false := by simp; omega
  have hdn : decide (10 < (n : Int)) = false := by simp; omega
  have hdnb3 : decide (100 < (nb3 : Int)) = true := by simp; omega
  go_enter Tryd.func3, Tryd.ntmps3
  go_wp2_with (go_at_call 4; (with_reducible refine (vfixed_any _).mono ?_); rintro e w1 ⟨rfl, hb1⟩; have HX1 : Hid (Below w.heap.size w w1) := Lib.hid (((Below.refl _ w).alloc (Nat.le_refl _) _).trans (hb1.mono (by simp))); have HM1 : Hid (Blk w1 w.heap.size 26 [.int .i64 k3, .int .i64 f3, .slice B3 nb3 cb3, .slice A3 nt3 ct3]) := Lib.hid ((Blk.fresh rfl rfl).through hb1); have c2 := HM1.out.cellAt (i := 2) rfl; have c3 := HM1.out.cellAt (i := 3) rfl; clear hb1)
  go_ret
  exact ⟨rfl, HX1.out⟩

set_option maxHeartbeats 16000000 in
set_option maxRecDepth 100000 in
theorem vsig_far_nt3 (k f pl who k3 f3 : Int) (SA B T B3 A3 : Option Addr) (ns sc nb cb n tc nb3 cb3 nt3 ct3 : Nat) (w : World) (hns : ns ≤ 50) (hnb : nb ≤ 100) (hn : n ≤ 10) (hnb3 : nb3 ≤ 100) (hnt3 : 20 < nt3) :
    Calls Tryd.prog 3 #[.slice SA ns sc, .int .i64 k, .int .i64 f, .slice B nb cb, .slice T n tc, .int .i64 pl, .int .i64 who, .agg #[.int .i64 k3, .int .i64 f3, .slice B3 nb3 cb3, .slice A3 nt3 ct3]] w fun e w' => e = .returned (.bool true) ∧ Below w.heap.size w w' := by
  have hdns : decide (50 < (ns : Int)) = false := by simp; omega
  have hdnb : decide (100 < (nb : Int)) = false := by simp; omega
  have hdn : decide (10 < (n : Int)) = false := by simp; omega
  have hdnb3 : decide (100 < (nb3 : Int)) = false := by simp; omega
  have hdnt3 : decide (20 < (nt3 : Int)) = true := by simp; omega
  go_enter Tryd.func3, Tryd.ntmps3
  go_wp2_with (go_at_call 4; (with_reducible refine (vfixed_any _).mono ?_); rintro e w1 ⟨rfl, hb1⟩; have HX1 : Hid (Below w.heap.size w w1) := Lib.hid (((Below.refl _ w).alloc (Nat.le_refl _) _).trans (hb1.mono (by simp))); have HM1 : Hid (Blk w1 w.heap.size 26 [.int .i64 k3, .int .i64 f3, .slice B3 nb3 cb3, .slice A3 nt3 ct3]) := Lib.hid ((Blk.fresh rfl rfl).through hb1); have c2 := HM1.out.cellAt (i := 2) rfl; have c3 := HM1.out.cellAt (i := 3) rfl; clear hb1)
  go_ret
  exact ⟨rfl, HX1.out⟩

set_option maxHeartbeats 16000000 in
set_option maxRecDepth 100000 in
theorem vsig_near (k f pl who k3 f3 : Int) (seed body xs3 : List UInt8) (tos : List Int) (SA B T B3 A3 : Option Addr) (ns sc nb cb n tc nb3 cb3 nt3 ct3 : Nat) (w : World) (hT : Tab w) (hys : By w (fun _ => True) SA ns seed) (hyb : By w (fun _ => True) B nb body) (hyt : Iv w (fun _ => True) T n tos) (hy3 : By w (fun _ => True) B3 nb3 xs3) (hns : ns ≤ 50) (hnb : nb ≤ 100) (hn : n ≤ 10) (hnb3 : nb3 ≤ 100) (hnt3 : nt3 ≤ 20) :
    Calls Tryd.prog 3 #[.slice SA ns sc, .int .i64 k, .int .i64 f, .slice B nb cb, .slice T n tc, .int .i64 pl, .int .i64 who, .agg #[.int .i64 k3, .int .i64 f3, .slice B3 nb3 cb3, .slice A3 nt3 ct3]] w fun e w' => e = .returned (.bool true) ∧ Below w.heap.size w w' := by
  have hsl : seed.length ≤ 1000000 := by have := hys.1; omega
  have hdns : decide (50 < (ns : Int)) = false := by simp; omega
  have hdnb : decide (100 < (nb : Int)) = false := by simp; omega
  have hdn : decide (10 < (n : Int)) = false := by simp; omega
  have hdnb3 : decide (100 < (nb3 : Int)) = false := by simp; omega
  have hdnt3 : decide (20 < (nt3 : Int)) = false := by simp; omega
  obtain ⟨tx, htx⟩ : ∃ tx, tx = kb k :: body := ⟨_, rfl⟩
  have HT := Lib.hid hT
  have HB : Hid (By w (· < w.heap.size) B nb body) := Lib.hid (hyb.lt.weak fun _ h => h.2)
  have HI : Hid (Iv w (· < w.heap.size) T n tos) := Lib.hid (hyt.lt.weak fun _ h => h.2.1)
  have H3 : Hid (By w (· < w.heap.size) B3 nb3 xs3) := Lib.hid (hy3.lt.weak fun _ h => h.2)
  have hkn : ∀ W, Below w.heap.size w W → Calls Tryd.prog 5 #[.slice SA ns sc] W fun e w' => ∃ g, e = .returned (.pointer (some ⟨g, 0, none⟩)) ∧ TS w' g seed ∧ W.heap.size ≤ g ∧ Below W.heap.size W w' := fun W hb => knew_any _ seed SA ns sc W (hys.through hb) (by omega)
  have hsk : ∀ W g, Below w.heap.size w W → w.heap.size ≤ g → TS W g seed ∧ Tab W → Calls Tryd.prog 7 #[.iface 28 (.pointer (some ⟨g, 0, none⟩)), .int .i64 k, .int .i64 f, .slice B nb cb, .slice T n tc] W fun e w' => ∃ B1 c1 A1 c2, e = .returned (.agg #[.int .i64 k, .int .i64 f, .slice B1 nb c1, .slice A1 n c2]) ∧ By w' (fun b => W.heap.size ≤ b) B1 nb body ∧ Tg w' A1 n (tgsK seed f tos tx n) ∧ (∀ o, A1 = some o → W.heap.size ≤ o.block) ∧ (TS w' g seed ∧ Tab w') ∧ KF g W w' := fun W g hb hg hs => by
    rw [htx]
    exact sign_keys g seed hsl (Nat.lt_of_lt_of_le HT.out.lt.1 hg) (Nat.lt_of_lt_of_le HT.out.lt.2 hg) k f body tos _ _ (fun k hk => Nat.ne_of_lt (Nat.lt_of_lt_of_le hk hg)) B nb cb (by omega) T n tc (by omega) W hs (HB.out.through hb) (HI.out.through hb)
  have hsb : ∀ W g, Below w.heap.size w W → w.heap.size ≤ g → BS W g [] [] → Calls Tryd.prog 7 #[.iface 30 (.pointer (some ⟨g, 0, none⟩)), .int .i64 k, .int .i64 f, .slice B nb cb, .slice T n tc] W fun e w' => ∃ B1 c1 A1 c2, e = .returned (.agg #[.int .i64 k, .int .i64 f, .slice B1 nb c1, .slice A1 n c2]) ∧ By w' (fun b => W.heap.size ≤ b) B1 nb body ∧ Tg w' A1 n (tgsB f tx tos n) ∧ (∀ o, A1 = some o → W.heap.size ≤ o.block) ∧ BS w' g [] (tsV f tx tos n) ∧ KF g W w' := fun W g hb hg hs => by
    rw [htx]
    exact sign_book g [] [] k f body tos _ _ (fun k hk => Nat.ne_of_lt (Nat.lt_of_lt_of_le hk hg)) B nb cb (by omega) T n tc (by omega) (by simp) W hs (HB.out.through hb) (HI.out.through hb)
  have HTX := Lib.hid htx
  have HSL := Lib.hid hsl
  have HKn := Lib.hid hkn
  have HSk := Lib.hid hsk
  have HSb := Lib.hid hsb
  obtain ⟨sb, hsb'⟩ : ∃ sb : ByteArray, sb = ⟨body.toArray⟩ := ⟨_, rfl⟩
  obtain ⟨sx, hsx⟩ : ∃ sx : ByteArray, sx = ⟨tx.toArray⟩ := ⟨_, rfl⟩
  obtain ⟨s3, hs3⟩ : ∃ s3 : ByteArray, s3 = ⟨xs3.toArray⟩ := ⟨_, rfl⟩
  have hcb : ∀ W Q B' c, By W Q B' nb body → (convert 22 9 (.slice B' nb c)).run Tryd.prog W = .ok (.string sb) W := fun W Q B' c h => by rw [hsb']; exact str_any Q c h
  have hcx : ∀ W Q B' c, By W Q B' (1 + nb) tx → (convert 22 9 (.slice B' (1 + nb) c)).run Tryd.prog W = .ok (.string sx) W := fun W Q B' c h => by rw [hsx]; exact str_any Q c h
  have hc3 : ∀ W Q B' c, By W Q B' nb3 xs3 → (convert 22 9 (.slice B' nb3 c)).run Tryd.prog W = .ok (.string s3) W := fun W Q B' c h => by rw [hs3]; exact str_any Q c h
  obtain ⟨e3, he3⟩ : ∃ e3, e3 = decide (xs3 = body) := ⟨_, rfl⟩
  have hse : (s3.toList == sb.toList) = e3 := by rw [hs3, hsb', he3]; exact str_beq xs3 body
  have HCb := Lib.hid hcb
  have HCx := Lib.hid hcx
  have HC3 := Lib.hid hc3
  have HE3 := Lib.hid he3
  have HSe := Lib.hid hse
  clear hT hys hyb hyt hy3 hkn hsk hsb htx hsl hsb' hsx hs3 hcb hcx hc3 he3 hse hns
  go_enter Tryd.func3, Tryd.ntmps3
  go_wp2_with (first
    | (go_at_call 4; (with_reducible refine (vfixed_any _).mono ?_); rintro e w1 ⟨rfl, hb1⟩; have HX1 : Hid (Below w.heap.size w w1) := Lib.hid (((Below.refl _ w).alloc (Nat.le_refl _) _).trans (hb1.mono (by simp))); have HM1 : Hid (Blk w1 w.heap.size 26 [.int .i64 k3, .int .i64 f3, .slice B3 nb3 cb3, .slice A3 nt3 ct3]) := Lib.hid ((Blk.fresh rfl rfl).through hb1); have c2 := HM1.out.cellAt (i := 2) rfl; have c3 := HM1.out.cellAt (i := 3) rfl; clear hb1)
    | (go_at_call 5; (with_reducible refine (HKn.out _ HX1.out).mono ?_); rintro e w2 ⟨gk, rfl, hts2, hgk, hb2⟩; have HX2 := Lib.hid (HX1.out.trans (hb2.mono HX1.out.size)); have HM2 := Lib.hid (HM1.out.through hb2); have HS2 := Lib.hid hts2; have HL := Lib.hid (Nat.lt_of_lt_of_le HM1.out.lt hgk); clear hts2 hgk hb2)
    | (go_at_call 6; (with_reducible refine (bnew_any _).mono ?_); rintro e w3 ⟨rfl, hs3, hb3⟩; have HX3 := Lib.hid (HX2.out.trans (hb3.mono HX2.out.size)); have HM3 := Lib.hid (HM2.out.through hb3); have HD3 := Lib.hid (Duo.laid HS2.out (HT.out.through HX2.out) (Nat.lt_trans HT.out.lt.1 HL.out) (Nat.lt_trans HT.out.lt.2 HL.out) hs3 hb3); clear hs3 hb3)
    | (go_at_call 7; (with_reducible refine (HSk.out _ gk HX3.out (Nat.le_of_lt HL.out) ⟨HD3.out.tk, HD3.out.tab⟩).mono ?_); rintro e w4 ⟨Bx, cx, Ax, dx, rfl, hy4, ht4, hn4, hs4, hf4⟩; have HX4 := Lib.hid (HX3.out.trans (hf4.low.mono (Nat.le_of_lt HL.out))); have HM4 := Lib.hid (hf4.blk HM3.out (Nat.ne_of_lt HL.out)); have HD4 := Lib.hid (HD3.out.byK hs4 hf4); have HYx4 := Lib.hid (hy4.weak (Q' := fun b => w2.heap.size < b) fun b h => Nat.lt_of_lt_of_le HD3.out.bk.lt h); have HTx4 := Lib.hid ht4; have HNx : Hid (∀ o, Ax = some o → w2.heap.size < o.block) := Lib.hid (fun o e => Nat.lt_of_lt_of_le HD3.out.bk.lt (hn4 o e)); clear hy4 ht4 hn4 hs4 hf4)
    | (go_at_call 7; (with_reducible refine (HSb.out _ w2.heap.size HX4.out HX2.out.size HD4.out.bk).mono ?_); rintro e w5 ⟨Bz, cz, Ay, dy, rfl, hy5, ht5, hn5, hs5, hf5⟩; have HX5 := Lib.hid (HX4.out.trans (hf5.low.mono HX2.out.size)); have HM5 := Lib.hid (hf5.blk HM4.out (Nat.ne_of_lt (Nat.lt_trans HL.out HD4.out.lt))); have HD5 := Lib.hid (HD4.out.byB hs5 hf5); have HYx5 := Lib.hid (HYx4.out.kf hf5 (fun b h => Nat.ne_of_gt h)); have HTx5 := Lib.hid (HTx4.out.kfNe hf5 (fun o e => Nat.ne_of_gt (HNx.out o e))); have HYz5 := Lib.hid (hy5.weak (Q' := fun b => w2.heap.size < b) fun b h => Nat.lt_of_lt_of_le HD4.out.bk.lt h); have HTz5 := Lib.hid ht5; have HNy : Hid (∀ o, Ay = some o → w2.heap.size < o.block) := Lib.hid (fun o e => Nat.lt_of_lt_of_le HD4.out.bk.lt (hn5 o e)); clear hy5 ht5 hn5 hs5 hf5)
    | (refine wpList_store_blk rfl 26 (.tmp 19) (.tmp 60) rfl w5.heap.size [.int .i64 k, .int .i64 f, .slice Bx nb cx, .slice Ax n dx] rfl rfl 26 [.int .i64 0, .int .i64 0, .slice none 0 0, .slice none 0 0] ((Blk.fresh rfl (by kernel_rfl)).alloc _) (by kernel_rfl) rfl (by simp [Value.oneCell']) ?_; intro w6 hb6 ho6; have HX6 : Hid (Below w5.heap.size w5 w6) := Lib.hid ((((Below.refl w5.heap.size w5).alloc (Nat.le_refl _) _).alloc (by simp) _).grown ho6 (by simp; omega) (fun k hk => Option.some.inj hk ▸ Nat.le_refl _)); have H19 := Lib.hid hb6; have H20 : Hid (Blk w6 (w5.heap.size + 1) 26 [.int .i64 0, .int .i64 0, .slice none 0 0, .slice none 0 0]) := Lib.hid (Blk.grown (Blk.fresh (by simp) (by kernel_rfl)) ho6 (by simp)); clear hb6 ho6)
    | (refine wpList_store_blk rfl 26 (.tmp 20) (.tmp 67) rfl (w5.heap.size + 1) [.int .i64 k, .int .i64 f, .slice Bz nb cz, .slice Ay n dy] rfl rfl 26 [.int .i64 0, .int .i64 0, .slice none 0 0, .slice none 0 0] H20.out (by kernel_rfl) rfl (by simp [Value.oneCell']) ?_; intro w7 hb7 ho7; have HX7 : Hid (Below w5.heap.size w5 w7) := Lib.hid (HX6.out.grown ho7 HX6.out.size (fun k hk => Option.some.inj hk ▸ Nat.le_succ _)); have HM19 := Lib.hid (H19.out.grown ho7 (by simp)); have HM20 := Lib.hid hb7; clear hb7 ho7))
  have HX57 := Lib.hid (HX5.out.trans (HX7.out.mono HX5.out.size))
  have HV0 : Hid (VSt w w.heap.size gk w2.heap.size w5.heap.size (w5.heap.size + 1) seed (tsV f tx tos n) [.int .i64 k3, .int .i64 f3, .slice B3 nb3 cb3, .slice A3 nt3 ct3] [.int .i64 k, .int .i64 f, .slice Bx nb cx, .slice Ax n dx] [.int .i64 k, .int .i64 f, .slice Bz nb cz, .slice Ay n dy] body xs3 tos (tgsK seed f tos tx n) (tgsB f tx tos n) B T B3 Bx Bz Ax Ay nb n nb3 w7) := Lib.hid ⟨HD5.out.through HX7.out, HX57.out, HL.out, HD5.out.bk.lt, Nat.lt_succ_of_lt HD5.out.bk.lt, HM5.out.through HX7.out, HM19.out, HM20.out, HB.out.through HX57.out, HI.out.through HX57.out, H3.out.through HX57.out, HYx5.out.through HX7.out, HYz5.out.through HX7.out, HTx5.out.through HX7.out, HTz5.out.through HX7.out, HNx.out, HNy.out⟩
  obtain ⟨b20, hb20⟩ : ∃ b, b = w5.heap.size + 1 := ⟨_, rfl⟩
  rw [← hb20] at HV0
  rw [← hb20]
  clear hb20
  obtain ⟨b19, hb19⟩ : ∃ b, b = w5.heap.size := ⟨_, rfl⟩
  rw [← hb19] at HV0
  rw [← hb19]
  clear hb19
  obtain ⟨gb, hgb⟩ : ∃ b, b = w2.heap.size := ⟨_, rfl⟩
  rw [← hgb] at HV0
  rw [← hgb]
  clear hgb
  have HV := Lib.hid HV0.out
  clear HV0 HX57 HM19 HM20 HX7 H20 H19 HX6 HNy HTz5 HYz5 HTx5 HYx5 HD5 HM5 HX5 HNx HTx4 HYx4 HD4 HM4 HX4 HD3 HM3 HX3 HL HS2 HM2 HX2 c2 c3 HM1 HX1 HSb HSk HKn
  try dsimp only [Act.put]
  refine wp_region_held_drew (S := fun W => VSt w w.heap.size gk gb b19 b20 seed (tsV f tx tos n) [.int .i64 k3, .int .i64 f3, .slice B3 nb3 cb3, .slice A3 nt3 ct3] [.int .i64 k, .int .i64 f, .slice Bx nb cx, .slice Ax n dx] [.int .i64 k, .int .i64 f, .slice Bz nb cz, .slice Ay n dy] body xs3 tos (tgsK seed f tos tx n) (tgsB f tx tos n) B T B3 Bx Bz Ax Ay nb n nb3 W) (by kernel_rfl) HV.out.drew (fun hHeld => ?_)
  change wpAnyH _ _ _ _ _ _ #[false, false, false, false, false, false, false, false, false, false, false, false, false, false, false, false, false, false, false, false, false, false, false, false, false, false, false, false, false, false, false, false, false, false, false, false, false, false, false, false, false, false, false, false, false] _ _
  refine wpAnyH_take (i := 0) (v := (.pointer (some ⟨b19, 3, none⟩))) rfl (by kernel_rfl) (by kernel_rfl) (by kernel_rfl) (fun _ _ _ h => h) (Or.inl ⟨by kernel_rfl, fun w hSw => ?_⟩) (by assumption) ?_
  · (try dsimp only at hSw); go_simp <;> (try (first | rfl | assumption))
  change wpAnyH _ _ _ _ _ _ _ (Act.put _ (some (68 : Nat)) (.pointer (some ⟨b19, 3, none⟩))) _
  simp only [Act.put, List.setIfInBounds_toArray, List.set_cons_zero, List.set_cons_succ]
  refine wpAnyH_take (i := 1) (v := (.slice Ax n dx)) rfl (by kernel_rfl) (by kernel_rfl) (by kernel_rfl) (fun _ _ _ h => h) (yields_load_at (by kernel_rfl) 24 (.tmp 68) rfl (.pointer (some ⟨b19, 3, none⟩)) (by simp [Act.eval]) (.slice Ax n dx) (fun W hW => load_one' (Tryd.agg_tags W) (hW.m19.cellAt rfl))) (by assumption) ?_
  change wpAnyH _ _ _ _ _ _ _ (Act.put _ (some (69 : Nat)) (.slice Ax n dx)) _
  simp only [Act.put, List.setIfInBounds_toArray, List.set_cons_zero, List.set_cons_succ]
  refine wpAnyH_take (i := 2) (v := (.int .i64 (n : Int))) rfl (by kernel_rfl) (by kernel_rfl) (by kernel_rfl) (fun _ _ _ h => h) (Or.inl ⟨by kernel_rfl, fun w hSw => ?_⟩) (by assumption) ?_
  · (try dsimp only at hSw); go_simp <;> (try (first | rfl | assumption))
  change wpAnyH _ _ _ _ _ _ _ (Act.put _ (some (70 : Nat)) (.int .i64 (n : Int))) _
  simp only [Act.put, List.setIfInBounds_toArray, List.set_cons_zero, List.set_cons_succ]
  refine wpAnyH_take (i := 3) (v := (.slice T n tc)) rfl (by kernel_rfl) (by kernel_rfl) (by kernel_rfl) (fun _ _ _ h => h) (Or.inl ⟨by kernel_rfl, fun w hSw => ?_⟩) (by assumption) ?_
  · (try dsimp only at hSw); go_simp <;> (try (first | rfl | assumption))
  change wpAnyH _ _ _ _ _ _ _ (Act.put _ (some (71 : Nat)) (.slice T n tc)) _
  simp only [Act.put, List.setIfInBounds_toArray, List.set_cons_zero, List.set_cons_succ]
  refine wpAnyH_take (i := 4) (v := (.int .i64 (n : Int))) rfl (by kernel_rfl) (by kernel_rfl) (by kernel_rfl) (fun _ _ _ h => h) (Or.inl ⟨by kernel_rfl, fun w hSw => ?_⟩) (by assumption) ?_
  · (try dsimp only at hSw); go_simp <;> (try (first | rfl | assumption))
  change wpAnyH _ _ _ _ _ _ _ (Act.put _ (some (72 : Nat)) (.int .i64 (n : Int))) _
  simp only [Act.put, List.setIfInBounds_toArray, List.set_cons_zero, List.set_cons_succ]
  refine wpAnyH_take (i := 5) (v := (.bool false)) rfl (by kernel_rfl) (by kernel_rfl) (by kernel_rfl) (fun _ _ _ h => h) (Or.inl ⟨by kernel_rfl, fun w hSw => ?_⟩) (by assumption) ?_
  · (try dsimp only at hSw); go_simp <;> (try (first | rfl | assumption))
  change wpAnyH _ _ _ _ _ _ _ (Act.put _ (some (73 : Nat)) (.bool false)) _
  simp only [Act.put, List.setIfInBounds_toArray, List.set_cons_zero, List.set_cons_succ]
  refine wpAnyH_take (i := 6) (v := (.bool false)) rfl (by kernel_rfl) (by kernel_rfl) (by kernel_rfl) (fun _ _ _ h => h) (Or.inl ⟨by kernel_rfl, fun w hSw => ?_⟩) (by assumption) ?_
  · (try dsimp only at hSw); go_simp <;> (try (first | rfl | assumption))
  change wpAnyH _ _ _ _ _ _ _ (Act.put _ (some (74 : Nat)) (.bool false)) _
  simp only [Act.put, List.setIfInBounds_toArray, List.set_cons_zero, List.set_cons_succ]
  refine wpAnyH_take (i := 7) (v := (.pointer (some ⟨b20, 3, none⟩))) rfl (by kernel_rfl) (by kernel_rfl) (by kernel_rfl) (fun _ _ _ h => h) (Or.inl ⟨by kernel_rfl, fun w hSw => ?_⟩) (by assumption) ?_
  · (try dsimp only at hSw); go_simp <;> (try (first | rfl | assumption))
  change wpAnyH _ _ _ _ _ _ _ (Act.put _ (some (75 : Nat)) (.pointer (some ⟨b20, 3, none⟩))) _
  simp only [Act.put, List.setIfInBounds_toArray, List.set_cons_zero, List.set_cons_succ]
  refine wpAnyH_take (i := 8) (v := (.slice Ay n dy)) rfl (by kernel_rfl) (by kernel_rfl) (by kernel_rfl) (fun _ _ _ h => h) (yields_load_at (by kernel_rfl) 24 (.tmp 75) rfl (.pointer (some ⟨b20, 3, none⟩)) (by simp [Act.eval]) (.slice Ay n dy) (fun W hW => load_one' (Tryd.agg_tags W) (hW.m20.cellAt rfl))) (by assumption) ?_
  change wpAnyH _ _ _ _ _ _ _ (Act.put _ (some (76 : Nat)) (.slice Ay n dy)) _
  simp only [Act.put, List.setIfInBounds_toArray, List.set_cons_zero, List.set_cons_succ]
  refine wpAnyH_take (i := 9) (v := (.int .i64 (n : Int))) rfl (by kernel_rfl) (by kernel_rfl) (by kernel_rfl) (fun _ _ _ h => h) (Or.inl ⟨by kernel_rfl, fun w hSw => ?_⟩) (by assumption) ?_
  · (try dsimp only at hSw); go_simp <;> (try (first | rfl | assumption))
  change wpAnyH _ _ _ _ _ _ _ (Act.put _ (some (77 : Nat)) (.int .i64 (n : Int))) _
  simp only [Act.put, List.setIfInBounds_toArray, List.set_cons_zero, List.set_cons_succ]
  refine wpAnyH_take (i := 10) (v := (.slice T n tc)) rfl (by kernel_rfl) (by kernel_rfl) (by kernel_rfl) (fun _ _ _ h => h) (Or.inl ⟨by kernel_rfl, fun w hSw => ?_⟩) (by assumption) ?_
  · (try dsimp only at hSw); go_simp <;> (try (first | rfl | assumption))
  change wpAnyH _ _ _ _ _ _ _ (Act.put _ (some (78 : Nat)) (.slice T n tc)) _
  simp only [Act.put, List.setIfInBounds_toArray, List.set_cons_zero, List.set_cons_succ]
  refine wpAnyH_take (i := 11) (v := (.int .i64 (n : Int))) rfl (by kernel_rfl) (by kernel_rfl) (by kernel_rfl) (fun _ _ _ h => h) (Or.inl ⟨by kernel_rfl, fun w hSw => ?_⟩) (by assumption) ?_
  · (try dsimp only at hSw); go_simp <;> (try (first | rfl | assumption))
  change wpAnyH _ _ _ _ _ _ _ (Act.put _ (some (79 : Nat)) (.int .i64 (n : Int))) _
  simp only [Act.put, List.setIfInBounds_toArray, List.set_cons_zero, List.set_cons_succ]
  refine wpAnyH_take (i := 12) (v := (.bool false)) rfl (by kernel_rfl) (by kernel_rfl) (by kernel_rfl) (fun _ _ _ h => h) (Or.inl ⟨by kernel_rfl, fun w hSw => ?_⟩) (by assumption) ?_
  · (try dsimp only at hSw); go_simp <;> (try (first | rfl | assumption))
  change wpAnyH _ _ _ _ _ _ _ (Act.put _ (some (80 : Nat)) (.bool false)) _
  simp only [Act.put, List.setIfInBounds_toArray, List.set_cons_zero, List.set_cons_succ]
  refine wpAnyH_take (i := 13) (v := (.bool false)) rfl (by kernel_rfl) (by kernel_rfl) (by kernel_rfl) (fun _ _ _ h => h) (Or.inl ⟨by kernel_rfl, fun w hSw => ?_⟩) (by assumption) ?_
  · (try dsimp only at hSw); go_simp <;> (try (first | rfl | assumption))
  change wpAnyH _ _ _ _ _ _ _ (Act.put _ (some (81 : Nat)) (.bool false)) _
  simp only [Act.put, List.setIfInBounds_toArray, List.set_cons_zero, List.set_cons_succ]
  refine wpAnyH_take (i := 14) (v := (.bool false)) rfl (by kernel_rfl) (by kernel_rfl) (by kernel_rfl) (fun _ _ _ h => h) (Or.inl ⟨by kernel_rfl, fun w hSw => ?_⟩) (by assumption) ?_
  · (try dsimp only at hSw); go_simp <;> (try (first | rfl | assumption))
  change wpAnyH _ _ _ _ _ _ _ (Act.put _ (some (82 : Nat)) (.bool false)) _
  simp only [Act.put, List.setIfInBounds_toArray, List.set_cons_zero, List.set_cons_succ]
  refine wpAnyH_take (i := 15) (v := (.pointer (some ⟨b19, 0, none⟩))) rfl (by kernel_rfl) (by kernel_rfl) (by kernel_rfl) (fun _ _ _ h => h) (Or.inl ⟨by kernel_rfl, fun w hSw => ?_⟩) (by assumption) ?_
  · (try dsimp only at hSw); go_simp <;> (try (first | rfl | assumption))
  change wpAnyH _ _ _ _ _ _ _ (Act.put _ (some (83 : Nat)) (.pointer (some ⟨b19, 0, none⟩))) _
  simp only [Act.put, List.setIfInBounds_toArray, List.set_cons_zero, List.set_cons_succ]
  refine wpAnyH_take (i := 16) (v := (.int .i64 k)) rfl (by kernel_rfl) (by kernel_rfl) (by kernel_rfl) (fun _ _ _ h => h) (yields_load_at (by kernel_rfl) 3 (.tmp 83) rfl (.pointer (some ⟨b19, 0, none⟩)) (by simp [Act.eval]) (.int .i64 k) (fun W hW => load_one' (Tryd.agg_int W) (hW.m19.cellAt rfl))) (by assumption) ?_
  change wpAnyH _ _ _ _ _ _ _ (Act.put _ (some (84 : Nat)) (.int .i64 k)) _
  simp only [Act.put, List.setIfInBounds_toArray, List.set_cons_zero, List.set_cons_succ]
  refine wpAnyH_take (i := 17) (v := (.int .i64 k)) rfl (by kernel_rfl) (by kernel_rfl) (by kernel_rfl) (fun _ _ _ h => h) (Or.inl ⟨by kernel_rfl, fun w hSw => ?_⟩) (by assumption) ?_
  · (try dsimp only at hSw); go_simp <;> (try (first | rfl | assumption))
  change wpAnyH _ _ _ _ _ _ _ (Act.put _ (some (85 : Nat)) (.int .i64 k)) _
  simp only [Act.put, List.setIfInBounds_toArray, List.set_cons_zero, List.set_cons_succ]
  refine wpAnyH_take (i := 18) (v := (.bool false)) rfl (by kernel_rfl) (by kernel_rfl) (by kernel_rfl) (fun _ _ _ h => h) (Or.inl ⟨by kernel_rfl, fun w hSw => ?_⟩) (by assumption) ?_
  · (try dsimp only at hSw); go_simp <;> (try (first | rfl | assumption))
  change wpAnyH _ _ _ _ _ _ _ (Act.put _ (some (86 : Nat)) (.bool false)) _
  simp only [Act.put, List.setIfInBounds_toArray, List.set_cons_zero, List.set_cons_succ]
  refine wpAnyH_take (i := 19) (v := (.bool false)) rfl (by kernel_rfl) (by kernel_rfl) (by kernel_rfl) (fun _ _ _ h => h) (Or.inl ⟨by kernel_rfl, fun w hSw => ?_⟩) (by assumption) ?_
  · (try dsimp only at hSw); go_simp <;> (try (first | rfl | assumption))
  change wpAnyH _ _ _ _ _ _ _ (Act.put _ (some (87 : Nat)) (.bool false)) _
  simp only [Act.put, List.setIfInBounds_toArray, List.set_cons_zero, List.set_cons_succ]
  refine wpAnyH_take (i := 20) (v := (.bool false)) rfl (by kernel_rfl) (by kernel_rfl) (by kernel_rfl) (fun _ _ _ h => h) (Or.inl ⟨by kernel_rfl, fun w hSw => ?_⟩) (by assumption) ?_
  · (try dsimp only at hSw); go_simp <;> (try (first | rfl | assumption))
  change wpAnyH _ _ _ _ _ _ _ (Act.put _ (some (88 : Nat)) (.bool false)) _
  simp only [Act.put, List.setIfInBounds_toArray, List.set_cons_zero, List.set_cons_succ]
  refine wpAnyH_take (i := 21) (v := (.pointer (some ⟨b19, 1, none⟩))) rfl (by kernel_rfl) (by kernel_rfl) (by kernel_rfl) (fun _ _ _ h => h) (Or.inl ⟨by kernel_rfl, fun w hSw => ?_⟩) (by assumption) ?_
  · (try dsimp only at hSw); go_simp <;> (try (first | rfl | assumption))
  change wpAnyH _ _ _ _ _ _ _ (Act.put _ (some (89 : Nat)) (.pointer (some ⟨b19, 1, none⟩))) _
  simp only [Act.put, List.setIfInBounds_toArray, List.set_cons_zero, List.set_cons_succ]
  refine wpAnyH_take (i := 22) (v := (.int .i64 f)) rfl (by kernel_rfl) (by kernel_rfl) (by kernel_rfl) (fun _ _ _ h => h) (yields_load_at (by kernel_rfl) 3 (.tmp 89) rfl (.pointer (some ⟨b19, 1, none⟩)) (by simp [Act.eval]) (.int .i64 f) (fun W hW => load_one' (Tryd.agg_int W) (hW.m19.cellAt rfl))) (by assumption) ?_
  change wpAnyH _ _ _ _ _ _ _ (Act.put _ (some (90 : Nat)) (.int .i64 f)) _
  simp only [Act.put, List.setIfInBounds_toArray, List.set_cons_zero, List.set_cons_succ]
  refine wpAnyH_take (i := 23) (v := (.int .i64 f)) rfl (by kernel_rfl) (by kernel_rfl) (by kernel_rfl) (fun _ _ _ h => h) (Or.inl ⟨by kernel_rfl, fun w hSw => ?_⟩) (by assumption) ?_
  · (try dsimp only at hSw); go_simp <;> (try (first | rfl | assumption))
  change wpAnyH _ _ _ _ _ _ _ (Act.put _ (some (91 : Nat)) (.int .i64 f)) _
  simp only [Act.put, List.setIfInBounds_toArray, List.set_cons_zero, List.set_cons_succ]
  refine wpAnyH_take (i := 24) (v := (.bool false)) rfl (by kernel_rfl) (by kernel_rfl) (by kernel_rfl) (fun _ _ _ h => h) (Or.inl ⟨by kernel_rfl, fun w hSw => ?_⟩) (by assumption) ?_
  · (try dsimp only at hSw); go_simp <;> (try (first | rfl | assumption))
  change wpAnyH _ _ _ _ _ _ _ (Act.put _ (some (92 : Nat)) (.bool false)) _
  simp only [Act.put, List.setIfInBounds_toArray, List.set_cons_zero, List.set_cons_succ]
  refine wpAnyH_take (i := 25) (v := (.bool false)) rfl (by kernel_rfl) (by kernel_rfl) (by kernel_rfl) (fun _ _ _ h => h) (Or.inl ⟨by kernel_rfl, fun w hSw => ?_⟩) (by assumption) ?_
  · (try dsimp only at hSw); go_simp <;> (try (first | rfl | assumption))
  change wpAnyH _ _ _ _ _ _ _ (Act.put _ (some (93 : Nat)) (.bool false)) _
  simp only [Act.put, List.setIfInBounds_toArray, List.set_cons_zero, List.set_cons_succ]
  refine wpAnyH_take (i := 26) (v := (.bool false)) rfl (by kernel_rfl) (by kernel_rfl) (by kernel_rfl) (fun _ _ _ h => h) (Or.inl ⟨by kernel_rfl, fun w hSw => ?_⟩) (by assumption) ?_
  · (try dsimp only at hSw); go_simp <;> (try (first | rfl | assumption))
  change wpAnyH _ _ _ _ _ _ _ (Act.put _ (some (94 : Nat)) (.bool false)) _
  simp only [Act.put, List.setIfInBounds_toArray, List.set_cons_zero, List.set_cons_succ]
  refine wpAnyH_take (i := 27) (v := (.pointer (some ⟨b19, 2, none⟩))) rfl (by kernel_rfl) (by kernel_rfl) (by kernel_rfl) (fun _ _ _ h => h) (Or.inl ⟨by kernel_rfl, fun w hSw => ?_⟩) (by assumption) ?_
  · (try dsimp only at hSw); go_simp <;> (try (first | rfl | assumption))
  change wpAnyH _ _ _ _ _ _ _ (Act.put _ (some (95 : Nat)) (.pointer (some ⟨b19, 2, none⟩))) _
  simp only [Act.put, List.setIfInBounds_toArray, List.set_cons_zero, List.set_cons_succ]
  refine wpAnyH_take (i := 28) (v := (.slice Bx nb cx)) rfl (by kernel_rfl) (by kernel_rfl) (by kernel_rfl) (fun _ _ _ h => h) (yields_load_at (by kernel_rfl) 22 (.tmp 95) rfl (.pointer (some ⟨b19, 2, none⟩)) (by simp [Act.eval]) (.slice Bx nb cx) (fun W hW => load_one' (Tryd.agg_sl W) (hW.m19.cellAt rfl))) (by assumption) ?_
  change wpAnyH _ _ _ _ _ _ _ (Act.put _ (some (96 : Nat)) (.slice Bx nb cx)) _
  simp only [Act.put, List.setIfInBounds_toArray, List.set_cons_zero, List.set_cons_succ]
  refine wpAnyH_take (i := 29) (v := (.string sb)) rfl (by kernel_rfl) (by kernel_rfl) (by kernel_rfl) (fun _ _ _ h => h) (yields_conv (by kernel_rfl) 22 9 (.tmp 96) rfl (.slice Bx nb cx) (by simp [Act.eval]) (.string sb) (fun W hW => HCb.out W _ Bx cx hW.yx)) (by assumption) ?_
  change wpAnyH _ _ _ _ _ _ _ (Act.put _ (some (97 : Nat)) (.string sb)) _
  simp only [Act.put, List.setIfInBounds_toArray, List.set_cons_zero, List.set_cons_succ]
  refine wpAnyH_take (i := 30) (v := (.slice B nb cb)) rfl (by kernel_rfl) (by kernel_rfl) (by kernel_rfl) (fun _ _ _ h => h) (Or.inl ⟨by kernel_rfl, fun w hSw => ?_⟩) (by assumption) ?_
  · (try dsimp only at hSw); go_simp <;> (try (first | rfl | assumption))
  change wpAnyH _ _ _ _ _ _ _ (Act.put _ (some (98 : Nat)) (.slice B nb cb)) _
  simp only [Act.put, List.setIfInBounds_toArray, List.set_cons_zero, List.set_cons_succ]
  refine wpAnyH_take (i := 31) (v := (.string sb)) rfl (by kernel_rfl) (by kernel_rfl) (by kernel_rfl) (fun _ _ _ h => h) (yields_conv (by kernel_rfl) 22 9 (.tmp 98) rfl (.slice B nb cb) (by simp [Act.eval]) (.string sb) (fun W hW => HCb.out W _ B cb hW.yb)) (by assumption) ?_
  change wpAnyH _ _ _ _ _ _ _ (Act.put _ (some (99 : Nat)) (.string sb)) _
  simp only [Act.put, List.setIfInBounds_toArray, List.set_cons_zero, List.set_cons_succ]
  refine wpAnyH_take (i := 32) (v := (.bool false)) rfl (by kernel_rfl) (by kernel_rfl) (by kernel_rfl) (fun _ _ _ h => h) (Or.inl ⟨by kernel_rfl, fun w hSw => ?_⟩) (by assumption) ?_
  · (try dsimp only at hSw); go_simp <;> (try (first | rfl | assumption))
  change wpAnyH _ _ _ _ _ _ _ (Act.put _ (some (100 : Nat)) (.bool false)) _
  simp only [Act.put, List.setIfInBounds_toArray, List.set_cons_zero, List.set_cons_succ]
  refine wpAnyH_take (i := 33) (v := (.bool false)) rfl (by kernel_rfl) (by kernel_rfl) (by kernel_rfl) (fun _ _ _ h => h) (Or.inl ⟨by kernel_rfl, fun w hSw => ?_⟩) (by assumption) ?_
  · (try dsimp only at hSw); go_simp <;> (try (first | rfl | assumption))
  change wpAnyH _ _ _ _ _ _ _ (Act.put _ (some (101 : Nat)) (.bool false)) _
  simp only [Act.put, List.setIfInBounds_toArray, List.set_cons_zero, List.set_cons_succ]
  refine wpAnyH_take (i := 34) (v := (.bool false)) rfl (by kernel_rfl) (by kernel_rfl) (by kernel_rfl) (fun _ _ _ h => h) (Or.inl ⟨by kernel_rfl, fun w hSw => ?_⟩) (by assumption) ?_
  · (try dsimp only at hSw); go_simp <;> (try (first | rfl | assumption))
  change wpAnyH _ _ _ _ _ _ _ (Act.put _ (some (102 : Nat)) (.bool false)) _
  simp only [Act.put, List.setIfInBounds_toArray, List.set_cons_zero, List.set_cons_succ]
  refine wpAnyH_take (i := 35) (v := (.int .i64 k)) rfl (by kernel_rfl) (by kernel_rfl) (by kernel_rfl) (fun _ _ _ h => h) (Or.inl ⟨by kernel_rfl, fun w hSw => ?_⟩) (by assumption) ?_
  · (try dsimp only at hSw); go_simp <;> (try (first | rfl | assumption))
  change wpAnyH _ _ _ _ _ _ _ (Act.put _ (some (103 : Nat)) (.int .i64 k)) _
  simp only [Act.put, List.setIfInBounds_toArray, List.set_cons_zero, List.set_cons_succ]
  refine wpAnyH_take (i := 36) (v := (.slice B nb cb)) rfl (by kernel_rfl) (by kernel_rfl) (by kernel_rfl) (fun _ _ _ h => h) (Or.inl ⟨by kernel_rfl, fun w hSw => ?_⟩) (by assumption) ?_
  · (try dsimp only at hSw); go_simp <;> (try (first | rfl | assumption))
  change wpAnyH _ _ _ _ _ _ _ (Act.put _ (some (104 : Nat)) (.slice B nb cb)) _
  simp only [Act.put, List.setIfInBounds_toArray, List.set_cons_zero, List.set_cons_succ]
  refine wpAnyH_take (i := 39) (v := (.int .i64 k)) rfl (by kernel_rfl) (by kernel_rfl) (by kernel_rfl) (fun _ _ _ h => h) (Or.inl ⟨by kernel_rfl, fun w hSw => ?_⟩) (by assumption) ?_
  · (try dsimp only at hSw); go_simp <;> (try (first | rfl | assumption))
  change wpAnyH _ _ _ _ _ _ _ (Act.put _ (some (107 : Nat)) (.int .i64 k)) _
  simp only [Act.put, List.setIfInBounds_toArray, List.set_cons_zero, List.set_cons_succ]
  refine wpAnyH_take (i := 40) (v := (.slice B nb cb)) rfl (by kernel_rfl) (by kernel_rfl) (by kernel_rfl) (fun _ _ _ h => h) (Or.inl ⟨by kernel_rfl, fun w hSw => ?_⟩) (by assumption) ?_
  · (try dsimp only at hSw); go_simp <;> (try (first | rfl | assumption))
  change wpAnyH _ _ _ _ _ _ _ (Act.put _ (some (108 : Nat)) (.slice B nb cb)) _
  simp only [Act.put, List.setIfInBounds_toArray, List.set_cons_zero, List.set_cons_succ]
  refine wpAnyH_ready (rs := [37]) (by kernel_rfl) (by simp) ?_
  refine AllReadyH.cons rfl (fun K hK => ?_) AllReadyH.nil
  go_simp
  refine (VSt.text (k := k) hHeld (by omega) HTX.out cb).mono ?_
  rintro e wa ⟨Ua, ua, rfl, hya, hba⟩
  go_wp2_with fail
  refine hK.out _ _ (hHeld.through hba) (fun hHeld1 => ?_)
  clear hHeld hK K
  have hHeld := hHeld1
  clear hHeld1
  refine wpAnyH_weaken (S' := fun W => (VSt w w.heap.size gk gb b19 b20 seed (tsV f tx tos n) [.int .i64 k3, .int .i64 f3, .slice B3 nb3 cb3, .slice A3 nt3 ct3] [.int .i64 k, .int .i64 f, .slice Bx nb cx, .slice Ax n dx] [.int .i64 k, .int .i64 f, .slice Bz nb cz, .slice Ay n dy] body xs3 tos (tgsK seed f tos tx n) (tgsB f tx tos n) B T B3 Bx Bz Ax Ay nb n nb3 W) ∧ By W (gb < ·) Ua (1 + nb) tx) (fun W h => h.1) _ _ _ _ ?_
  have hHeld2 := And.intro hHeld hya
  clear hHeld
  have hHeld := hHeld2
  clear hHeld2
  refine wpAnyH_take (i := 38) (v := (.string sx)) rfl (by kernel_rfl) (by kernel_rfl) (by kernel_rfl) (fun _ _ _ h => h) (yields_conv (by kernel_rfl) 22 9 (.tmp 105) rfl (.slice Ua (1 + nb) ua) (by simp [Act.eval]) (.string sx) (fun W hW => HCx.out W _ Ua ua hW.2)) (by assumption) ?_
  change wpAnyH _ _ _ _ _ _ _ (Act.put _ (some (106 : Nat)) (.string sx)) _
  simp only [Act.put, List.setIfInBounds_toArray, List.set_cons_zero, List.set_cons_succ]
  refine wpAnyH_ready (rs := [41]) (by kernel_rfl) (by simp) ?_
  refine AllReadyH.cons rfl (fun K hK => ?_) AllReadyH.nil
  go_simp
  refine (VSt.rtext (k := k) hHeld.1 (by omega) HTX.out cb).mono ?_
  rintro e wz ⟨Uz, uz, rfl, hyz, hbz⟩
  go_wp2_with fail
  refine hK.out _ _ ⟨hHeld.1.through hbz, hHeld.2.through hbz⟩ (fun hHeld1 => ?_)
  clear hHeld hK K
  have hHeld := hHeld1
  clear hHeld1
  refine wpAnyH_weaken (S' := fun W => ((VSt w w.heap.size gk gb b19 b20 seed (tsV f tx tos n) [.int .i64 k3, .int .i64 f3, .slice B3 nb3 cb3, .slice A3 nt3 ct3] [.int .i64 k, .int .i64 f, .slice Bx nb cx, .slice Ax n dx] [.int .i64 k, .int .i64 f, .slice Bz nb cz, .slice Ay n dy] body xs3 tos (tgsK seed f tos tx n) (tgsB f tx tos n) B T B3 Bx Bz Ax Ay nb n nb3 W) ∧ By W (gb < ·) Ua (1 + nb) tx) ∧ By W (gb < ·) Uz (1 + nb) tx) (fun W h => h.1) _ _ _ _ ?_
  have hHeld2 := And.intro hHeld hyz
  clear hHeld
  have hHeld := hHeld2
  clear hHeld2
  refine wpAnyH_take (i := 42) (v := (.string sx)) rfl (by kernel_rfl) (by kernel_rfl) (by kernel_rfl) (fun _ _ _ h => h) (yields_conv (by kernel_rfl) 22 9 (.tmp 109) rfl (.slice Uz (1 + nb) uz) (by simp [Act.eval]) (.string sx) (fun W hW => HCx.out W _ Uz uz hW.2)) (by assumption) ?_
  change wpAnyH _ _ _ _ _ _ _ (Act.put _ (some (110 : Nat)) (.string sx)) _
  simp only [Act.put, List.setIfInBounds_toArray, List.set_cons_zero, List.set_cons_succ]
  refine wpAnyH_take (i := 43) (v := (.bool false)) rfl (by kernel_rfl) (by kernel_rfl) (by kernel_rfl) (fun _ _ _ h => h) (Or.inl ⟨by kernel_rfl, fun w hSw => ?_⟩) (by assumption) ?_
  · (try dsimp only at hSw); go_simp <;> (try (first | rfl | assumption))
  change wpAnyH _ _ _ _ _ _ _ (Act.put _ (some (111 : Nat)) (.bool false)) _
  simp only [Act.put, List.setIfInBounds_toArray, List.set_cons_zero, List.set_cons_succ]
  refine wpAnyH_take (i := 44) (v := (.bool false)) rfl (by kernel_rfl) (by kernel_rfl) (by kernel_rfl) (fun _ _ _ h => h) (Or.inl ⟨by kernel_rfl, fun w hSw => ?_⟩) (by assumption) ?_
  · (try dsimp only at hSw); go_simp <;> (try (first | rfl | assumption))
  change wpAnyH _ _ _ _ _ _ _ (Act.put _ (some (112 : Nat)) (.bool false)) _
  simp only [Act.put, List.setIfInBounds_toArray, List.set_cons_zero, List.set_cons_succ]
  refine wpAnyH_done (by kernel_rfl) ?_ _
  have HVf : Hid (VSt w w.heap.size gk gb b19 b20 seed (tsV f tx tos n) [.int .i64 k3, .int .i64 f3, .slice B3 nb3 cb3, .slice A3 nt3 ct3] [.int .i64 k, .int .i64 f, .slice Bx nb cx, .slice Ax n dx] [.int .i64 k, .int .i64 f, .slice Bz nb cz, .slice Ay n dy] body xs3 tos (tgsK seed f tos tx n) (tgsB f tx tos n) B T B3 Bx Bz Ax Ay nb n nb3 wz) := Lib.hid hHeld.1.1
  clear hHeld
  go_wp2
  go_loopw [115] (fun iv wr => ∃ j : Nat, j ≤ n ∧ iv = .int .i64 j ∧ VSt w w.heap.size gk gb b19 b20 seed (tsV f tx tos n) [.int .i64 k3, .int .i64 f3, .slice B3 nb3 cb3, .slice A3 nt3 ct3] [.int .i64 k, .int .i64 f, .slice Bx nb cx, .slice Ax n dx] [.int .i64 k, .int .i64 f, .slice Bz nb cz, .slice Ay n dy] body xs3 tos (tgsK seed f tos tx n) (tgsB f tx tos n) B T B3 Bx Bz Ax Ay nb n nb3 wr) (fun iv _ => n - (intOf iv).toNat)
  case atStart => exact ⟨0, Nat.zero_le _, rfl, HVf.out⟩
  case round =>
    obtain ⟨j, hj, rfl, hv⟩ := hrel
    have HVr := Lib.hid hv
    clear hv HVf
    by_cases hlt : j < n
    · as_aux_lemma =>
      obtain ⟨gr, orr, rfl, _, hcr⟩ := HVr.out.yt.cell (by omega)
      have hcj := hcr j hlt
      obtain ⟨tj, htj⟩ : ∃ t, t = tos.getD j 0 := ⟨_, rfl⟩
      rw [← htj] at hcj
      obtain ⟨_, ga, oa, rfl, _⟩ := HVr.out.tx.at j _ (tgsK_at hlt)
      obtain ⟨q, hq⟩ : ∃ q, q = vs (tagAB seed f tj tx) := ⟨_, rfl⟩
      have hql : q.length = 32 := by rw [hq, vs_length, tagAB_length]
      have hne : ∀ W, (binOp .neq 37 (.agg q.toArray) (.agg q.toArray)).run Tryd.prog W = .ok (.bool false) W := fun W => by rw [hq]; exact arr_neq (b := true) (fun w => by rw [tag_eql _ _ (tagAB_length _ _ _ _) (tagAB_length _ _ _ _), beq_self_eq_true]) W
      have hix := fun W => run_index_tags W ga oa n dx j hlt
      have HQ := Lib.hid hq
      have HQl := Lib.hid hql
      have HTJ := Lib.hid htj
      clear hcr hq hql htj
      go_wp2
      try dsimp only [Act.put]
      refine wp_region_held_drew (S := fun W => VSt w w.heap.size gk gb b19 b20 seed (tsV f tx tos n) [.int .i64 k3, .int .i64 f3, .slice B3 nb3 cb3, .slice A3 nt3 ct3] [.int .i64 k, .int .i64 f, .slice Bx nb cx, .slice (some ⟨ga, oa, none⟩) n dx] [.int .i64 k, .int .i64 f, .slice Bz nb cz, .slice Ay n dy] body xs3 tos (tgsK seed f tos tx n) (tgsB f tx tos n) B (some ⟨gr, orr, none⟩) B3 Bx Bz (some ⟨ga, oa, none⟩) Ay nb n nb3 W) (by kernel_rfl) HVr.out.drew (fun hHeld => ?_)
      change wpAnyH _ _ _ _ _ _ #[false, false, false, false, false, false, false, false, false, false, false, false, false, false, false, false, false, false, false, false, false, false, false, false, false, false, false, false, false, false, false] _ _
      refine wpAnyH_take (i := 0) (v := (.pointer (some ⟨gk, 0, none⟩))) rfl (by kernel_rfl) (by kernel_rfl) (by kernel_rfl) (fun _ _ _ h => h) (Or.inl ⟨by kernel_rfl, fun w hSw => ?_⟩) (by assumption) ?_
      · (try dsimp only at hSw); go_simp <;> (try (first | rfl | assumption))
      change wpAnyH _ _ _ _ _ _ _ (Act.put _ (some (120 : Nat)) (.pointer (some ⟨gk, 0, none⟩))) _
      simp only [Act.put, List.setIfInBounds_toArray, List.set_cons_zero, List.set_cons_succ]
      refine wpAnyH_take (i := 1) (v := (.iface 28 (.pointer (some ⟨gk, 0, none⟩)))) rfl (by kernel_rfl) (by kernel_rfl) (by kernel_rfl) (fun _ _ _ h => h) (Or.inl ⟨by kernel_rfl, fun w hSw => ?_⟩) (by assumption) ?_
      · (try dsimp only at hSw); go_simp <;> (try (first | rfl | assumption))
      change wpAnyH _ _ _ _ _ _ _ (Act.put _ (some (121 : Nat)) (.iface 28 (.pointer (some ⟨gk, 0, none⟩)))) _
      simp only [Act.put, List.setIfInBounds_toArray, List.set_cons_zero, List.set_cons_succ]
      refine wpAnyH_take (i := 2) (v := (.agg #[.int .i64 k, .int .i64 f, .slice Bx nb cx, .slice (some ⟨ga, oa, none⟩) n dx])) rfl (by kernel_rfl) (by kernel_rfl) (by kernel_rfl) (fun _ _ _ h => h) (yields_load_at (by kernel_rfl) 26 (.tmp 19) rfl (.pointer (some ⟨b19, 0, none⟩)) (by simp [Act.eval]) (.agg #[.int .i64 k, .int .i64 f, .slice Bx nb cx, .slice (some ⟨ga, oa, none⟩) n dx]) (fun W hW => hW.m19.loadAt 26 _ Tryd.underlying26 rfl (by kernel_rfl))) (by assumption) ?_
      change wpAnyH _ _ _ _ _ _ _ (Act.put _ (some (122 : Nat)) (.agg #[.int .i64 k, .int .i64 f, .slice Bx nb cx, .slice (some ⟨ga, oa, none⟩) n dx])) _
      simp only [Act.put, List.setIfInBounds_toArray, List.set_cons_zero, List.set_cons_succ]
      refine wpAnyH_take (i := 3) (v := (.int .i64 (j : Int))) rfl (by kernel_rfl) (by kernel_rfl) (by kernel_rfl) (fun _ _ _ h => h) (Or.inl ⟨by kernel_rfl, fun w hSw => ?_⟩) (by assumption) ?_
      · (try dsimp only at hSw); go_simp <;> (try (first | rfl | assumption))
      change wpAnyH _ _ _ _ _ _ _ (Act.put _ (some (123 : Nat)) (.int .i64 (j : Int))) _
      simp only [Act.put, List.setIfInBounds_toArray, List.set_cons_zero, List.set_cons_succ]
      refine wpAnyH_take (i := 4) (v := (.int .i64 tj)) rfl (by kernel_rfl) (by kernel_rfl) (by kernel_rfl) (fun _ _ _ h => h) (Or.inl ⟨by kernel_rfl, fun w hSw => ?_⟩) (by assumption) ?_
      · (try dsimp only at hSw); go_simp <;> (try (first | rfl | assumption))
      change wpAnyH _ _ _ _ _ _ _ (Act.put _ (some (124 : Nat)) (.int .i64 tj)) _
      simp only [Act.put, List.setIfInBounds_toArray, List.set_cons_zero, List.set_cons_succ]
      refine wpAnyH_ready (rs := [5]) (by kernel_rfl) (by simp) ?_
      refine AllReadyH.cons rfl (fun K hK => ?_) AllReadyH.nil
      go_simp
      refine (VSt.ckK hHeld HSL.out (by omega) HTX.out cx dx hlt HTJ.out).mono ?_
      rintro e wa ⟨rfl, hsa, hfa⟩
      go_wp2_with fail
      refine hK.out _ _ (hHeld.byK hsa hfa) (fun hHeld1 => ?_)
      clear hHeld hK K
      have hHeld := hHeld1
      clear hHeld1
      refine wpAnyH_take (i := 6) (v := (.bool false)) rfl (by kernel_rfl) (by kernel_rfl) (by kernel_rfl) (fun _ _ _ h => h) (Or.inl ⟨by kernel_rfl, fun w hSw => ?_⟩) (by assumption) ?_
      · (try dsimp only at hSw); go_simp <;> (try (first | rfl | assumption))
      change wpAnyH _ _ _ _ _ _ _ (Act.put _ (some (126 : Nat)) (.bool false)) _
      simp only [Act.put, List.setIfInBounds_toArray, List.set_cons_zero, List.set_cons_succ]
      refine wpAnyH_take (i := 7) (v := (.bool false)) rfl (by kernel_rfl) (by kernel_rfl) (by kernel_rfl) (fun _ _ _ h => h) (Or.inl ⟨by kernel_rfl, fun w hSw => ?_⟩) (by assumption) ?_
      · (try dsimp only at hSw); go_simp <;> (try (first | rfl | assumption))
      change wpAnyH _ _ _ _ _ _ _ (Act.put _ (some (127 : Nat)) (.bool false)) _
      simp only [Act.put, List.setIfInBounds_toArray, List.set_cons_zero, List.set_cons_succ]
      refine wpAnyH_take (i := 8) (v := (.pointer (some ⟨gb, 0, none⟩))) rfl (by kernel_rfl) (by kernel_rfl) (by kernel_rfl) (fun _ _ _ h => h) (Or.inl ⟨by kernel_rfl, fun w hSw => ?_⟩) (by assumption) ?_
      · (try dsimp only at hSw); go_simp <;> (try (first | rfl | assumption))
      change wpAnyH _ _ _ _ _ _ _ (Act.put _ (some (128 : Nat)) (.pointer (some ⟨gb, 0, none⟩))) _
      simp only [Act.put, List.setIfInBounds_toArray, List.set_cons_zero, List.set_cons_succ]
      refine wpAnyH_take (i := 9) (v := (.iface 30 (.pointer (some ⟨gb, 0, none⟩)))) rfl (by kernel_rfl) (by kernel_rfl) (by kernel_rfl) (fun _ _ _ h => h) (Or.inl ⟨by kernel_rfl, fun w hSw => ?_⟩) (by assumption) ?_
      · (try dsimp only at hSw); go_simp <;> (try (first | rfl | assumption))
      change wpAnyH _ _ _ _ _ _ _ (Act.put _ (some (129 : Nat)) (.iface 30 (.pointer (some ⟨gb, 0, none⟩)))) _
      simp only [Act.put, List.setIfInBounds_toArray, List.set_cons_zero, List.set_cons_succ]
      refine wpAnyH_take (i := 10) (v := (.agg #[.int .i64 k, .int .i64 f, .slice Bz nb cz, .slice Ay n dy])) rfl (by kernel_rfl) (by kernel_rfl) (by kernel_rfl) (fun _ _ _ h => h) (yields_load_at (by kernel_rfl) 26 (.tmp 20) rfl (.pointer (some ⟨b20, 0, none⟩)) (by simp [Act.eval]) (.agg #[.int .i64 k, .int .i64 f, .slice Bz nb cz, .slice Ay n dy]) (fun W hW => hW.m20.loadAt 26 _ Tryd.underlying26 rfl (by kernel_rfl))) (by assumption) ?_
      change wpAnyH _ _ _ _ _ _ _ (Act.put _ (some (130 : Nat)) (.agg #[.int .i64 k, .int .i64 f, .slice Bz nb cz, .slice Ay n dy])) _
      simp only [Act.put, List.setIfInBounds_toArray, List.set_cons_zero, List.set_cons_succ]
      refine wpAnyH_take (i := 11) (v := (.int .i64 (j : Int))) rfl (by kernel_rfl) (by kernel_rfl) (by kernel_rfl) (fun _ _ _ h => h) (Or.inl ⟨by kernel_rfl, fun w hSw => ?_⟩) (by assumption) ?_
      · (try dsimp only at hSw); go_simp <;> (try (first | rfl | assumption))
      change wpAnyH _ _ _ _ _ _ _ (Act.put _ (some (131 : Nat)) (.int .i64 (j : Int))) _
      simp only [Act.put, List.setIfInBounds_toArray, List.set_cons_zero, List.set_cons_succ]
      refine wpAnyH_take (i := 12) (v := (.int .i64 tj)) rfl (by kernel_rfl) (by kernel_rfl) (by kernel_rfl) (fun _ _ _ h => h) (Or.inl ⟨by kernel_rfl, fun w hSw => ?_⟩) (by assumption) ?_
      · (try dsimp only at hSw); go_simp <;> (try (first | rfl | assumption))
      change wpAnyH _ _ _ _ _ _ _ (Act.put _ (some (132 : Nat)) (.int .i64 tj)) _
      simp only [Act.put, List.setIfInBounds_toArray, List.set_cons_zero, List.set_cons_succ]
      refine wpAnyH_ready (rs := [13]) (by kernel_rfl) (by simp) ?_
      refine AllReadyH.cons rfl (fun K hK => ?_) AllReadyH.nil
      go_simp
      refine (VSt.ckB hHeld (by omega) (by omega) HTX.out cz dy hlt HTJ.out (e1 := true) (r := 0) (decide_eq_true rfl) rfl).mono ?_
      rintro e wb ⟨rfl, hsb, hfb⟩
      go_wp2_with fail
      refine hK.out _ _ (hHeld.byB hsb hfb) (fun hHeld1 => ?_)
      clear hHeld hK K
      have hHeld := hHeld1
      clear hHeld1
      refine wpAnyH_take (i := 14) (v := (.bool false)) rfl (by kernel_rfl) (by kernel_rfl) (by kernel_rfl) (fun _ _ _ h => h) (Or.inl ⟨by kernel_rfl, fun w hSw => ?_⟩) (by assumption) ?_
      · (try dsimp only at hSw); go_simp <;> (try (first | rfl | assumption))
      change wpAnyH _ _ _ _ _ _ _ (Act.put _ (some (134 : Nat)) (.bool false)) _
      simp only [Act.put, List.setIfInBounds_toArray, List.set_cons_zero, List.set_cons_succ]
      refine wpAnyH_take (i := 15) (v := (.bool false)) rfl (by kernel_rfl) (by kernel_rfl) (by kernel_rfl) (fun _ _ _ h => h) (Or.inl ⟨by kernel_rfl, fun w hSw => ?_⟩) (by assumption) ?_
      · (try dsimp only at hSw); go_simp <;> (try (first | rfl | assumption))
      change wpAnyH _ _ _ _ _ _ _ (Act.put _ (some (135 : Nat)) (.bool false)) _
      simp only [Act.put, List.setIfInBounds_toArray, List.set_cons_zero, List.set_cons_succ]
      refine wpAnyH_take (i := 16) (v := (.bool false)) rfl (by kernel_rfl) (by kernel_rfl) (by kernel_rfl) (fun _ _ _ h => h) (Or.inl ⟨by kernel_rfl, fun w hSw => ?_⟩) (by assumption) ?_
      · (try dsimp only at hSw); go_simp <;> (try (first | rfl | assumption))
      change wpAnyH _ _ _ _ _ _ _ (Act.put _ (some (136 : Nat)) (.bool false)) _
      simp only [Act.put, List.setIfInBounds_toArray, List.set_cons_zero, List.set_cons_succ]
      refine wpAnyH_take (i := 17) (v := (.pointer (some ⟨b19, 3, none⟩))) rfl (by kernel_rfl) (by kernel_rfl) (by kernel_rfl) (fun _ _ _ h => h) (Or.inl ⟨by kernel_rfl, fun w hSw => ?_⟩) (by assumption) ?_
      · (try dsimp only at hSw); go_simp <;> (try (first | rfl | assumption))
      change wpAnyH _ _ _ _ _ _ _ (Act.put _ (some (137 : Nat)) (.pointer (some ⟨b19, 3, none⟩))) _
      simp only [Act.put, List.setIfInBounds_toArray, List.set_cons_zero, List.set_cons_succ]
      refine wpAnyH_take (i := 18) (v := (.slice (some ⟨ga, oa, none⟩) n dx)) rfl (by kernel_rfl) (by kernel_rfl) (by kernel_rfl) (fun _ _ _ h => h) (yields_load_at (by kernel_rfl) 24 (.tmp 137) rfl (.pointer (some ⟨b19, 3, none⟩)) (by simp [Act.eval]) (.slice (some ⟨ga, oa, none⟩) n dx) (fun W hW => load_one' (Tryd.agg_tags W) (hW.m19.cellAt rfl))) (by assumption) ?_
      change wpAnyH _ _ _ _ _ _ _ (Act.put _ (some (138 : Nat)) (.slice (some ⟨ga, oa, none⟩) n dx)) _
      simp only [Act.put, List.setIfInBounds_toArray, List.set_cons_zero, List.set_cons_succ]
      refine wpAnyH_take (i := 19) (v := (.int .i64 (j : Int))) rfl (by kernel_rfl) (by kernel_rfl) (by kernel_rfl) (fun _ _ _ h => h) (Or.inl ⟨by kernel_rfl, fun w hSw => ?_⟩) (by assumption) ?_
      · (try dsimp only at hSw); go_simp <;> (try (first | rfl | assumption))
      change wpAnyH _ _ _ _ _ _ _ (Act.put _ (some (139 : Nat)) (.int .i64 (j : Int))) _
      simp only [Act.put, List.setIfInBounds_toArray, List.set_cons_zero, List.set_cons_succ]
      refine wpAnyH_take (i := 20) (v := (.pointer (some ⟨ga, oa + j * 32, none⟩))) rfl (by kernel_rfl) (by kernel_rfl) (by kernel_rfl) (fun _ _ _ h => h) (Or.inl ⟨by kernel_rfl, fun w hSw => ?_⟩) (by assumption) ?_
      · (try dsimp only at hSw); go_simp <;> (try (first | rfl | assumption))
      change wpAnyH _ _ _ _ _ _ _ (Act.put _ (some (140 : Nat)) (.pointer (some ⟨ga, oa + j * 32, none⟩))) _
      simp only [Act.put, List.setIfInBounds_toArray, List.set_cons_zero, List.set_cons_succ]
      refine wpAnyH_take (i := 21) (v := (.agg q.toArray)) rfl (by kernel_rfl) (by kernel_rfl) (by kernel_rfl) (fun _ _ _ h => h) (yieldsIf_load_mid (by kernel_rfl) 37 (.tmp 140) rfl ga (oa + j * 32) (by simp [Act.eval]) q _ (fun W hW => by rw [HQ.out]; exact VSt.rowx hW (by rw [HTJ.out]; exact tgsK_at hlt)) Tryd.underlying37 rfl (by rw [HQl.out]; kernel_rfl)) (by assumption) ?_
      change wpAnyH _ _ _ _ _ _ _ (Act.put _ (some (141 : Nat)) (.agg q.toArray)) _
      simp only [Act.put, List.setIfInBounds_toArray, List.set_cons_zero, List.set_cons_succ]
      refine wpAnyH_take (i := 22) (v := (.pointer (some ⟨gk, 0, none⟩))) rfl (by kernel_rfl) (by kernel_rfl) (by kernel_rfl) (fun _ _ _ h => h) (Or.inl ⟨by kernel_rfl, fun w hSw => ?_⟩) (by assumption) ?_
      · (try dsimp only at hSw); go_simp <;> (try (first | rfl | assumption))
      change wpAnyH _ _ _ _ _ _ _ (Act.put _ (some (142 : Nat)) (.pointer (some ⟨gk, 0, none⟩))) _
      simp only [Act.put, List.setIfInBounds_toArray, List.set_cons_zero, List.set_cons_succ]
      refine wpAnyH_take (i := 23) (v := (.int .i64 f)) rfl (by kernel_rfl) (by kernel_rfl) (by kernel_rfl) (fun _ _ _ h => h) (Or.inl ⟨by kernel_rfl, fun w hSw => ?_⟩) (by assumption) ?_
      · (try dsimp only at hSw); go_simp <;> (try (first | rfl | assumption))
      change wpAnyH _ _ _ _ _ _ _ (Act.put _ (some (143 : Nat)) (.int .i64 f)) _
      simp only [Act.put, List.setIfInBounds_toArray, List.set_cons_zero, List.set_cons_succ]
      refine wpAnyH_take (i := 24) (v := (.int .i64 tj)) rfl (by kernel_rfl) (by kernel_rfl) (by kernel_rfl) (fun _ _ _ h => h) (Or.inl ⟨by kernel_rfl, fun w hSw => ?_⟩) (by assumption) ?_
      · (try dsimp only at hSw); go_simp <;> (try (first | rfl | assumption))
      change wpAnyH _ _ _ _ _ _ _ (Act.put _ (some (144 : Nat)) (.int .i64 tj)) _
      simp only [Act.put, List.setIfInBounds_toArray, List.set_cons_zero, List.set_cons_succ]
      refine wpAnyH_take (i := 25) (v := (.int .i64 k)) rfl (by kernel_rfl) (by kernel_rfl) (by kernel_rfl) (fun _ _ _ h => h) (Or.inl ⟨by kernel_rfl, fun w hSw => ?_⟩) (by assumption) ?_
      · (try dsimp only at hSw); go_simp <;> (try (first | rfl | assumption))
      change wpAnyH _ _ _ _ _ _ _ (Act.put _ (some (145 : Nat)) (.int .i64 k)) _
      simp only [Act.put, List.setIfInBounds_toArray, List.set_cons_zero, List.set_cons_succ]
      refine wpAnyH_take (i := 26) (v := (.slice B nb cb)) rfl (by kernel_rfl) (by kernel_rfl) (by kernel_rfl) (fun _ _ _ h => h) (Or.inl ⟨by kernel_rfl, fun w hSw => ?_⟩) (by assumption) ?_
      · (try dsimp only at hSw); go_simp <;> (try (first | rfl | assumption))
      change wpAnyH _ _ _ _ _ _ _ (Act.put _ (some (146 : Nat)) (.slice B nb cb)) _
      simp only [Act.put, List.setIfInBounds_toArray, List.set_cons_zero, List.set_cons_succ]
      refine wpAnyH_ready (rs := [27]) (by kernel_rfl) (by simp) ?_
      refine AllReadyH.cons rfl (fun K hK => ?_) AllReadyH.nil
      go_simp
      refine (VSt.rtext (k := k) hHeld (by omega) HTX.out cb).mono ?_
      rintro e wc ⟨Uc, uc, rfl, hyc, hbc⟩
      go_wp2_with fail
      refine hK.out _ _ (hHeld.through hbc) (fun hHeld1 => ?_)
      clear hHeld hK K
      have hHeld := hHeld1
      clear hHeld1
      refine wpAnyH_weaken (S' := fun W => (VSt w w.heap.size gk gb b19 b20 seed (tsV f tx tos n) [.int .i64 k3, .int .i64 f3, .slice B3 nb3 cb3, .slice A3 nt3 ct3] [.int .i64 k, .int .i64 f, .slice Bx nb cx, .slice (some ⟨ga, oa, none⟩) n dx] [.int .i64 k, .int .i64 f, .slice Bz nb cz, .slice Ay n dy] body xs3 tos (tgsK seed f tos tx n) (tgsB f tx tos n) B (some ⟨gr, orr, none⟩) B3 Bx Bz (some ⟨ga, oa, none⟩) Ay nb n nb3 W) ∧ By W (gb < ·) Uc (1 + nb) tx) (fun W h => h.1) _ _ _ _ ?_
      have hHeld2 := And.intro hHeld hyc
      clear hHeld
      have hHeld := hHeld2
      clear hHeld2
      refine wpAnyH_ready (rs := [28]) (by kernel_rfl) (by simp) ?_
      refine AllReadyH.cons rfl (fun K hK => ?_) AllReadyH.nil
      go_simp
      refine (VSt.tagK hHeld.1 HSL.out (by omega) hHeld.2 HQ.out).mono ?_
      rintro e wd ⟨rfl, hsd, hfd⟩
      go_wp2_with fail
      refine hK.out _ _ ⟨hHeld.1.byK hsd hfd, hHeld.2.kf hfd (fun b h => Nat.ne_of_gt (Nat.lt_trans hHeld.1.duo.lt h))⟩ (fun hHeld1 => ?_)
      clear hHeld hK K
      have hHeld := hHeld1
      clear hHeld1
      refine wpAnyH_take (i := 29) (v := (.bool false)) rfl (by kernel_rfl) (by kernel_rfl) (by kernel_rfl) (fun _ _ _ h => h) (Or.inl ⟨by kernel_rfl, fun w hSw => ?_⟩) (by assumption) ?_
      · (try dsimp only at hSw); go_simp <;> (try (first | rfl | assumption))
      change wpAnyH _ _ _ _ _ _ _ (Act.put _ (some (149 : Nat)) (.bool false)) _
      simp only [Act.put, List.setIfInBounds_toArray, List.set_cons_zero, List.set_cons_succ]
      refine wpAnyH_take (i := 30) (v := (.bool false)) rfl (by kernel_rfl) (by kernel_rfl) (by kernel_rfl) (fun _ _ _ h => h) (Or.inl ⟨by kernel_rfl, fun w hSw => ?_⟩) (by assumption) ?_
      · (try dsimp only at hSw); go_simp <;> (try (first | rfl | assumption))
      change wpAnyH _ _ _ _ _ _ _ (Act.put _ (some (150 : Nat)) (.bool false)) _
      simp only [Act.put, List.setIfInBounds_toArray, List.set_cons_zero, List.set_cons_succ]
      refine wpAnyH_done (by kernel_rfl) ?_ _
      have HVz : Hid (VSt w w.heap.size gk gb b19 b20 seed (tsV f tx tos n) [.int .i64 k3, .int .i64 f3, .slice B3 nb3 cb3, .slice A3 nt3 ct3] [.int .i64 k, .int .i64 f, .slice Bx nb cx, .slice (some ⟨ga, oa, none⟩) n dx] [.int .i64 k, .int .i64 f, .slice Bz nb cz, .slice Ay n dy] body xs3 tos (tgsK seed f tos tx n) (tgsB f tx tos n) B (some ⟨gr, orr, none⟩) B3 Bx Bz (some ⟨ga, oa, none⟩) Ay nb n nb3 wd) := Lib.hid hHeld.1
      clear hHeld
      go_wp2
      go_roundw
      case rel => exact ⟨j + 1, by omega, by go_num, HVz.out⟩
      case measure => simp [intOf]; omega
    · have hdj : decide ((j : Int) < (n : Int)) = false := by simp; omega
      by_cases hp : pl < 0
      · as_aux_lemma =>
        have hd1 : decide (pl < 0) = true := decide_eq_true hp
        have HP : Hid (pl < 0 ∨ (n : Int) ≤ pl) := Lib.hid (by omega)
        go_wp2_with (first
          | (refine wpList_load_blk_g 26 (.tmp 19) rfl (by kernel_rfl) b19 rfl 26 [.int .i64 k, .int .i64 f, .slice Bx nb cx, .slice Ax n dx] _ HVr.out.m19 Tryd.underlying26 rfl (by kernel_rfl) ?_)
          | (go_at_call 10; (with_reducible refine (check_out k f who pl Bx nb cx Ax n dx _ HP.out _).mono ?_); rintro e wa ⟨rfl, ha⟩; have HVa := Lib.hid (HVr.out.through ha); clear ha)
          | (refine wpList_load_blk_g 26 (.tmp 20) rfl (by kernel_rfl) b20 rfl 26 [.int .i64 k, .int .i64 f, .slice Bz nb cz, .slice Ay n dy] _ HVa.out.m20 Tryd.underlying26 rfl (by kernel_rfl) ?_)
          | (go_at_call 10; (with_reducible refine (check_out k f who pl Bz nb cz Ay n dy _ HP.out _).mono ?_); rintro e wb ⟨rfl, hb⟩; have HVb := Lib.hid (HVa.out.through hb); clear hb))
        go_ret
        exact ⟨rfl, HVb.out.bel⟩
      by_cases hp2 : (n : Int) ≤ pl
      · as_aux_lemma =>
        have hd1 : decide (pl < 0) = false := decide_eq_false hp
        have hd2 : decide ((n : Int) ≤ pl) = true := decide_eq_true hp2
        have HP : Hid (pl < 0 ∨ (n : Int) ≤ pl) := Lib.hid (by omega)
        go_wp2_with (first
          | (refine wpList_load_blk_g 26 (.tmp 19) rfl (by kernel_rfl) b19 rfl 26 [.int .i64 k, .int .i64 f, .slice Bx nb cx, .slice Ax n dx] _ HVr.out.m19 Tryd.underlying26 rfl (by kernel_rfl) ?_)
          | (go_at_call 10; (with_reducible refine (check_out k f who pl Bx nb cx Ax n dx _ HP.out _).mono ?_); rintro e wa ⟨rfl, ha⟩; have HVa := Lib.hid (HVr.out.through ha); clear ha)
          | (refine wpList_load_blk_g 26 (.tmp 20) rfl (by kernel_rfl) b20 rfl 26 [.int .i64 k, .int .i64 f, .slice Bz nb cz, .slice Ay n dy] _ HVa.out.m20 Tryd.underlying26 rfl (by kernel_rfl) ?_)
          | (go_at_call 10; (with_reducible refine (check_out k f who pl Bz nb cz Ay n dy _ HP.out _).mono ?_); rintro e wb ⟨rfl, hb⟩; have HVb := Lib.hid (HVa.out.through hb); clear hb))
        go_ret
        exact ⟨rfl, HVb.out.bel⟩
      as_aux_lemma =>
        obtain ⟨p, rfl⟩ : ∃ p : Nat, pl = (p : Int) := ⟨pl.toNat, by omega⟩
        have hpn : p < n := by omega
        have hd1 : decide ((p : Int) < 0) = false := by simp
        have hd2 : decide ((n : Int) ≤ (p : Int)) = false := by simp; omega
        obtain ⟨gr, orr, rfl, _, _⟩ := HVr.out.yt.cell (by omega)
        obtain ⟨tj, htj⟩ : ∃ t, t = tos.getD p 0 := ⟨_, rfl⟩
        have HTJ := Lib.hid htj
        obtain ⟨e1, he1⟩ : ∃ e, decide (who = tj) = e := ⟨_, rfl⟩
        have HE1 := Lib.hid he1
        have he2 : decide (tj = who) = e1 := by rw [← he1]; exact decide_eq_decide.2 eq_comm
        have he2' : (tj == who) = e1 := by rw [← he2]; rfl
        obtain ⟨r1, hr1⟩ : ∃ r : Int, r = if e1 then 0 else 12 := ⟨_, rfl⟩
        have HR1 := Lib.hid hr1
        have hrd : decide (r1 = 0) = e1 := by rw [hr1]; cases e1 <;> rfl
        have hrd' : (r1 == 0) = e1 := by rw [hr1]; cases e1 <;> rfl
        clear he1 hr1 htj
        go_wp2
        try dsimp only [Act.put]
        refine wp_region_held_drew (S := fun W => VSt w w.heap.size gk gb b19 b20 seed (tsV f tx tos n) [.int .i64 k3, .int .i64 f3, .slice B3 nb3 cb3, .slice A3 nt3 ct3] [.int .i64 k, .int .i64 f, .slice Bx nb cx, .slice Ax n dx] [.int .i64 k, .int .i64 f, .slice Bz nb cz, .slice Ay n dy] body xs3 tos (tgsK seed f tos tx n) (tgsB f tx tos n) B (some ⟨gr, orr, none⟩) B3 Bx Bz Ax Ay nb n nb3 W) (by kernel_rfl) HVr.out.drew (fun hHeld => ?_)
        change wpAnyH _ _ _ _ _ _ #[false, false, false, false, false, false, false, false, false, false, false, false, false, false] _ _
        refine wpAnyH_take (i := 0) (v := (.pointer (some ⟨gb, 0, none⟩))) rfl (by kernel_rfl) (by kernel_rfl) (by kernel_rfl) (fun _ _ _ h => h) (Or.inl ⟨by kernel_rfl, fun w hSw => ?_⟩) (by assumption) ?_
        · (try dsimp only at hSw); go_simp <;> (try (first | rfl | assumption))
        change wpAnyH _ _ _ _ _ _ _ (Act.put _ (some (176 : Nat)) (.pointer (some ⟨gb, 0, none⟩))) _
        simp only [Act.put, List.setIfInBounds_toArray, List.set_cons_zero, List.set_cons_succ]
        refine wpAnyH_take (i := 1) (v := (.iface 30 (.pointer (some ⟨gb, 0, none⟩)))) rfl (by kernel_rfl) (by kernel_rfl) (by kernel_rfl) (fun _ _ _ h => h) (Or.inl ⟨by kernel_rfl, fun w hSw => ?_⟩) (by assumption) ?_
        · (try dsimp only at hSw); go_simp <;> (try (first | rfl | assumption))
        change wpAnyH _ _ _ _ _ _ _ (Act.put _ (some (177 : Nat)) (.iface 30 (.pointer (some ⟨gb, 0, none⟩)))) _
        simp only [Act.put, List.setIfInBounds_toArray, List.set_cons_zero, List.set_cons_succ]
        refine wpAnyH_take (i := 2) (v := (.agg #[.int .i64 k, .int .i64 f, .slice Bz nb cz, .slice Ay n dy])) rfl (by kernel_rfl) (by kernel_rfl) (by kernel_rfl) (fun _ _ _ h => h) (yields_load_at (by kernel_rfl) 26 (.tmp 20) rfl (.pointer (some ⟨b20, 0, none⟩)) (by simp [Act.eval]) (.agg #[.int .i64 k, .int .i64 f, .slice Bz nb cz, .slice Ay n dy]) (fun W hW => hW.m20.loadAt 26 _ Tryd.underlying26 rfl (by kernel_rfl))) (by assumption) ?_
        change wpAnyH _ _ _ _ _ _ _ (Act.put _ (some (178 : Nat)) (.agg #[.int .i64 k, .int .i64 f, .slice Bz nb cz, .slice Ay n dy])) _
        simp only [Act.put, List.setIfInBounds_toArray, List.set_cons_zero, List.set_cons_succ]
        refine wpAnyH_take (i := 3) (v := (.int .i64 (p : Int))) rfl (by kernel_rfl) (by kernel_rfl) (by kernel_rfl) (fun _ _ _ h => h) (Or.inl ⟨by kernel_rfl, fun w hSw => ?_⟩) (by assumption) ?_
        · (try dsimp only at hSw); go_simp <;> (try (first | rfl | assumption))
        change wpAnyH _ _ _ _ _ _ _ (Act.put _ (some (179 : Nat)) (.int .i64 (p : Int))) _
        simp only [Act.put, List.setIfInBounds_toArray, List.set_cons_zero, List.set_cons_succ]
        refine wpAnyH_take (i := 4) (v := (.int .i64 who)) rfl (by kernel_rfl) (by kernel_rfl) (by kernel_rfl) (fun _ _ _ h => h) (Or.inl ⟨by kernel_rfl, fun w hSw => ?_⟩) (by assumption) ?_
        · (try dsimp only at hSw); go_simp <;> (try (first | rfl | assumption))
        change wpAnyH _ _ _ _ _ _ _ (Act.put _ (some (180 : Nat)) (.int .i64 who)) _
        simp only [Act.put, List.setIfInBounds_toArray, List.set_cons_zero, List.set_cons_succ]
        refine wpAnyH_take (i := 7) (v := (.slice (some ⟨gr, orr, none⟩) n tc)) rfl (by kernel_rfl) (by kernel_rfl) (by kernel_rfl) (fun _ _ _ h => h) (Or.inl ⟨by kernel_rfl, fun w hSw => ?_⟩) (by assumption) ?_
        · (try dsimp only at hSw); go_simp <;> (try (first | rfl | assumption))
        change wpAnyH _ _ _ _ _ _ _ (Act.put _ (some (183 : Nat)) (.slice (some ⟨gr, orr, none⟩) n tc)) _
        simp only [Act.put, List.setIfInBounds_toArray, List.set_cons_zero, List.set_cons_succ]
        refine wpAnyH_take (i := 8) (v := (.int .i64 (p : Int))) rfl (by kernel_rfl) (by kernel_rfl) (by kernel_rfl) (fun _ _ _ h => h) (Or.inl ⟨by kernel_rfl, fun w hSw => ?_⟩) (by assumption) ?_
        · (try dsimp only at hSw); go_simp <;> (try (first | rfl | assumption))
        change wpAnyH _ _ _ _ _ _ _ (Act.put _ (some (184 : Nat)) (.int .i64 (p : Int))) _
        simp only [Act.put, List.setIfInBounds_toArray, List.set_cons_zero, List.set_cons_succ]
        refine wpAnyH_take (i := 9) (v := (.pointer (some ⟨gr, orr + p, none⟩))) rfl (by kernel_rfl) (by kernel_rfl) (by kernel_rfl) (fun _ _ _ h => h) (Or.inl ⟨by kernel_rfl, fun w hSw => ?_⟩) (by assumption) ?_
        · (try dsimp only at hSw); go_simp <;> (try (first | rfl | assumption))
        change wpAnyH _ _ _ _ _ _ _ (Act.put _ (some (185 : Nat)) (.pointer (some ⟨gr, orr + p, none⟩))) _
        simp only [Act.put, List.setIfInBounds_toArray, List.set_cons_zero, List.set_cons_succ]
        refine wpAnyH_take (i := 10) (v := (.int .i64 tj)) rfl (by kernel_rfl) (by kernel_rfl) (by kernel_rfl) (fun _ _ _ h => h) (yields_load_at (by kernel_rfl) 3 (.tmp 185) rfl (.pointer (some ⟨gr, orr + p, none⟩)) (by simp [Act.eval]) (.int .i64 tj) (fun W hW => load_one' (Tryd.agg_int W) (Iv.cellAt hW.yt hpn HTJ.out))) (by assumption) ?_
        change wpAnyH _ _ _ _ _ _ _ (Act.put _ (some (186 : Nat)) (.int .i64 tj)) _
        simp only [Act.put, List.setIfInBounds_toArray, List.set_cons_zero, List.set_cons_succ]
        refine wpAnyH_take (i := 11) (v := (.int .i64 who)) rfl (by kernel_rfl) (by kernel_rfl) (by kernel_rfl) (fun _ _ _ h => h) (Or.inl ⟨by kernel_rfl, fun w hSw => ?_⟩) (by assumption) ?_
        · (try dsimp only at hSw); go_simp <;> (try (first | rfl | assumption))
        change wpAnyH _ _ _ _ _ _ _ (Act.put _ (some (187 : Nat)) (.int .i64 who)) _
        simp only [Act.put, List.setIfInBounds_toArray, List.set_cons_zero, List.set_cons_succ]
        refine wpAnyH_take (i := 12) (v := (.bool e1)) rfl (by kernel_rfl) (by kernel_rfl) (by kernel_rfl) (fun _ _ _ h => h) (Or.inl ⟨by kernel_rfl, fun w hSw => ?_⟩) (by assumption) ?_
        · (try dsimp only at hSw); go_simp <;> (try (first | rfl | assumption))
        change wpAnyH _ _ _ _ _ _ _ (Act.put _ (some (188 : Nat)) (.bool e1)) _
        simp only [Act.put, List.setIfInBounds_toArray, List.set_cons_zero, List.set_cons_succ]
        refine wpAnyH_ready (rs := [5]) (by kernel_rfl) (by simp) ?_
        refine AllReadyH.cons rfl (fun K hK => ?_) AllReadyH.nil
        go_simp
        refine (VSt.ckB hHeld (by omega) (by omega) HTX.out cz dy hpn HTJ.out HE1.out HR1.out).mono ?_
        rintro e wa ⟨rfl, hsa, hfa⟩
        go_wp2_with fail
        refine hK.out _ _ (hHeld.byB hsa hfa) (fun hHeld1 => ?_)
        clear hHeld hK K
        have hHeld := hHeld1
        clear hHeld1
        refine wpAnyH_take (i := 6) (v := (.bool e1)) rfl (by kernel_rfl) (by kernel_rfl) (by kernel_rfl) (fun _ _ _ h => h) (Or.inl ⟨by kernel_rfl, fun w hSw => ?_⟩) (by assumption) ?_
        · (try dsimp only at hSw); go_simp <;> (try (first | rfl | assumption))
        change wpAnyH _ _ _ _ _ _ _ (Act.put _ (some (182 : Nat)) (.bool e1)) _
        simp only [Act.put, List.setIfInBounds_toArray, List.set_cons_zero, List.set_cons_succ]
        refine wpAnyH_take (i := 13) (v := (.bool false)) rfl (by kernel_rfl) (by kernel_rfl) (by kernel_rfl) (fun _ _ _ h => h) (Or.inl ⟨by kernel_rfl, fun w hSw => ?_⟩) (by assumption) ?_
        · (try dsimp only at hSw); go_simp <;> (try (first | rfl | assumption))
        change wpAnyH _ _ _ _ _ _ _ (Act.put _ (some (189 : Nat)) (.bool false)) _
        simp only [Act.put, List.setIfInBounds_toArray, List.set_cons_zero, List.set_cons_succ]
        refine wpAnyH_done (by kernel_rfl) ?_ _
        have HVs : Hid (VSt w w.heap.size gk gb b19 b20 seed (tsV f tx tos n) [.int .i64 k3, .int .i64 f3, .slice B3 nb3 cb3, .slice A3 nt3 ct3] [.int .i64 k, .int .i64 f, .slice Bx nb cx, .slice Ax n dx] [.int .i64 k, .int .i64 f, .slice Bz nb cz, .slice Ay n dy] body xs3 tos (tgsK seed f tos tx n) (tgsB f tx tos n) B (some ⟨gr, orr, none⟩) B3 Bx Bz Ax Ay nb n nb3 wa) := Lib.hid hHeld
        clear hHeld HVr he2 he2' hrd hrd'
        have c203 := HVs.out.m20.cellAt (i := 3) rfl
        have hwk := kb_wrap k
        have hmk := kb_mod k
        have hwk3 := kb_wrap k3
        have hmk3 := kb_mod k3
        obtain ⟨x, hx⟩ : ∃ x, x = kb k := ⟨_, rfl⟩
        obtain ⟨x3, hx3⟩ : ∃ x, x = kb k3 := ⟨_, rfl⟩
        rw [← hx] at hwk hmk
        rw [← hx3] at hwk3 hmk3
        have HXk := Lib.hid hx
        have HXk3 := Lib.hid hx3
        clear hx hx3
        by_cases hk : x3 = x
        · subst hk
          by_cases hf : f3 = f
          · have hf' : f = f3 := hf.symm
            clear hf
            subst hf'
            by_cases hb : xs3 = body
            · as_aux_lemma =>
              have hse := HSe.out
              rw [HE3.out, decide_eq_true hb] at hse
              have HBe := Lib.hid hb
              clear hb
              go_wp2_with (refine wpList_store_cell rfl 24 (.tmp 192) (.tmp 191) rfl w.heap.size 3 rfl (.slice Ay n dy) rfl rfl rfl Tryd.size_tags 26 [.int .i64 k3, .int .i64 f, .slice B3 nb3 cb3, .slice A3 nt3 ct3] HVs.out.m15 (by simp) ?_; intro w9 hb9 ho9; have HE9 : Hid (VEn w w.heap.size gb (tsV f tx tos n) [.int .i64 k3, .int .i64 f, .slice B3 nb3 cb3, .slice Ay n dy] body xs3 tos (tgsB f tx tos n) B (some ⟨gr, orr, none⟩) B3 Ay nb n nb3 w9) := Lib.hid (HVs.out.stored hb9 ho9); have c0 := HE9.out.m15.cellAt (i := 0) rfl; have c1 := HE9.out.m15.cellAt (i := 1) rfl; have c2 := HE9.out.m15.cellAt (i := 2) rfl; have hv3 := HC3.out _ _ B3 cb3 HE9.out.y3; have hvb := HCb.out _ _ B cb HE9.out.yb; clear hb9 ho9)
              try dsimp only [Act.put]
              refine wp_region_held_drew (S := fun W => VEn w w.heap.size gb (tsV f tx tos n) [.int .i64 k3, .int .i64 f, .slice B3 nb3 cb3, .slice Ay n dy] body xs3 tos (tgsB f tx tos n) B (some ⟨gr, orr, none⟩) B3 Ay nb n nb3 W) (by kernel_rfl) HE9.out.drew (fun hHeld => ?_)
              change wpAnyH _ _ _ _ _ _ #[false, false, false, false, false, false, false, false, false, false, false, false, false] _ _
              refine wpAnyH_take (i := 0) (v := (.pointer (some ⟨gb, 0, none⟩))) rfl (by kernel_rfl) (by kernel_rfl) (by kernel_rfl) (fun _ _ _ h => h) (Or.inl ⟨by kernel_rfl, fun w hSw => ?_⟩) (by assumption) ?_
              · (try dsimp only at hSw); go_simp <;> (try (first | rfl | assumption))
              change wpAnyH _ _ _ _ _ _ _ (Act.put _ (some (213 : Nat)) (.pointer (some ⟨gb, 0, none⟩))) _
              simp only [Act.put, List.setIfInBounds_toArray, List.set_cons_zero, List.set_cons_succ]
              refine wpAnyH_take (i := 1) (v := (.iface 30 (.pointer (some ⟨gb, 0, none⟩)))) rfl (by kernel_rfl) (by kernel_rfl) (by kernel_rfl) (fun _ _ _ h => h) (Or.inl ⟨by kernel_rfl, fun w hSw => ?_⟩) (by assumption) ?_
              · (try dsimp only at hSw); go_simp <;> (try (first | rfl | assumption))
              change wpAnyH _ _ _ _ _ _ _ (Act.put _ (some (214 : Nat)) (.iface 30 (.pointer (some ⟨gb, 0, none⟩)))) _
              simp only [Act.put, List.setIfInBounds_toArray, List.set_cons_zero, List.set_cons_succ]
              refine wpAnyH_take (i := 2) (v := (.agg #[.int .i64 k3, .int .i64 f, .slice B3 nb3 cb3, .slice Ay n dy])) rfl (by kernel_rfl) (by kernel_rfl) (by kernel_rfl) (fun _ _ _ h => h) (yields_load_at (by kernel_rfl) 26 (.tmp 15) rfl (.pointer (some ⟨w.heap.size, 0, none⟩)) (by simp [Act.eval]) (.agg #[.int .i64 k3, .int .i64 f, .slice B3 nb3 cb3, .slice Ay n dy]) (fun W hW => hW.m15.loadAt 26 _ Tryd.underlying26 rfl (by kernel_rfl))) (by assumption) ?_
              change wpAnyH _ _ _ _ _ _ _ (Act.put _ (some (215 : Nat)) (.agg #[.int .i64 k3, .int .i64 f, .slice B3 nb3 cb3, .slice Ay n dy])) _
              simp only [Act.put, List.setIfInBounds_toArray, List.set_cons_zero, List.set_cons_succ]
              refine wpAnyH_take (i := 3) (v := (.int .i64 (p : Int))) rfl (by kernel_rfl) (by kernel_rfl) (by kernel_rfl) (fun _ _ _ h => h) (Or.inl ⟨by kernel_rfl, fun w hSw => ?_⟩) (by assumption) ?_
              · (try dsimp only at hSw); go_simp <;> (try (first | rfl | assumption))
              change wpAnyH _ _ _ _ _ _ _ (Act.put _ (some (216 : Nat)) (.int .i64 (p : Int))) _
              simp only [Act.put, List.setIfInBounds_toArray, List.set_cons_zero, List.set_cons_succ]
              refine wpAnyH_take (i := 4) (v := (.slice (some ⟨gr, orr, none⟩) n tc)) rfl (by kernel_rfl) (by kernel_rfl) (by kernel_rfl) (fun _ _ _ h => h) (Or.inl ⟨by kernel_rfl, fun w hSw => ?_⟩) (by assumption) ?_
              · (try dsimp only at hSw); go_simp <;> (try (first | rfl | assumption))
              change wpAnyH _ _ _ _ _ _ _ (Act.put _ (some (217 : Nat)) (.slice (some ⟨gr, orr, none⟩) n tc)) _
              simp only [Act.put, List.setIfInBounds_toArray, List.set_cons_zero, List.set_cons_succ]
              refine wpAnyH_take (i := 5) (v := (.int .i64 (p : Int))) rfl (by kernel_rfl) (by kernel_rfl) (by kernel_rfl) (fun _ _ _ h => h) (Or.inl ⟨by kernel_rfl, fun w hSw => ?_⟩) (by assumption) ?_
              · (try dsimp only at hSw); go_simp <;> (try (first | rfl | assumption))
              change wpAnyH _ _ _ _ _ _ _ (Act.put _ (some (218 : Nat)) (.int .i64 (p : Int))) _
              simp only [Act.put, List.setIfInBounds_toArray, List.set_cons_zero, List.set_cons_succ]
              refine wpAnyH_take (i := 6) (v := (.pointer (some ⟨gr, orr + p, none⟩))) rfl (by kernel_rfl) (by kernel_rfl) (by kernel_rfl) (fun _ _ _ h => h) (Or.inl ⟨by kernel_rfl, fun w hSw => ?_⟩) (by assumption) ?_
              · (try dsimp only at hSw); go_simp <;> (try (first | rfl | assumption))
              change wpAnyH _ _ _ _ _ _ _ (Act.put _ (some (219 : Nat)) (.pointer (some ⟨gr, orr + p, none⟩))) _
              simp only [Act.put, List.setIfInBounds_toArray, List.set_cons_zero, List.set_cons_succ]
              refine wpAnyH_take (i := 7) (v := (.int .i64 tj)) rfl (by kernel_rfl) (by kernel_rfl) (by kernel_rfl) (fun _ _ _ h => h) (yields_load_at (by kernel_rfl) 3 (.tmp 219) rfl (.pointer (some ⟨gr, orr + p, none⟩)) (by simp [Act.eval]) (.int .i64 tj) (fun W hW => load_one' (Tryd.agg_int W) (Iv.cellAt hW.yt hpn HTJ.out))) (by assumption) ?_
              change wpAnyH _ _ _ _ _ _ _ (Act.put _ (some (220 : Nat)) (.int .i64 tj)) _
              simp only [Act.put, List.setIfInBounds_toArray, List.set_cons_zero, List.set_cons_succ]
              refine wpAnyH_take (i := 10) (v := (.bool true)) rfl (by kernel_rfl) (by kernel_rfl) (by kernel_rfl) (fun _ _ _ h => h) (Or.inl ⟨by kernel_rfl, fun w hSw => ?_⟩) (by assumption) ?_
              · (try dsimp only at hSw); go_simp <;> (try (first | rfl | assumption))
              change wpAnyH _ _ _ _ _ _ _ (Act.put _ (some (223 : Nat)) (.bool true)) _
              simp only [Act.put, List.setIfInBounds_toArray, List.set_cons_zero, List.set_cons_succ]
              refine wpAnyH_ready (rs := [8]) (by kernel_rfl) (by simp) ?_
              refine AllReadyH.cons rfl (fun K hK => ?_) AllReadyH.nil
              go_simp
              refine (VEn.ck hHeld (by omega) (by omega) HTX.out cb3 dy hpn HTJ.out (e1 := true) (r := 0) (decide_eq_true ⟨HXk3.out.symm.trans HXk.out, rfl, HBe.out⟩) rfl).mono ?_
              rintro e wb ⟨rfl, hsb, hfb⟩
              go_wp2_with fail
              refine hK.out _ _ (hHeld.byB hsb hfb) (fun hHeld1 => ?_)
              clear hHeld hK K
              have hHeld := hHeld1
              clear hHeld1
              refine wpAnyH_take (i := 9) (v := (.bool true)) rfl (by kernel_rfl) (by kernel_rfl) (by kernel_rfl) (fun _ _ _ h => h) (Or.inl ⟨by kernel_rfl, fun w hSw => ?_⟩) (by assumption) ?_
              · (try dsimp only at hSw); go_simp <;> (try (first | rfl | assumption))
              change wpAnyH _ _ _ _ _ _ _ (Act.put _ (some (222 : Nat)) (.bool true)) _
              simp only [Act.put, List.setIfInBounds_toArray, List.set_cons_zero, List.set_cons_succ]
              refine wpAnyH_take (i := 11) (v := (.bool true)) rfl (by kernel_rfl) (by kernel_rfl) (by kernel_rfl) (fun _ _ _ h => h) (Or.inl ⟨by kernel_rfl, fun w hSw => ?_⟩) (by assumption) ?_
              · (try dsimp only at hSw); go_simp <;> (try (first | rfl | assumption))
              change wpAnyH _ _ _ _ _ _ _ (Act.put _ (some (224 : Nat)) (.bool true)) _
              simp only [Act.put, List.setIfInBounds_toArray, List.set_cons_zero, List.set_cons_succ]
              refine wpAnyH_take (i := 12) (v := (.bool true)) rfl (by kernel_rfl) (by kernel_rfl) (by kernel_rfl) (fun _ _ _ h => h) (Or.inl ⟨by kernel_rfl, fun w hSw => ?_⟩) (by assumption) ?_
              · (try dsimp only at hSw); go_simp <;> (try (first | rfl | assumption))
              change wpAnyH _ _ _ _ _ _ _ (Act.put _ (some (16 : Nat)) (.bool true)) _
              simp only [Act.put, List.setIfInBounds_toArray, List.set_cons_zero, List.set_cons_succ]
              refine wpAnyH_done (by kernel_rfl) ?_ _
              have HF := Lib.hid hHeld
              clear hHeld
              go_wp2
              go_ret
              exact ⟨rfl, HF.out.bel⟩
            · as_aux_lemma =>
              have hse := HSe.out
              rw [HE3.out, decide_eq_false hb] at hse
              have HBe := Lib.hid hb
              clear hb
              go_wp2_with (refine wpList_store_cell rfl 24 (.tmp 192) (.tmp 191) rfl w.heap.size 3 rfl (.slice Ay n dy) rfl rfl rfl Tryd.size_tags 26 [.int .i64 k3, .int .i64 f, .slice B3 nb3 cb3, .slice A3 nt3 ct3] HVs.out.m15 (by simp) ?_; intro w9 hb9 ho9; have HE9 : Hid (VEn w w.heap.size gb (tsV f tx tos n) [.int .i64 k3, .int .i64 f, .slice B3 nb3 cb3, .slice Ay n dy] body xs3 tos (tgsB f tx tos n) B (some ⟨gr, orr, none⟩) B3 Ay nb n nb3 w9) := Lib.hid (HVs.out.stored hb9 ho9); have c0 := HE9.out.m15.cellAt (i := 0) rfl; have c1 := HE9.out.m15.cellAt (i := 1) rfl; have c2 := HE9.out.m15.cellAt (i := 2) rfl; have hv3 := HC3.out _ _ B3 cb3 HE9.out.y3; have hvb := HCb.out _ _ B cb HE9.out.yb; clear hb9 ho9)
              try dsimp only [Act.put]
              refine wp_region_held_drew (S := fun W => VEn w w.heap.size gb (tsV f tx tos n) [.int .i64 k3, .int .i64 f, .slice B3 nb3 cb3, .slice Ay n dy] body xs3 tos (tgsB f tx tos n) B (some ⟨gr, orr, none⟩) B3 Ay nb n nb3 W) (by kernel_rfl) HE9.out.drew (fun hHeld => ?_)
              change wpAnyH _ _ _ _ _ _ #[false, false, false, false, false, false, false, false, false, false, false, false, false] _ _
              refine wpAnyH_take (i := 0) (v := (.pointer (some ⟨gb, 0, none⟩))) rfl (by kernel_rfl) (by kernel_rfl) (by kernel_rfl) (fun _ _ _ h => h) (Or.inl ⟨by kernel_rfl, fun w hSw => ?_⟩) (by assumption) ?_
              · (try dsimp only at hSw); go_simp <;> (try (first | rfl | assumption))
              change wpAnyH _ _ _ _ _ _ _ (Act.put _ (some (213 : Nat)) (.pointer (some ⟨gb, 0, none⟩))) _
              simp only [Act.put, List.setIfInBounds_toArray, List.set_cons_zero, List.set_cons_succ]
              refine wpAnyH_take (i := 1) (v := (.iface 30 (.pointer (some ⟨gb, 0, none⟩)))) rfl (by kernel_rfl) (by kernel_rfl) (by kernel_rfl) (fun _ _ _ h => h) (Or.inl ⟨by kernel_rfl, fun w hSw => ?_⟩) (by assumption) ?_
              · (try dsimp only at hSw); go_simp <;> (try (first | rfl | assumption))
              change wpAnyH _ _ _ _ _ _ _ (Act.put _ (some (214 : Nat)) (.iface 30 (.pointer (some ⟨gb, 0, none⟩)))) _
              simp only [Act.put, List.setIfInBounds_toArray, List.set_cons_zero, List.set_cons_succ]
              refine wpAnyH_take (i := 2) (v := (.agg #[.int .i64 k3, .int .i64 f, .slice B3 nb3 cb3, .slice Ay n dy])) rfl (by kernel_rfl) (by kernel_rfl) (by kernel_rfl) (fun _ _ _ h => h) (yields_load_at (by kernel_rfl) 26 (.tmp 15) rfl (.pointer (some ⟨w.heap.size, 0, none⟩)) (by simp [Act.eval]) (.agg #[.int .i64 k3, .int .i64 f, .slice B3 nb3 cb3, .slice Ay n dy]) (fun W hW => hW.m15.loadAt 26 _ Tryd.underlying26 rfl (by kernel_rfl))) (by assumption) ?_
              change wpAnyH _ _ _ _ _ _ _ (Act.put _ (some (215 : Nat)) (.agg #[.int .i64 k3, .int .i64 f, .slice B3 nb3 cb3, .slice Ay n dy])) _
              simp only [Act.put, List.setIfInBounds_toArray, List.set_cons_zero, List.set_cons_succ]
              refine wpAnyH_take (i := 3) (v := (.int .i64 (p : Int))) rfl (by kernel_rfl) (by kernel_rfl) (by kernel_rfl) (fun _ _ _ h => h) (Or.inl ⟨by kernel_rfl, fun w hSw => ?_⟩) (by assumption) ?_
              · (try dsimp only at hSw); go_simp <;> (try (first | rfl | assumption))
              change wpAnyH _ _ _ _ _ _ _ (Act.put _ (some (216 : Nat)) (.int .i64 (p : Int))) _
              simp only [Act.put, List.setIfInBounds_toArray, List.set_cons_zero, List.set_cons_succ]
              refine wpAnyH_take (i := 4) (v := (.slice (some ⟨gr, orr, none⟩) n tc)) rfl (by kernel_rfl) (by kernel_rfl) (by kernel_rfl) (fun _ _ _ h => h) (Or.inl ⟨by kernel_rfl, fun w hSw => ?_⟩) (by assumption) ?_
              · (try dsimp only at hSw); go_simp <;> (try (first | rfl | assumption))
              change wpAnyH _ _ _ _ _ _ _ (Act.put _ (some (217 : Nat)) (.slice (some ⟨gr, orr, none⟩) n tc)) _
              simp only [Act.put, List.setIfInBounds_toArray, List.set_cons_zero, List.set_cons_succ]
              refine wpAnyH_take (i := 5) (v := (.int .i64 (p : Int))) rfl (by kernel_rfl) (by kernel_rfl) (by kernel_rfl) (fun _ _ _ h => h) (Or.inl ⟨by kernel_rfl, fun w hSw => ?_⟩) (by assumption) ?_
              · (try dsimp only at hSw); go_simp <;> (try (first | rfl | assumption))
              change wpAnyH _ _ _ _ _ _ _ (Act.put _ (some (218 : Nat)) (.int .i64 (p : Int))) _
              simp only [Act.put, List.setIfInBounds_toArray, List.set_cons_zero, List.set_cons_succ]
              refine wpAnyH_take (i := 6) (v := (.pointer (some ⟨gr, orr + p, none⟩))) rfl (by kernel_rfl) (by kernel_rfl) (by kernel_rfl) (fun _ _ _ h => h) (Or.inl ⟨by kernel_rfl, fun w hSw => ?_⟩) (by assumption) ?_
              · (try dsimp only at hSw); go_simp <;> (try (first | rfl | assumption))
              change wpAnyH _ _ _ _ _ _ _ (Act.put _ (some (219 : Nat)) (.pointer (some ⟨gr, orr + p, none⟩))) _
              simp only [Act.put, List.setIfInBounds_toArray, List.set_cons_zero, List.set_cons_succ]
              refine wpAnyH_take (i := 7) (v := (.int .i64 tj)) rfl (by kernel_rfl) (by kernel_rfl) (by kernel_rfl) (fun _ _ _ h => h) (yields_load_at (by kernel_rfl) 3 (.tmp 219) rfl (.pointer (some ⟨gr, orr + p, none⟩)) (by simp [Act.eval]) (.int .i64 tj) (fun W hW => load_one' (Tryd.agg_int W) (Iv.cellAt hW.yt hpn HTJ.out))) (by assumption) ?_
              change wpAnyH _ _ _ _ _ _ _ (Act.put _ (some (220 : Nat)) (.int .i64 tj)) _
              simp only [Act.put, List.setIfInBounds_toArray, List.set_cons_zero, List.set_cons_succ]
              refine wpAnyH_take (i := 10) (v := (.bool false)) rfl (by kernel_rfl) (by kernel_rfl) (by kernel_rfl) (fun _ _ _ h => h) (Or.inl ⟨by kernel_rfl, fun w hSw => ?_⟩) (by assumption) ?_
              · (try dsimp only at hSw); go_simp <;> (try (first | rfl | assumption))
              change wpAnyH _ _ _ _ _ _ _ (Act.put _ (some (223 : Nat)) (.bool false)) _
              simp only [Act.put, List.setIfInBounds_toArray, List.set_cons_zero, List.set_cons_succ]
              refine wpAnyH_ready (rs := [8]) (by kernel_rfl) (by simp) ?_
              refine AllReadyH.cons rfl (fun K hK => ?_) AllReadyH.nil
              go_simp
              refine (VEn.ck hHeld (by omega) (by omega) HTX.out cb3 dy hpn HTJ.out (e1 := false) (r := 12) (decide_eq_false fun h => HBe.out h.2.2) rfl).mono ?_
              rintro e wb ⟨rfl, hsb, hfb⟩
              go_wp2_with fail
              refine hK.out _ _ (hHeld.byB hsb hfb) (fun hHeld1 => ?_)
              clear hHeld hK K
              have hHeld := hHeld1
              clear hHeld1
              refine wpAnyH_take (i := 9) (v := (.bool false)) rfl (by kernel_rfl) (by kernel_rfl) (by kernel_rfl) (fun _ _ _ h => h) (Or.inl ⟨by kernel_rfl, fun w hSw => ?_⟩) (by assumption) ?_
              · (try dsimp only at hSw); go_simp <;> (try (first | rfl | assumption))
              change wpAnyH _ _ _ _ _ _ _ (Act.put _ (some (222 : Nat)) (.bool false)) _
              simp only [Act.put, List.setIfInBounds_toArray, List.set_cons_zero, List.set_cons_succ]
              refine wpAnyH_take (i := 11) (v := (.bool true)) rfl (by kernel_rfl) (by kernel_rfl) (by kernel_rfl) (fun _ _ _ h => h) (Or.inl ⟨by kernel_rfl, fun w hSw => ?_⟩) (by assumption) ?_
              · (try dsimp only at hSw); go_simp <;> (try (first | rfl | assumption))
              change wpAnyH _ _ _ _ _ _ _ (Act.put _ (some (224 : Nat)) (.bool true)) _
              simp only [Act.put, List.setIfInBounds_toArray, List.set_cons_zero, List.set_cons_succ]
              refine wpAnyH_take (i := 12) (v := (.bool true)) rfl (by kernel_rfl) (by kernel_rfl) (by kernel_rfl) (fun _ _ _ h => h) (Or.inl ⟨by kernel_rfl, fun w hSw => ?_⟩) (by assumption) ?_
              · (try dsimp only at hSw); go_simp <;> (try (first | rfl | assumption))
              change wpAnyH _ _ _ _ _ _ _ (Act.put _ (some (16 : Nat)) (.bool true)) _
              simp only [Act.put, List.setIfInBounds_toArray, List.set_cons_zero, List.set_cons_succ]
              refine wpAnyH_done (by kernel_rfl) ?_ _
              have HF := Lib.hid hHeld
              clear hHeld
              go_wp2
              go_ret
              exact ⟨rfl, HF.out.bel⟩
          · as_aux_lemma =>
            have HEC : Hid (decide (kb k3 = kb k ∧ f3 = f ∧ xs3 = body) = false) := Lib.hid (decide_eq_false fun h => hf h.2.1)
            go_wp2_with (refine wpList_store_cell rfl 24 (.tmp 192) (.tmp 191) rfl w.heap.size 3 rfl (.slice Ay n dy) rfl rfl rfl Tryd.size_tags 26 [.int .i64 k3, .int .i64 f3, .slice B3 nb3 cb3, .slice A3 nt3 ct3] HVs.out.m15 (by simp) ?_; intro w9 hb9 ho9; have HE9 : Hid (VEn w w.heap.size gb (tsV f tx tos n) [.int .i64 k3, .int .i64 f3, .slice B3 nb3 cb3, .slice Ay n dy] body xs3 tos (tgsB f tx tos n) B (some ⟨gr, orr, none⟩) B3 Ay nb n nb3 w9) := Lib.hid (HVs.out.stored hb9 ho9); have c0 := HE9.out.m15.cellAt (i := 0) rfl; have c1 := HE9.out.m15.cellAt (i := 1) rfl; have c2 := HE9.out.m15.cellAt (i := 2) rfl; have hv3 := HC3.out _ _ B3 cb3 HE9.out.y3; have hvb := HCb.out _ _ B cb HE9.out.yb; clear hb9 ho9)
            try any_goals (exfalso; apply hf; assumption)
            try dsimp only [Act.put]
            refine wp_region_held_drew (S := fun W => VEn w w.heap.size gb (tsV f tx tos n) [.int .i64 k3, .int .i64 f3, .slice B3 nb3 cb3, .slice Ay n dy] body xs3 tos (tgsB f tx tos n) B (some ⟨gr, orr, none⟩) B3 Ay nb n nb3 W) (by kernel_rfl) HE9.out.drew (fun hHeld => ?_)
            change wpAnyH _ _ _ _ _ _ #[false, false, false, false, false, false, false, false, false, false, false, false, false] _ _
            refine wpAnyH_take (i := 0) (v := (.pointer (some ⟨gb, 0, none⟩))) rfl (by kernel_rfl) (by kernel_rfl) (by kernel_rfl) (fun _ _ _ h => h) (Or.inl ⟨by kernel_rfl, fun w hSw => ?_⟩) (by assumption) ?_
            · (try dsimp only at hSw); go_simp <;> (try (first | rfl | assumption))
            change wpAnyH _ _ _ _ _ _ _ (Act.put _ (some (213 : Nat)) (.pointer (some ⟨gb, 0, none⟩))) _
            simp only [Act.put, List.setIfInBounds_toArray, List.set_cons_zero, List.set_cons_succ]
            refine wpAnyH_take (i := 1) (v := (.iface 30 (.pointer (some ⟨gb, 0, none⟩)))) rfl (by kernel_rfl) (by kernel_rfl) (by kernel_rfl) (fun _ _ _ h => h) (Or.inl ⟨by kernel_rfl, fun w hSw => ?_⟩) (by assumption) ?_
            · (try dsimp only at hSw); go_simp <;> (try (first | rfl | assumption))
            change wpAnyH _ _ _ _ _ _ _ (Act.put _ (some (214 : Nat)) (.iface 30 (.pointer (some ⟨gb, 0, none⟩)))) _
            simp only [Act.put, List.setIfInBounds_toArray, List.set_cons_zero, List.set_cons_succ]
            refine wpAnyH_take (i := 2) (v := (.agg #[.int .i64 k3, .int .i64 f3, .slice B3 nb3 cb3, .slice Ay n dy])) rfl (by kernel_rfl) (by kernel_rfl) (by kernel_rfl) (fun _ _ _ h => h) (yields_load_at (by kernel_rfl) 26 (.tmp 15) rfl (.pointer (some ⟨w.heap.size, 0, none⟩)) (by simp [Act.eval]) (.agg #[.int .i64 k3, .int .i64 f3, .slice B3 nb3 cb3, .slice Ay n dy]) (fun W hW => hW.m15.loadAt 26 _ Tryd.underlying26 rfl (by kernel_rfl))) (by assumption) ?_
            change wpAnyH _ _ _ _ _ _ _ (Act.put _ (some (215 : Nat)) (.agg #[.int .i64 k3, .int .i64 f3, .slice B3 nb3 cb3, .slice Ay n dy])) _
            simp only [Act.put, List.setIfInBounds_toArray, List.set_cons_zero, List.set_cons_succ]
            refine wpAnyH_take (i := 3) (v := (.int .i64 (p : Int))) rfl (by kernel_rfl) (by kernel_rfl) (by kernel_rfl) (fun _ _ _ h => h) (Or.inl ⟨by kernel_rfl, fun w hSw => ?_⟩) (by assumption) ?_
            · (try dsimp only at hSw); go_simp <;> (try (first | rfl | assumption))
            change wpAnyH _ _ _ _ _ _ _ (Act.put _ (some (216 : Nat)) (.int .i64 (p : Int))) _
            simp only [Act.put, List.setIfInBounds_toArray, List.set_cons_zero, List.set_cons_succ]
            refine wpAnyH_take (i := 4) (v := (.slice (some ⟨gr, orr, none⟩) n tc)) rfl (by kernel_rfl) (by kernel_rfl) (by kernel_rfl) (fun _ _ _ h => h) (Or.inl ⟨by kernel_rfl, fun w hSw => ?_⟩) (by assumption) ?_
            · (try dsimp only at hSw); go_simp <;> (try (first | rfl | assumption))
            change wpAnyH _ _ _ _ _ _ _ (Act.put _ (some (217 : Nat)) (.slice (some ⟨gr, orr, none⟩) n tc)) _
            simp only [Act.put, List.setIfInBounds_toArray, List.set_cons_zero, List.set_cons_succ]
            refine wpAnyH_take (i := 5) (v := (.int .i64 (p : Int))) rfl (by kernel_rfl) (by kernel_rfl) (by kernel_rfl) (fun _ _ _ h => h) (Or.inl ⟨by kernel_rfl, fun w hSw => ?_⟩) (by assumption) ?_
            · (try dsimp only at hSw); go_simp <;> (try (first | rfl | assumption))
            change wpAnyH _ _ _ _ _ _ _ (Act.put _ (some (218 : Nat)) (.int .i64 (p : Int))) _
            simp only [Act.put, List.setIfInBounds_toArray, List.set_cons_zero, List.set_cons_succ]
            refine wpAnyH_take (i := 6) (v := (.pointer (some ⟨gr, orr + p, none⟩))) rfl (by kernel_rfl) (by kernel_rfl) (by kernel_rfl) (fun _ _ _ h => h) (Or.inl ⟨by kernel_rfl, fun w hSw => ?_⟩) (by assumption) ?_
            · (try dsimp only at hSw); go_simp <;> (try (first | rfl | assumption))
            change wpAnyH _ _ _ _ _ _ _ (Act.put _ (some (219 : Nat)) (.pointer (some ⟨gr, orr + p, none⟩))) _
            simp only [Act.put, List.setIfInBounds_toArray, List.set_cons_zero, List.set_cons_succ]
            refine wpAnyH_take (i := 7) (v := (.int .i64 tj)) rfl (by kernel_rfl) (by kernel_rfl) (by kernel_rfl) (fun _ _ _ h => h) (yields_load_at (by kernel_rfl) 3 (.tmp 219) rfl (.pointer (some ⟨gr, orr + p, none⟩)) (by simp [Act.eval]) (.int .i64 tj) (fun W hW => load_one' (Tryd.agg_int W) (Iv.cellAt hW.yt hpn HTJ.out))) (by assumption) ?_
            change wpAnyH _ _ _ _ _ _ _ (Act.put _ (some (220 : Nat)) (.int .i64 tj)) _
            simp only [Act.put, List.setIfInBounds_toArray, List.set_cons_zero, List.set_cons_succ]
            refine wpAnyH_take (i := 10) (v := (.bool false)) rfl (by kernel_rfl) (by kernel_rfl) (by kernel_rfl) (fun _ _ _ h => h) (Or.inl ⟨by kernel_rfl, fun w hSw => ?_⟩) (by assumption) ?_
            · (try dsimp only at hSw); go_simp <;> (try (first | rfl | assumption))
            change wpAnyH _ _ _ _ _ _ _ (Act.put _ (some (223 : Nat)) (.bool false)) _
            simp only [Act.put, List.setIfInBounds_toArray, List.set_cons_zero, List.set_cons_succ]
            refine wpAnyH_ready (rs := [8]) (by kernel_rfl) (by simp) ?_
            refine AllReadyH.cons rfl (fun K hK => ?_) AllReadyH.nil
            go_simp
            refine (VEn.ck hHeld (by omega) (by omega) HTX.out cb3 dy hpn HTJ.out (e1 := false) (r := 12) HEC.out rfl).mono ?_
            rintro e wb ⟨rfl, hsb, hfb⟩
            go_wp2_with fail
            refine hK.out _ _ (hHeld.byB hsb hfb) (fun hHeld1 => ?_)
            clear hHeld hK K
            have hHeld := hHeld1
            clear hHeld1
            refine wpAnyH_take (i := 9) (v := (.bool false)) rfl (by kernel_rfl) (by kernel_rfl) (by kernel_rfl) (fun _ _ _ h => h) (Or.inl ⟨by kernel_rfl, fun w hSw => ?_⟩) (by assumption) ?_
            · (try dsimp only at hSw); go_simp <;> (try (first | rfl | assumption))
            change wpAnyH _ _ _ _ _ _ _ (Act.put _ (some (222 : Nat)) (.bool false)) _
            simp only [Act.put, List.setIfInBounds_toArray, List.set_cons_zero, List.set_cons_succ]
            refine wpAnyH_take (i := 11) (v := (.bool true)) rfl (by kernel_rfl) (by kernel_rfl) (by kernel_rfl) (fun _ _ _ h => h) (Or.inl ⟨by kernel_rfl, fun w hSw => ?_⟩) (by assumption) ?_
            · (try dsimp only at hSw); go_simp <;> (try (first | rfl | assumption))
            change wpAnyH _ _ _ _ _ _ _ (Act.put _ (some (224 : Nat)) (.bool true)) _
            simp only [Act.put, List.setIfInBounds_toArray, List.set_cons_zero, List.set_cons_succ]
            refine wpAnyH_take (i := 12) (v := (.bool true)) rfl (by kernel_rfl) (by kernel_rfl) (by kernel_rfl) (fun _ _ _ h => h) (Or.inl ⟨by kernel_rfl, fun w hSw => ?_⟩) (by assumption) ?_
            · (try dsimp only at hSw); go_simp <;> (try (first | rfl | assumption))
            change wpAnyH _ _ _ _ _ _ _ (Act.put _ (some (16 : Nat)) (.bool true)) _
            simp only [Act.put, List.setIfInBounds_toArray, List.set_cons_zero, List.set_cons_succ]
            refine wpAnyH_done (by kernel_rfl) ?_ _
            have HF := Lib.hid hHeld
            clear hHeld
            go_wp2
            go_ret
            exact ⟨rfl, HF.out.bel⟩
        · as_aux_lemma =>
          have hk2 : ¬ (x3.toNat : Int) = (x.toNat : Int) := fun h => hk (UInt8.toNat_inj.1 (Int.ofNat_inj.1 h))
          have hk3 : ¬ x3.toNat = x.toNat := fun h => hk (UInt8.toNat_inj.1 h)
          have HEC : Hid (decide (kb k3 = kb k ∧ f3 = f ∧ xs3 = body) = false) := Lib.hid (decide_eq_false fun h => hk (HXk3.out.trans (h.1.trans HXk.out.symm)))
          go_wp2_with (refine wpList_store_cell rfl 24 (.tmp 192) (.tmp 191) rfl w.heap.size 3 rfl (.slice Ay n dy) rfl rfl rfl Tryd.size_tags 26 [.int .i64 k3, .int .i64 f3, .slice B3 nb3 cb3, .slice A3 nt3 ct3] HVs.out.m15 (by simp) ?_; intro w9 hb9 ho9; have HE9 : Hid (VEn w w.heap.size gb (tsV f tx tos n) [.int .i64 k3, .int .i64 f3, .slice B3 nb3 cb3, .slice Ay n dy] body xs3 tos (tgsB f tx tos n) B (some ⟨gr, orr, none⟩) B3 Ay nb n nb3 w9) := Lib.hid (HVs.out.stored hb9 ho9); have c0 := HE9.out.m15.cellAt (i := 0) rfl; have c1 := HE9.out.m15.cellAt (i := 1) rfl; have c2 := HE9.out.m15.cellAt (i := 2) rfl; have hv3 := HC3.out _ _ B3 cb3 HE9.out.y3; have hvb := HCb.out _ _ B cb HE9.out.yb; clear hb9 ho9)
          try any_goals (first | (exfalso; apply hk; assumption) | (exfalso; apply hk2; assumption) | (exfalso; apply hk3; assumption))
          try dsimp only [Act.put]
          refine wp_region_held_drew (S := fun W => VEn w w.heap.size gb (tsV f tx tos n) [.int .i64 k3, .int .i64 f3, .slice B3 nb3 cb3, .slice Ay n dy] body xs3 tos (tgsB f tx tos n) B (some ⟨gr, orr, none⟩) B3 Ay nb n nb3 W) (by kernel_rfl) HE9.out.drew (fun hHeld => ?_)
          change wpAnyH _ _ _ _ _ _ #[false, false, false, false, false, false, false, false, false, false, false, false, false] _ _
          refine wpAnyH_take (i := 0) (v := (.pointer (some ⟨gb, 0, none⟩))) rfl (by kernel_rfl) (by kernel_rfl) (by kernel_rfl) (fun _ _ _ h => h) (Or.inl ⟨by kernel_rfl, fun w hSw => ?_⟩) (by assumption) ?_
          · (try dsimp only at hSw); go_simp <;> (try (first | rfl | assumption))
          change wpAnyH _ _ _ _ _ _ _ (Act.put _ (some (213 : Nat)) (.pointer (some ⟨gb, 0, none⟩))) _
          simp only [Act.put, List.setIfInBounds_toArray, List.set_cons_zero, List.set_cons_succ]
          refine wpAnyH_take (i := 1) (v := (.iface 30 (.pointer (some ⟨gb, 0, none⟩)))) rfl (by kernel_rfl) (by kernel_rfl) (by kernel_rfl) (fun _ _ _ h => h) (Or.inl ⟨by kernel_rfl, fun w hSw => ?_⟩) (by assumption) ?_
          · (try dsimp only at hSw); go_simp <;> (try (first | rfl | assumption))
          change wpAnyH _ _ _ _ _ _ _ (Act.put _ (some (214 : Nat)) (.iface 30 (.pointer (some ⟨gb, 0, none⟩)))) _
          simp only [Act.put, List.setIfInBounds_toArray, List.set_cons_zero, List.set_cons_succ]
          refine wpAnyH_take (i := 2) (v := (.agg #[.int .i64 k3, .int .i64 f3, .slice B3 nb3 cb3, .slice Ay n dy])) rfl (by kernel_rfl) (by kernel_rfl) (by kernel_rfl) (fun _ _ _ h => h) (yields_load_at (by kernel_rfl) 26 (.tmp 15) rfl (.pointer (some ⟨w.heap.size, 0, none⟩)) (by simp [Act.eval]) (.agg #[.int .i64 k3, .int .i64 f3, .slice B3 nb3 cb3, .slice Ay n dy]) (fun W hW => hW.m15.loadAt 26 _ Tryd.underlying26 rfl (by kernel_rfl))) (by assumption) ?_
          change wpAnyH _ _ _ _ _ _ _ (Act.put _ (some (215 : Nat)) (.agg #[.int .i64 k3, .int .i64 f3, .slice B3 nb3 cb3, .slice Ay n dy])) _
          simp only [Act.put, List.setIfInBounds_toArray, List.set_cons_zero, List.set_cons_succ]
          refine wpAnyH_take (i := 3) (v := (.int .i64 (p : Int))) rfl (by kernel_rfl) (by kernel_rfl) (by kernel_rfl) (fun _ _ _ h => h) (Or.inl ⟨by kernel_rfl, fun w hSw => ?_⟩) (by assumption) ?_
          · (try dsimp only at hSw); go_simp <;> (try (first | rfl | assumption))
          change wpAnyH _ _ _ _ _ _ _ (Act.put _ (some (216 : Nat)) (.int .i64 (p : Int))) _
          simp only [Act.put, List.setIfInBounds_toArray, List.set_cons_zero, List.set_cons_succ]
          refine wpAnyH_take (i := 4) (v := (.slice (some ⟨gr, orr, none⟩) n tc)) rfl (by kernel_rfl) (by kernel_rfl) (by kernel_rfl) (fun _ _ _ h => h) (Or.inl ⟨by kernel_rfl, fun w hSw => ?_⟩) (by assumption) ?_
          · (try dsimp only at hSw); go_simp <;> (try (first | rfl | assumption))
          change wpAnyH _ _ _ _ _ _ _ (Act.put _ (some (217 : Nat)) (.slice (some ⟨gr, orr, none⟩) n tc)) _
          simp only [Act.put, List.setIfInBounds_toArray, List.set_cons_zero, List.set_cons_succ]
          refine wpAnyH_take (i := 5) (v := (.int .i64 (p : Int))) rfl (by kernel_rfl) (by kernel_rfl) (by kernel_rfl) (fun _ _ _ h => h) (Or.inl ⟨by kernel_rfl, fun w hSw => ?_⟩) (by assumption) ?_
          · (try dsimp only at hSw); go_simp <;> (try (first | rfl | assumption))
          change wpAnyH _ _ _ _ _ _ _ (Act.put _ (some (218 : Nat)) (.int .i64 (p : Int))) _
          simp only [Act.put, List.setIfInBounds_toArray, List.set_cons_zero, List.set_cons_succ]
          refine wpAnyH_take (i := 6) (v := (.pointer (some ⟨gr, orr + p, none⟩))) rfl (by kernel_rfl) (by kernel_rfl) (by kernel_rfl) (fun _ _ _ h => h) (Or.inl ⟨by kernel_rfl, fun w hSw => ?_⟩) (by assumption) ?_
          · (try dsimp only at hSw); go_simp <;> (try (first | rfl | assumption))
          change wpAnyH _ _ _ _ _ _ _ (Act.put _ (some (219 : Nat)) (.pointer (some ⟨gr, orr + p, none⟩))) _
          simp only [Act.put, List.setIfInBounds_toArray, List.set_cons_zero, List.set_cons_succ]
          refine wpAnyH_take (i := 7) (v := (.int .i64 tj)) rfl (by kernel_rfl) (by kernel_rfl) (by kernel_rfl) (fun _ _ _ h => h) (yields_load_at (by kernel_rfl) 3 (.tmp 219) rfl (.pointer (some ⟨gr, orr + p, none⟩)) (by simp [Act.eval]) (.int .i64 tj) (fun W hW => load_one' (Tryd.agg_int W) (Iv.cellAt hW.yt hpn HTJ.out))) (by assumption) ?_
          change wpAnyH _ _ _ _ _ _ _ (Act.put _ (some (220 : Nat)) (.int .i64 tj)) _
          simp only [Act.put, List.setIfInBounds_toArray, List.set_cons_zero, List.set_cons_succ]
          refine wpAnyH_take (i := 10) (v := (.bool false)) rfl (by kernel_rfl) (by kernel_rfl) (by kernel_rfl) (fun _ _ _ h => h) (Or.inl ⟨by kernel_rfl, fun w hSw => ?_⟩) (by assumption) ?_
          · (try dsimp only at hSw); go_simp <;> (try (first | rfl | assumption))
          change wpAnyH _ _ _ _ _ _ _ (Act.put _ (some (223 : Nat)) (.bool false)) _
          simp only [Act.put, List.setIfInBounds_toArray, List.set_cons_zero, List.set_cons_succ]
          refine wpAnyH_ready (rs := [8]) (by kernel_rfl) (by simp) ?_
          refine AllReadyH.cons rfl (fun K hK => ?_) AllReadyH.nil
          go_simp
          refine (VEn.ck hHeld (by omega) (by omega) HTX.out cb3 dy hpn HTJ.out (e1 := false) (r := 12) HEC.out rfl).mono ?_
          rintro e wb ⟨rfl, hsb, hfb⟩
          go_wp2_with fail
          refine hK.out _ _ (hHeld.byB hsb hfb) (fun hHeld1 => ?_)
          clear hHeld hK K
          have hHeld := hHeld1
          clear hHeld1
          refine wpAnyH_take (i := 9) (v := (.bool false)) rfl (by kernel_rfl) (by kernel_rfl) (by kernel_rfl) (fun _ _ _ h => h) (Or.inl ⟨by kernel_rfl, fun w hSw => ?_⟩) (by assumption) ?_
          · (try dsimp only at hSw); go_simp <;> (try (first | rfl | assumption))
          change wpAnyH _ _ _ _ _ _ _ (Act.put _ (some (222 : Nat)) (.bool false)) _
          simp only [Act.put, List.setIfInBounds_toArray, List.set_cons_zero, List.set_cons_succ]
          refine wpAnyH_take (i := 11) (v := (.bool true)) rfl (by kernel_rfl) (by kernel_rfl) (by kernel_rfl) (fun _ _ _ h => h) (Or.inl ⟨by kernel_rfl, fun w hSw => ?_⟩) (by assumption) ?_
          · (try dsimp only at hSw); go_simp <;> (try (first | rfl | assumption))
          change wpAnyH _ _ _ _ _ _ _ (Act.put _ (some (224 : Nat)) (.bool true)) _
          simp only [Act.put, List.setIfInBounds_toArray, List.set_cons_zero, List.set_cons_succ]
          refine wpAnyH_take (i := 12) (v := (.bool true)) rfl (by kernel_rfl) (by kernel_rfl) (by kernel_rfl) (fun _ _ _ h => h) (Or.inl ⟨by kernel_rfl, fun w hSw => ?_⟩) (by assumption) ?_
          · (try dsimp only at hSw); go_simp <;> (try (first | rfl | assumption))
          change wpAnyH _ _ _ _ _ _ _ (Act.put _ (some (16 : Nat)) (.bool true)) _
          simp only [Act.put, List.setIfInBounds_toArray, List.set_cons_zero, List.set_cons_succ]
          refine wpAnyH_done (by kernel_rfl) ?_ _
          have HF := Lib.hid hHeld
          clear hHeld
          go_wp2
          go_ret
          exact ⟨rfl, HF.out.bel⟩

theorem vsig_any (k f pl who k3 f3 : Int) (seed body xs3 : List UInt8) (tos : List Int) (SA B T B3 A3 : Option Addr) (ns sc nb cb n tc nb3 cb3 nt3 ct3 : Nat) (w : World) (hT : Tab w) (hys : By w (fun _ => True) SA ns seed) (hyb : By w (fun _ => True) B nb body) (hyt : Iv w (fun _ => True) T n tos) (hy3 : By w (fun _ => True) B3 nb3 xs3) : Calls Tryd.prog 3 #[.slice SA ns sc, .int .i64 k, .int .i64 f, .slice B nb cb, .slice T n tc, .int .i64 pl, .int .i64 who, .agg #[.int .i64 k3, .int .i64 f3, .slice B3 nb3 cb3, .slice A3 nt3 ct3]] w fun e w' => e = .returned (.bool true) ∧ Below w.heap.size w w' := by
  by_cases h1 : ns ≤ 50
  · by_cases h2 : nb ≤ 100
    · by_cases h3 : n ≤ 10
      · by_cases h4 : nb3 ≤ 100
        · by_cases h5 : nt3 ≤ 20
          · exact vsig_near k f pl who k3 f3 seed body xs3 tos SA B T B3 A3 ns sc nb cb n tc nb3 cb3 nt3 ct3 w hT hys hyb hyt hy3 h1 h2 h3 h4 h5
          · exact vsig_far_nt3 k f pl who k3 f3 SA B T B3 A3 ns sc nb cb n tc nb3 cb3 nt3 ct3 w h1 h2 h3 h4 (by omega)
        · exact vsig_far_nb3 k f pl who k3 f3 SA B T B3 A3 ns sc nb cb n tc nb3 cb3 nt3 ct3 w h1 h2 h3 (by omega)
      · exact vsig_far_n k f pl who k3 f3 SA B T B3 A3 ns sc nb cb n tc nb3 cb3 nt3 ct3 w h1 h2 (by omega)
    · exact vsig_far_nb k f pl who k3 f3 SA B T B3 A3 ns sc nb cb n tc nb3 cb3 nt3 ct3 w h1 (by omega)
  · exact vsig_far_ns k f pl who k3 f3 SA B T B3 A3 ns sc nb cb n tc nb3 cb3 nt3 ct3 w (by omega)

end Go.Proofs.YtnncfhkgcaoomaaDoor
