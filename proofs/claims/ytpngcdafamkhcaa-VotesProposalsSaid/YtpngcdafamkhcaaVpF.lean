/-
  The law's fixed calls of layer 17.
-/
import Derived.Test.YtpngcdafamkhcaaVpDr
import Derived.Test.YtpngcdafamkhcaaVoL0
namespace Go.Proofs.Ytpngcdafamkhcaa
open Go.RowKit


def dF : List UInt8 := [3, 0, 0, 0, 0, 0, 0, 0, 0, 0, 0, 0, 0, 0, 0, 0, 0, 0, 0, 0, 0, 0, 0, 0, 0, 0, 0, 0, 0, 0, 0, 0]
def vF : Vo := ⟨1, 2, dF⟩
def rF : Re := ⟨0, 9, 1, 0⟩
theorem dF_len : dF.length = 32 := rfl
theorem encvF_len : (encVo vF).length = 48 := by kernel_rfl
theorem parsevF : parseVo (encVo vF) = (vF, 0) := by kernel_rfl
theorem parseno : parseVo [] = (Vo.no, 2) := by kernel_rfl
theorem parserF : parseRe (encRe rF) 4 = (Re.no, 5) := by kernel_rfl
theorem encrF_len : (encRe rF).length = 18 := by kernel_rfl
theorem Try.build_dF (w : World) : (Instr.build 41 #[(0, .int .u8 3)]).run Try.prog w = .ok (.agg (vs dF).toArray) w := by kernel_rfl
set_option maxHeartbeats 32000000 in
set_option maxRecDepth 100000 in
theorem fixedv_any : FixedV := by
  intro w
  obtain ⟨d, hd⟩ : ∃ d, dF = d := ⟨_, rfl⟩
  have hbd := Try.build_dF
  have hbv := fun (W : World) => Try.build_vo 1 2 dF dF_len W
  obtain ⟨X, hX⟩ : ∃ X, vF = X := ⟨_, rfl⟩
  have hbv : ∀ W : World, (Instr.build 43 #[(0, .int .i64 1), (1, .int .i64 2), (2, .agg (vs d).toArray)]).run Try.prog W = .ok (.agg (Vo.cells X).toArray) W := fun W => by rw [← hd, ← hX]; exact hbv W
  rw [hd] at hbd
  have HCL : Hid ((Vo.cells X).length = 34) := Lib.hid (by rw [← hX]; exact Vo.cells_len _ dF_len)
  obtain ⟨EV, hEV⟩ : ∃ E, encVo vF = E := ⟨_, rfl⟩
  have HEL : Hid (EV.length = 48) := Lib.hid (by rw [← hEV]; exact encvF_len)
  have HVo : Hid (∀ W : World, Calls Try.prog 13 #[.agg (Vo.cells X).toArray] W (Byt W EV)) := Lib.hid (fun W => by rw [← hX, ← hEV]; exact vvote_any vF W dF_len)
  have HPV : Hid (∀ (A : Option Addr) (c : Nat) (W : World), By W (fun _ => True) A 48 EV → Calls Try.prog 14 #[.slice A 48 c] W (Told W (Vo.cells X) 0)) := Lib.hid (fun A c W h => by
    have h9 := vparse_vo EV A 48 c W h (by omega)
    rw [← hEV, parsevF, hX] at h9
    exact h9)
  have HPN : Hid (∀ (W : World), Calls Try.prog 14 #[.slice none 0 0] W (Told W (Vo.cells Vo.no) 2)) := Lib.hid (fun W => by
    have h9 := vparse_vo [] none 0 0 W By.none_ (by omega)
    rw [parseno] at h9
    exact h9)
  obtain ⟨ER', hER⟩ : ∃ E, encRe rF = E := ⟨_, rfl⟩
  have HRe : Hid (∀ W : World, Calls Try.prog 16 #[.agg #[.int .i64 0, .int .i64 9, .int .i64 1, .int .i64 0]] W (Byt W ER')) := Lib.hid (fun W => by rw [← hER]; exact vreply_any rF W)
  have HPR : Hid (∀ (A : Option Addr) (n c : Nat) (W : World), By W (fun _ => True) A n ER' → Calls Try.prog 15 #[.slice A n c, .int .i64 4] W (Told W (Re.cells Re.no) 5)) := Lib.hid (fun A n c W h => by
    have h9 := vparse_re ER' 4 A n c W h (by rw [← h.len, ← hER, encrF_len]; omega)
    rw [← hER, parserF] at h9
    exact h9)
  have heq := fun (W : World) => eq_vo X (by rw [← hX]; exact dF_len) W
  clear hd hX hEV hER
  go_enter Try.func4, Try.ntmps4
  go_wp2_with (first
    | (refine wpList_build_to rfl 41 _ rfl [(0, .int .u8 3)] rfl (.agg (vs d).toArray) (hbd _) ?_)
    | (refine wpList_build_to rfl 43 _ rfl [(0, .int .i64 1), (1, .int .i64 2), (2, .agg (vs d).toArray)] rfl (.agg (Vo.cells X).toArray) (hbv _) ?_)
    | (refine wpList_store_blk rfl 43 (.tmp 1) (.tmp 10) rfl w.heap.size (Vo.cells X) rfl rfl 43 (Vo.cells Vo.no) (Blk.fresh rfl rfl) (by rw [HCL.out]; kernel_rfl) (by rw [HCL.out]; rfl) (Vo.one _) ?_; intro ua hba hga; have HBa := Lib.hid hba; have HUa : Hid (Below w.heap.size w ua) := Lib.hid (below_step (Below.refl _ w) (below_new hga)); clear hba hga)
    | (refine wpList_load_blk rfl 43 (.tmp 1) rfl w.heap.size rfl 43 (Vo.cells X) _ HBa.out Try.underlying43 rfl (by rw [HCL.out]; kernel_rfl) ?_)
    | (go_at_call 13; (with_reducible refine (HVo.out _).mono ?_); rintro e w2 ⟨A2, n2, c2, rfl, hy2, hc2, hm2, hb2⟩; obtain rfl : 48 = n2 := (by rw [← hy2.len]; exact HEL.out.symm); have HY2 := Lib.hid hy2; have HU2 := Lib.hid (below_step HUa.out hb2); have HB2 := Lib.hid (HBa.out.through hb2); clear hy2 hc2 hm2 hb2)
    | (go_at_call 14; (with_reducible refine (HPV.out _ _ _ HY2.out).mono ?_); rintro e w3 ⟨rfl, hb3⟩; have HU3 := Lib.hid (below_step HU2.out hb3); have HB3 := Lib.hid (HB2.out.through hb3); clear hb3)
    | (refine wpList_store_blk rfl 43 (.tmp 3) (.tmp 16) rfl w3.heap.size (Vo.cells X) rfl rfl 43 (Vo.cells Vo.no) (Blk.fresh rfl rfl) (by rw [HCL.out]; kernel_rfl) (by rw [HCL.out]; rfl) (Vo.one _) ?_; intro ub hbb hgb; have HBb := Lib.hid hbb; have HUb : Hid (Below w.heap.size w ub) := Lib.hid (below_step HU3.out (below_new hgb)); have HBb1 := Lib.hid (HB3.out.through (below_new hgb)); clear hbb hgb)
    | (go_at_call 14; (with_reducible refine (HPN.out _).mono ?_); rintro e w4 ⟨rfl, hb4⟩; have HU4 := Lib.hid (below_step HUb.out hb4); have HB4 := Lib.hid (HBb1.out.through hb4); have HC4 := Lib.hid (HBb.out.through hb4); clear hb4)
    | (refine wpList_store_blk rfl 43 (.tmp 5) (.tmp 20) rfl w4.heap.size (Vo.cells Vo.no) rfl rfl 43 (Vo.cells Vo.no) (Blk.fresh rfl rfl) (by kernel_rfl) (by rfl) (Vo.one _) ?_; intro uc hbc hgc; have HBc := Lib.hid hbc; have HUc : Hid (Below w.heap.size w uc) := Lib.hid (below_step HU4.out (below_new hgc)); have HB5 := Lib.hid (HB4.out.through (below_new hgc)); have HC5 := Lib.hid (HC4.out.through (below_new hgc)); clear hbc hgc)
    | (go_at_call 16; (with_reducible refine (HRe.out _).mono ?_); rintro e w6 ⟨A6, n6, c6, rfl, hy6, hc6, hm6, hb6⟩; have HY6 := Lib.hid hy6; have HU6 := Lib.hid (below_step HUc.out hb6); have HB6 := Lib.hid (HB5.out.through hb6); have HC6 := Lib.hid (HC5.out.through hb6); clear hy6 hc6 hm6 hb6)
    | (go_at_call 15; (with_reducible refine (HPR.out _ _ _ _ HY6.out).mono ?_); rintro e w7 ⟨rfl, hb7⟩; have HU7 := Lib.hid (below_step HU6.out hb7); have HB7 := Lib.hid (HB6.out.through hb7); have HC7 := Lib.hid (HC6.out.through hb7); clear hb7)
    | (refine wpList_store_blk rfl 48 (.tmp 7) (.tmp 26) rfl w7.heap.size (Re.cells Re.no) rfl rfl 48 (Re.cells Re.no) (Blk.fresh rfl rfl) (by kernel_rfl) (by rfl) (Re.one _) ?_; intro ud hbd hgd; have HBd := Lib.hid hbd; have HUd : Hid (Below w.heap.size w ud) := Lib.hid (below_step HU7.out (below_new hgd)); have HB8 := Lib.hid (HB7.out.through (below_new hgd)); have HC8 := Lib.hid (HC7.out.through (below_new hgd)); clear hbd hgd)
    | (refine wpList_load_blk_g 43 (.tmp 3) rfl (by kernel_rfl) w3.heap.size rfl 43 (Vo.cells X) _ HC8.out Try.underlying43 rfl (by rw [HCL.out]; kernel_rfl) ?_)
    | (refine wpList_load_blk_g 43 (.tmp 1) rfl (by kernel_rfl) w.heap.size rfl 43 (Vo.cells X) _ HB8.out Try.underlying43 rfl (by rw [HCL.out]; kernel_rfl) ?_))
  go_ret
  exact ⟨rfl, HUd.out⟩

end Go.Proofs.Ytpngcdafamkhcaa
