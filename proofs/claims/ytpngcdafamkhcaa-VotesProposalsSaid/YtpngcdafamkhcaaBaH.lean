/-
  The document's Parse.
-/
import Derived.Test.YtpngcdafamkhcaaBaQ
import Derived.Test.YtpngcdafamkhcaaBaD
namespace Go.Proofs.Ytpngcdafamkhcaa
open Go.RowKit

theorem docR_lt (m L : Nat) : ∀ (k : Nat) (b : Bool) (out : List Ey) (st : Option (List UInt8)), (∀ y ∈ out, y.co.lt.length ≤ L ∧ y.co.tx.length ≤ L) → stL st ≤ L → ∀ y ∈ (docR m k b out st).1, y.co.lt.length ≤ L ∧ y.co.tx.length ≤ L
  | 0, b, out, st, h, _ => h
  | k + 1, b, out, none, h, _ => h
  | k + 1, b, out, some xs, h, hl => by
    rw [docR_some]
    have hr : (rval m (some xs)).length ≤ L := Nat.le_trans (rval_stL _ _) hl
    refine docR_lt m L k _ _ _ (fun y hy => ?_) (Nat.le_trans (nnext_stL _ _) (Nat.le_trans (rnext_stL _ _) hl))
    rcases List.mem_append.1 hy with hy | hy
    · exact h y hy
    · rw [List.mem_singleton.1 hy]
      have l1 : stL (nnext 1 (nnext 8 (nnext 1 (some (rval m (some xs)))))) ≤ L := Nat.le_trans (nnext_stL _ _) (Nat.le_trans (nnext_stL _ _) (Nat.le_trans (nnext_stL _ _) hr))
      exact ⟨Nat.le_trans (rval_stL _ _) l1, Nat.le_trans (rval_stL _ _) (Nat.le_trans (nnext_stL _ _) (Nat.le_trans (nnext_stL _ _) (Nat.le_trans (rnext_stL _ _) l1)))⟩

set_option maxHeartbeats 8000000 in
set_option maxRecDepth 100000 in
theorem rparseB_any (xs : List UInt8) (N : Int) (A : Option Addr) (n c : Nat) (w : World) (h : By w (fun _ => True) A n xs) (hnc : n ≤ c) (hc : c ≤ maxLen) (hn : n ≤ 1000000) :
    Calls Try.prog 32 #[.slice A n c, .int .i64 N] w (EyOut w (parseB 1048576 xs N).1 (parseB 1048576 xs N).2) := by
  have hbr := Try.build_rdr
  have hxl : xs.length ≤ 1000000 := by rw [h.len]; exact hn
  have HX0 : Hid (Below w.heap.size w (w.alloc (.cells #[.slice A n c, .int .i64 0] tQ))) := Lib.hid ((Below.refl _ w).alloc (Nat.le_refl _) _)
  have HR0 : Rs (fun b => b < w.heap.size) (w.alloc (.cells #[.slice A n c, .int .i64 0] tQ)) w.heap.size tQ (some xs) := rs_built (Q := fun b => b < w.heap.size) (h.lt.weak fun _ h => h.2) hnc hc (by omega)
  have hrd := rread15_any w.heap.size (some xs) (w.alloc (.cells #[.slice A n c, .int .i64 0] tQ)) HR0 (fun b hb => Nat.lt_of_lt_of_le hb HX0.out.size) hxl
  have hlt := docR_lt 1048576 1000000 (nval 2 (some xs)) true [] (nnext 2 (some xs)) (fun _ h => nomatch h) (Nat.le_trans (nnext_stL _ _) hxl)
  have hpp : parseB 1048576 xs N = finB (docR 1048576 (nval 2 (some xs)) true [] (nnext 2 (some xs))) N := rfl
  generalize docR 1048576 (nval 2 (some xs)) true [] (nnext 2 (some xs)) = R at *
  obtain ⟨out, b, st⟩ := R
  simp only at hrd hlt
  obtain ⟨P, hP⟩ : ∃ P, parseB 1048576 xs N = P := ⟨_, rfl⟩
  rw [hP] at hpp ⊢
  have HRd := Lib.hid hrd
  have HCk0 : Hid (∀ (W : World) (D : Option Addr) (m d : Nat), EysIn W D m out → Calls Try.prog 10 #[.slice D m d, .int .i64 N] W fun e w' => e = .returned (.int .i64 (chkB out N)) ∧ Below W.heap.size W w') := Lib.hid (fun W D m d hI => rcheck15_any out N D m d W hI (fun y hy => (hlt y hy).1))
  clear h hxl HR0 hrd hlt hP
  by_cases hs : st = some []
  case neg =>
    have HST := Lib.hid hs
    have HP : Hid (P = ([], 2)) := Lib.hid (by rw [hpp]; unfold finB; rw [if_neg (fun h9 => hs h9.1)])
    clear hpp hs
    go_enter Try.func32, Try.ntmps32
    go_wp2_with (first
      | (go_at_call 58; (with_reducible refine (HRd.out).mono ?_); rintro e w2 ⟨A2, m2, c2, rfl, hin, hmc, hcm, hr, hg, hfr⟩; have HI2 := Lib.hid hin; have HM2 := Lib.hid (And.intro hmc hcm); have HR2 := Lib.hid hr; have HF2 := Lib.hid hfr; have HX2 : Hid (Below w.heap.size w w2) := Lib.hid (HX0.out.grown hg HX0.out.size (fun k hk => by have := Option.some.inj hk; omega)); clear hin hmc hcm hr hg hfr)
      | (go_at_call 33; (refine (rend_rs HR2.out).mono ?_); rintro e w10 ⟨x, rfl, hx, hww⟩; obtain rfl : w2 = w10 := hww; have hx0 : ¬ x = 0 := (fun h9 => HST.out (hx.1 h9)); have hxb : (x == 0) = false := (by simpa using hx0); have hxd : (x != 0) = true := (by simpa using hx0); clear hx hx0))
    go_ret2
    rw [HP.out]
    exact ⟨none, 0, 0, rfl, EysIn.none_, Nat.le_refl _, Nat.zero_le _, HX2.out, fun _ h => nomatch h⟩
  have HST := Lib.hid hs
  cases b with
  | false =>
    have HP : Hid (P = ([], 2)) := Lib.hid (by rw [hpp]; exact finB_false N rfl)
    clear hpp hs
    go_enter Try.func32, Try.ntmps32
    go_wp2_with (first
      | (go_at_call 58; (with_reducible refine (HRd.out).mono ?_); rintro e w2 ⟨A2, m2, c2, rfl, hin, hmc, hcm, hr, hg, hfr⟩; have HI2 := Lib.hid hin; have HM2 := Lib.hid (And.intro hmc hcm); have HR2 := Lib.hid hr; have HF2 := Lib.hid hfr; have HX2 : Hid (Below w.heap.size w w2) := Lib.hid (HX0.out.grown hg HX0.out.size (fun k hk => by have := Option.some.inj hk; omega)); clear hin hmc hcm hr hg hfr)
      | (go_at_call 33; (refine (rend_rs HR2.out).mono ?_); rintro e w10 ⟨x, rfl, hx, hww⟩; obtain rfl : w2 = w10 := hww; have hx0 : x = 0 := hx.2 HST.out; subst hx0; clear hx))
    go_ret2
    rw [HP.out]
    exact ⟨none, 0, 0, rfl, EysIn.none_, Nat.le_refl _, Nat.zero_le _, HX2.out, fun _ h => nomatch h⟩
  | true =>
    have hpp2 : P = if chkB out N = 0 then (out, 0) else ([], chkB out N) := by rw [hpp]; unfold finB; rw [if_pos ⟨hs, rfl⟩]
    clear hpp hs
    by_cases hk : chkB out N = 0
    case pos =>
      have HP : Hid (P = (out, 0)) := Lib.hid (by rw [hpp2, if_pos hk])
      have HCk : Hid (∀ (W : World) (D : Option Addr) (m d : Nat), EysIn W D m out → Calls Try.prog 10 #[.slice D m d, .int .i64 N] W fun e w' => e = .returned (.int .i64 0) ∧ Below W.heap.size W w') := Lib.hid (fun W D m d hI => hk ▸ HCk0.out W D m d hI)
      clear hpp2 hk
      go_enter Try.func32, Try.ntmps32
      go_wp2_with (first
        | (go_at_call 58; (with_reducible refine (HRd.out).mono ?_); rintro e w2 ⟨A2, m2, c2, rfl, hin, hmc, hcm, hr, hg, hfr⟩; have HI2 := Lib.hid hin; have HM2 := Lib.hid (And.intro hmc hcm); have HR2 := Lib.hid hr; have HF2 := Lib.hid hfr; have HX2 : Hid (Below w.heap.size w w2) := Lib.hid (HX0.out.grown hg HX0.out.size (fun k hk => by have := Option.some.inj hk; omega)); clear hin hmc hcm hr hg hfr)
        | (go_at_call 33; (refine (rend_rs HR2.out).mono ?_); rintro e w10 ⟨x, rfl, hx, hww⟩; obtain rfl : w2 = w10 := hww; have hx0 : x = 0 := hx.2 HST.out; subst hx0; clear hx)
        | (go_at_call 10; (with_reducible refine (HCk.out _ _ _ _ HI2.out).mono ?_); rintro e w11 ⟨rfl, hb⟩; have HX3 := Lib.hid (below_step HX2.out hb); have HI3 := Lib.hid (HI2.out.through hb); clear hb))
      go_ret2
      rw [HP.out]
      exact ⟨A2, m2, c2, rfl, HI3.out, HM2.out.1, HM2.out.2, HX3.out, fun a ha => Nat.le_trans HX0.out.size (HF2.out a ha)⟩
    case neg =>
      obtain ⟨er, her⟩ : ∃ er, chkB out N = er := ⟨_, rfl⟩
      have HP : Hid (P = ([], er)) := Lib.hid (by rw [hpp2, if_neg hk, her])
      rw [her] at hk
      have HCk : Hid (∀ (W : World) (D : Option Addr) (m d : Nat), EysIn W D m out → Calls Try.prog 10 #[.slice D m d, .int .i64 N] W fun e w' => e = .returned (.int .i64 er) ∧ Below W.heap.size W w') := Lib.hid (fun W D m d hI => her ▸ HCk0.out W D m d hI)
      have hkb : (er == 0) = false := by simpa using hk
      have hkd : (er != 0) = true := by simpa using hk
      clear hpp2 hk her
      go_enter Try.func32, Try.ntmps32
      go_wp2_with (first
        | (go_at_call 58; (with_reducible refine (HRd.out).mono ?_); rintro e w2 ⟨A2, m2, c2, rfl, hin, hmc, hcm, hr, hg, hfr⟩; have HI2 := Lib.hid hin; have HM2 := Lib.hid (And.intro hmc hcm); have HR2 := Lib.hid hr; have HF2 := Lib.hid hfr; have HX2 : Hid (Below w.heap.size w w2) := Lib.hid (HX0.out.grown hg HX0.out.size (fun k hk => by have := Option.some.inj hk; omega)); clear hin hmc hcm hr hg hfr)
        | (go_at_call 33; (refine (rend_rs HR2.out).mono ?_); rintro e w10 ⟨x, rfl, hx, hww⟩; obtain rfl : w2 = w10 := hww; have hx0 : x = 0 := hx.2 HST.out; subst hx0; clear hx)
        | (go_at_call 10; (with_reducible refine (HCk.out _ _ _ _ HI2.out).mono ?_); rintro e w11 ⟨rfl, hb⟩; have HX3 := Lib.hid (below_step HX2.out hb); have HI3 := Lib.hid (HI2.out.through hb); clear hb))
      go_ret2
      rw [HP.out]
      exact ⟨none, 0, 0, rfl, EysIn.none_, Nat.le_refl _, Nat.zero_le _, HX3.out, fun _ h => nomatch h⟩

end Go.Proofs.Ytpngcdafamkhcaa
