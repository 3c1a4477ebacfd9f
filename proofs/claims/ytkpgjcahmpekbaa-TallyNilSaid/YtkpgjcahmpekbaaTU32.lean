/-
  Joined: TwWB.
-/
import Derived.Test.YtkpgjcahmpekbaaTU27
import Derived.Test.YtkpgjcahmpekbaaTU31
namespace Go.Proofs.Ytkpgjcahmpekbaa
open Go.RowKit

open Go.Maps Go.Sort Go.Shelf
set_option maxHeartbeats 16000000 in
set_option maxRecDepth 100000 in
theorem least_B {w : World} {g gv gc : Nat} {M : List (Int × UInt8)} (at_ : Int) (h : TlR 107 encY (fun _ => True) w g gv gc M) (hi : ∀ p ∈ M, In64 p.1) (hs : M.length ≤ 100000) :
  Calls Try.prog 32 #[(.pointer (some ⟨g, 0, none⟩)), .int .i64 at_] w fun e w' => e = .returned (.tuple #[encY ((leastT M 0 at_).getD 0), .bool (leastT M 0 at_).isSome]) ∧ Below w.heap.size w w' := by
 have hz : ∀ W, (zeroValue 5).run Try.prog W = .ok (encY 0) W := fun W => Try.zero_b W
 have HMs : Hid (M.length ≤ 1000000) := Lib.hid (by omega)
 have HTw := Lib.hid h
 have HLk0 : (sKeys M).length ≤ 100000 := by rw [sKeys_len]; exact hs
 have hvo := voters_B h hi HMs.out
 have HXw : Hid (Below w.heap.size w w) := Lib.hid (Below.refl _ w)
 unfold leastT
 obtain ⟨zv, hzv⟩ : ∃ zv, encY 0 = .int .u8 zv := ⟨_, rfl⟩
 have HZv := Lib.hid hzv
 rw [hzv] at hz
 by_cases hat : at_ < 1
 ·rw [if_pos hat, show encY ((none : Option UInt8).getD 0) = .int .u8 zv from hzv]
  clear h hi hs HLk0 hvo hzv
  go_enter Try.func32, Try.ntmps32
  go_wp2
  go_ret2
  exact ⟨rfl, below1_ w _⟩
 rw [if_neg hat]
 obtain ⟨ls, hls⟩ : ∃ ls, sKeys M = ls := ⟨_, rfl⟩
 rw [hls] at hvo HLk0 ⊢
 have HVo := Lib.hid hvo
 have HLk := Lib.hid HLk0
 obtain ⟨q, hq⟩ : ∃ q, leastM M 0 at_ ls = q := ⟨_, rfl⟩
 have HQ0 : Hid (leastM M 0 at_ (ls.drop 0) = q) := Lib.hid (by rw [List.drop_zero, hq])
 rw [hq]
 clear h hi hs hls hq hvo HLk0 hzv
 go_enter Try.func32, Try.ntmps32
 go_wp2_with (first
  | (go_at_call 64; (with_reducible refine (HVo.out).mono ?_); rintro e wv ⟨A, cv, rfl, hc9, hi9, hb9⟩; have HCv := Lib.hid hc9; have HIv := Lib.hid hi9; have HTv := Lib.hid (HTw.out.through hb9); have HXv : Hid (Below w.heap.size w wv) := Lib.hid (below_step HXw.out hb9); clear hc9 hi9 hb9))
 go_loopw [17] (fun iv wr => ∃ (i : Nat), i ≤ ls.length ∧ iv = .int .i64 (i : Int) ∧ leastM M 0 at_ (ls.drop i) = q ∧ Below wv.heap.size wv wr) (fun iv _ => ls.length - (intOf iv).toNat)
 case atStart => exact ⟨0, Nat.zero_le _, rfl, HQ0.out, Below.refl _ _⟩
 case round =>
  obtain ⟨i, hi, rfl, hp, hx⟩ := hrel
  have HX := Lib.hid hx
  have hib : i ≤ 100000 := by have := HLk.out; omega
  have HTr := Lib.hid (HTv.out.through HX.out)
  have HXr := Lib.hid (below_step HXv.out HX.out)
  clear hx
  by_cases hlt : i < ls.length
  ·obtain ⟨gA, oA, a, rfl, _, hd, hc⟩ := (HIv.out.through HX.out).at hlt
   have hix := Try.ix_is wr gA oA ls.length cv i hlt
   have hlk := HTr.out.vm.look1 Try.key_int Try.underlying104 a (Try.zero_b wr)
   have c0 : wr.cell? ⟨g, 0, none⟩ = some (.map (some gv)) := HTr.out.box.cellAt rfl
   rw [hd] at hp
   unfold leastM at hp
   generalize (getM a M).getD 0 = u at *
   obtain ⟨uv, huv⟩ : ∃ uv, encY u = uv := ⟨_, rfl⟩
   have HUv := Lib.hid huv
   rw [huv] at hlk
   have hct := cnt_B u HTr.out
   rw [huv] at hct
   have HCt := Lib.hid hct
   by_cases hcn : at_ ≤ (cntM u M : Int)
   ·rw [if_pos hcn] at hp
    have HP := Lib.hid hp
    clear hp hd huv hct
    go_wp2_with (first
     | (go_at_call 65; (with_reducible refine (HCt.out).mono ?_); rintro e w3 ⟨rfl, hb9⟩; have HX3 := Lib.hid (below_step HXr.out hb9); clear hb9))
    go_ret2
    exact ⟨by rw [← HP.out]; simp [HUv.out], HX3.out⟩
   ·rw [if_neg hcn] at hp
    have HP := Lib.hid hp
    have hcn2 : decide (at_ ≤ (cntM u M : Int)) = false := decide_eq_false hcn
    clear hp hd huv hct
    go_wp2_with (first
     | (go_at_call 65; (with_reducible refine (HCt.out).mono ?_); rintro e w3 ⟨rfl, hb9⟩; have HX3 := Lib.hid (below_step HX.out hb9); clear hb9))
    go_roundw
    case rel => exact ⟨i + 1, by omega, by go_num, HP.out, HX3.out⟩
    case measure => simp [intOf]; omega
  ·have e9 : ls.drop i = [] := List.drop_of_length_le (by omega)
   rw [e9] at hp
   have HP : Hid (q = none) := Lib.hid (by rw [← hp]; rfl)
   clear hp e9
   go_wp2
   go_ret2
   exact ⟨by rw [HP.out]; simp [HZv.out], below_step HXr.out (below1_ _ _)⟩

end Go.Proofs.Ytkpgjcahmpekbaa
