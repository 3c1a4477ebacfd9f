/-
  Joined: SlO.
-/
import Derived.Deep.CutBlock
import Derived.Test.YtkpgjcahmpekbaaSO33
import Derived.Test.YtkpgjcahmpekbaaSO35
import Derived.Test.YtkpgjcahmpekbaaSOT
namespace Go.Proofs.Ytkpgjcahmpekbaa
open Go.RowKit

set_option maxHeartbeats 16000000 in
set_option maxRecDepth 100000 in
theorem one21_1 {T : World → Value → (Nat → Prop) → Slt → Prop} (V : SlotV T) (f : UInt8) (says one two liars : List UInt8) (A1 A2 A3 A4 : Option Addr) (m1 m2 m3 m4 c1 c2 c3 c4 : Nat) (w : World) (h1 : By w (fun _ => True) A1 m1 says) (h2 : By w (fun _ => True) A2 m2 one) (h3 : By w (fun _ => True) A3 m3 two) (h4 : By w (fun _ => True) A4 m4 liars) (hfk : f.toNat % 2 = 0) :
  Calls Try.prog 6 #[.int .u8 (f.toNat : Int), .slice A1 m1 c1, .slice A2 m2 c2, .slice A3 m3 c3, .slice A4 m4 c4] w fun e w' => e = .returned (.bool true) ∧ Below w.heap.size w w' := by
 have H1 := Lib.hid h1
 have H2 := Lib.hid h2
 have H3 := Lib.hid h3
 have H4 := Lib.hid h4
 have hmf : ((f.toNat : Nat) : Int).tmod 2 = 0 := by have := tmod_nat f.toNat 2; rw [hfk] at this; simpa using this
 obtain ⟨lies, hlies⟩ : ∃ lies : Nat → Bool, ∀ w, lies w = liars.any (fun l => l.toNat % (3 * 1 + 1) == w) := ⟨_, fun _ => rfl⟩
 have HLies := Lib.hid hlies
 have zA : propS (Slt.no 4) (dg1 1) [] = (oneS 1 1 lies says one 0, 0) := oneS_zero 1 1 lies says one
 have zB : propS (Slt.no 4) (dg1 2) [] = (oneS 1 2 lies says two 0, 0) := oneS_zero 1 2 lies says two
 clear h1 h2 h3 h4 hlies
 by_cases g4 : 1 < m4
 ·go_enter Try.func6, Try.ntmps6
  go_wp2_with (first | (go_at_call 36; (with_reducible refine (fixed21_of V _).mono ?_); rintro e w1 ⟨rfl, hb1⟩; have HB1 := Lib.hid hb1; clear hb1))
  go_ret
  exact ⟨rfl, HB1.out⟩
 by_cases g1 : 20 < m1
 ·go_enter Try.func6, Try.ntmps6
  go_wp2_with (first | (go_at_call 36; (with_reducible refine (fixed21_of V _).mono ?_); rintro e w1 ⟨rfl, hb1⟩; have HB1 := Lib.hid hb1; clear hb1))
  go_ret
  exact ⟨rfl, HB1.out⟩
 by_cases g2 : 20 < m2
 ·go_enter Try.func6, Try.ntmps6
  go_wp2_with (first | (go_at_call 36; (with_reducible refine (fixed21_of V _).mono ?_); rintro e w1 ⟨rfl, hb1⟩; have HB1 := Lib.hid hb1; clear hb1))
  go_ret
  exact ⟨rfl, HB1.out⟩
 by_cases g3 : 20 < m3
 ·go_enter Try.func6, Try.ntmps6
  go_wp2_with (first | (go_at_call 36; (with_reducible refine (fixed21_of V _).mono ?_); rintro e w1 ⟨rfl, hb1⟩; have HB1 := Lib.hid hb1; clear hb1))
  go_ret
  exact ⟨rfl, HB1.out⟩
 go_enter Try.func6, Try.ntmps6
 go_wp2_with (first | (go_at_call 36; (with_reducible refine (fixed21_of V _).mono ?_); rintro e w1 ⟨rfl, hb1⟩; have HB1 := Lib.hid hb1; clear hb1) | (go_at_call 37; (with_reducible refine (V.new 4 w1 (by decide) (by decide)).mono ?_); rintro e w2 ⟨va, Da, rfl, h1, hb, hd⟩; have HA := Lib.hid h1; have HBA := Lib.hid hb; have HDA := Lib.hid hd; clear h1 hb hd) | (go_at_call 37; (with_reducible refine (V.new 4 w2 (by decide) (by decide)).mono ?_); rintro e w3 ⟨vb, Db, rfl, h1, hb, hd⟩; have HB := Lib.hid h1; have HBB := Lib.hid hb; have HDB := Lib.hid hd; have HF3 : Hid (F2 T w w3 va vb (Slt.no 4) (Slt.no 4)) := Lib.hid (F2.made V HA.out (below_step HB1.out HBA.out) (fun q hq => Nat.le_trans HB1.out.size (HDA.out q hq)) h1 hb hd); clear h1 hb hd) | (refine wpList_build_to rfl 27 _ rfl [(0, .int .u8 1)] rfl (.agg (vs (dg1 1)).toArray) (Try.bld_dg 1 _) ?_) | (refine wpList_build_to rfl 27 _ rfl [(0, .int .u8 2)] rfl (.agg (vs (dg1 2)).toArray) (Try.bld_dg 2 _) ?_) | (go_at_call 40; (with_reducible refine (HF3.out.propose V (SlLow.no (by decide) (by decide)) zA rfl).mono ?_); rintro e w4 ⟨rfl, hf⟩; have HFw4 := Lib.hid hf; clear hf) | (go_at_call 40; (with_reducible refine (HFw4.out.swap.propose V (SlLow.no (by decide) (by decide)) zB rfl).mono ?_); rintro e w5 ⟨rfl, hf⟩; have HFw5 := Lib.hid hf; clear hf))
 go_loopw [60] (fun iv wr => ∃ i : Nat, i ≤ 4 ∧ iv = .int .i64 (i : Int) ∧ F2 T w wr va vb (oneS 1 1 lies says one i) (oneS 1 2 lies says two i)) (fun iv _ => 4 - (intOf iv).toNat)
 case atStart => exact ⟨0, Nat.zero_le _, rfl, HFw5.out.swap⟩
 case round =>
  obtain ⟨i, hi, rfl, hf⟩ := hrel
  have HF := Lib.hid hf
  have HX := Lib.hid hf.below
  clear hf
  by_cases hlt : i < 4
  ·go_wp2
   go_loopw [16, 65] (fun bv iv wx => ∃ (j : Nat) (b : Bool), j ≤ m4 ∧ iv = .int .i64 (j : Int) ∧ bv = .bool b ∧ (b || (liars.drop j).any (fun l => l.toNat % (3 * 1 + 1) == i)) = lies i ∧ wx = wr) (fun _ iv _ => m4 - (intOf iv).toNat)
   case atStart => exact ⟨0, false, Nat.zero_le _, rfl, rfl, by rw [List.drop_zero, HLies.out]; rfl, rfl⟩
   case round =>
    obtain ⟨j, b, hj, rfl, rfl, hb, rfl⟩ := hrel
    by_cases hjl : j < m4
    ·have hjn : j < liars.length := by have := H4.out.len; omega
     obtain ⟨g, o, rfl, hc⟩ := (H4.out.through HX.out).cell j hjn
     rw [List.drop_eq_getElem_cons hjn, List.any_cons] at hb
     generalize liars[j] = x at hc hb
     have hc' : (World.cell? _ ⟨g, o + j, none⟩) = some (.int .u8 (x.toNat : Int)) := hc
     clear hc
     have hxl : x.toNat < 256 := x.toNat_lt
     have hix := fun (W : World) => Try.ix_u8 W g o m4 c4 j hjl
     have hm : ((x.toNat : Nat) : Int).tmod 4 = ((x.toNat % 4 : Nat) : Int) := tmod_nat x.toNat 4
     cases b with
     | true =>
      go_wp2
      go_roundw
      case rel => exact ⟨j + 1, true, by omega, by go_num, rfl, by simpa using hb, by first | rfl | trivial⟩
      case measure => simp [intOf]; omega
     | false =>
      by_cases hx : x.toNat % 4 = i
      ·have hxi : (((x.toNat % 4 : Nat) : Int) == (i : Int)) = true := by simp; omega
       go_wp2
       go_roundw
       case rel => exact ⟨j + 1, true, by omega, by go_num, rfl, by simpa [hx] using hb, by first | rfl | trivial⟩
       case measure => simp [intOf]; omega
      ·have hxi : (((x.toNat % 4 : Nat) : Int) == (i : Int)) = false := by simp; omega
       have hxj : (((x.toNat : Nat) : Int) % 4 == (i : Int)) = false := by simp; omega
       have hne : (x.toNat % 4 == i) = false := by simpa using hx
       go_wp2
       go_roundw
       case rel => exact ⟨j + 1, false, by omega, by go_num, by first | rfl | rw [hxj] | simp [hxj], by simpa [hne] using hb, by first | rfl | trivial⟩
       case measure => simp [intOf]; omega
    ·have e9 : liars.drop j = [] := List.drop_of_length_le (by have := H4.out.len; omega)
     rw [e9] at hb
     have hbl : b = lies i := by simpa using hb
     clear hb e9
     cases hli : lies i with
     | true =>
      obtain rfl : b = true := by rw [hbl, hli]
      by_cases ha : i < m2
      ·have hia : i < one.length := by have := H2.out.len; omega
       obtain ⟨ga, oa, rfl, hc0a⟩ := H2.out.cell i hia
       have hxa : (oneX lies says one i)[i]? = some one[i] := by unfold oneX; rw [hli]; simp [List.getElem?_eq_getElem hia]
       generalize one[i] = xa at hxa hc0a
       have hda : decide ((i : Int) < (m2 : Int)) = true := decide_eq_true (by omega)
       have hza : (i : Int) < ((m2 : Nat) : Int) := by omega
       have hixa := fun (W : World) => Try.ix_u8 W ga oa m2 c2 i ha
       have HCA : Hid (∀ W : World, Below w.heap.size w W → W.cell? ⟨ga, oa + i, none⟩ = some (.int .u8 (xa.toNat : Int))) := Lib.hid (fun W hW => (hW.cell (p := ⟨ga, oa + i, none⟩) (World.block_lt_of_cell? w ⟨ga, oa + i, none⟩ hc0a)).trans hc0a)
       obtain ⟨ba, hba⟩ : ∃ ba, ba = xa % 2 + 1 := ⟨_, rfl⟩
       have hta : ((xa.toNat : Nat) : Int).tmod 2 = ((xa.toNat % 2 : Nat) : Int) := tmod_nat xa.toNat 2
       have hwa : ((xa.toNat % 2 : Nat) : Int) + 1 = (ba.toNat : Int) := by rw [hba]; have := xa.toNat_lt; simp [UInt8.toNat_add, UInt8.toNat_mod]; omega
       have hla : ba.toNat < 256 := ba.toNat_lt
       generalize xa.toNat % 2 = ra at hta hwa
       have HEA := Lib.hid (oneS_says (k := 1) (b := 1) (w := i) (by omega) hxa)
       rw [← hba] at HEA
       clear ha hc0a hxa hba hia
       by_cases hb : i < m3
       ·have hib : i < two.length := by have := H3.out.len; omega
        obtain ⟨gb, ob, rfl, hc0b⟩ := H3.out.cell i hib
        have hxb : (oneX lies says two i)[i]? = some two[i] := by unfold oneX; rw [hli]; simp [List.getElem?_eq_getElem hib]
        generalize two[i] = xb at hxb hc0b
        have hdb : decide ((i : Int) < (m3 : Int)) = true := decide_eq_true (by omega)
        have hzb : (i : Int) < ((m3 : Nat) : Int) := by omega
        have hixb := fun (W : World) => Try.ix_u8 W gb ob m3 c3 i hb
        have HCB : Hid (∀ W : World, Below w.heap.size w W → W.cell? ⟨gb, ob + i, none⟩ = some (.int .u8 (xb.toNat : Int))) := Lib.hid (fun W hW => (hW.cell (p := ⟨gb, ob + i, none⟩) (World.block_lt_of_cell? w ⟨gb, ob + i, none⟩ hc0b)).trans hc0b)
        obtain ⟨bb, hbb⟩ : ∃ bb, bb = xb % 2 + 1 := ⟨_, rfl⟩
        have htb : ((xb.toNat : Nat) : Int).tmod 2 = ((xb.toNat % 2 : Nat) : Int) := tmod_nat xb.toNat 2
        have hwb : ((xb.toNat % 2 : Nat) : Int) + 1 = (bb.toNat : Int) := by rw [hbb]; have := xb.toNat_lt; simp [UInt8.toNat_add, UInt8.toNat_mod]; omega
        have hlb : bb.toNat < 256 := bb.toNat_lt
        generalize xb.toNat % 2 = rb at htb hwb
        have HEB := Lib.hid (oneS_says (k := 1) (b := 2) (w := i) (by omega) hxb)
        rw [← hbb] at HEB
        clear hb hc0b hxb hbb hib
        clear hbl hli
        go_wp2_with (first
         | (refine wpList_load_to rfl 5 (.tmp 92) rfl (.pointer (some ⟨ga, oa + i, none⟩)) (.int .u8 (xa.toNat : Int)) rfl (load_one' (Try.agg_u8s _) (HCA.out _ HX.out)) ?_; simp only [Act.put, sq1, sq2, sq3])
         | (refine wpList_build_to rfl 27 _ rfl [(0, .int .u8 (ba.toNat : Int))] rfl (.agg (vs (dg1 ba)).toArray) (Try.bld_dg ba _) ?_; simp only [Act.put, sq1, sq2, sq3])
         | (go_at_call 42; (with_reducible refine (HF.out.commit V (oneS_low 1 1 lies says one i (by decide) (by omega)) HEA.out rfl).mono ?_); rintro e w8 ⟨rfl, hf⟩; have HFw8 := Lib.hid hf; clear hf)
         | (refine wpList_load_to rfl 5 (.tmp 106) rfl (.pointer (some ⟨gb, ob + i, none⟩)) (.int .u8 (xb.toNat : Int)) rfl (load_one' (Try.agg_u8s _) (HCB.out _ HFw8.out.below)) ?_; simp only [Act.put, sq1, sq2, sq3])
         | (refine wpList_build_to rfl 27 _ rfl [(0, .int .u8 (bb.toNat : Int))] rfl (.agg (vs (dg1 bb)).toArray) (Try.bld_dg bb _) ?_; simp only [Act.put, sq1, sq2, sq3])
         | (go_at_call 42; (with_reducible refine (HFw8.out.swap.commit V (oneS_low 1 2 lies says two i (by decide) (by omega)) HEB.out rfl).mono ?_); rintro e w9 ⟨rfl, hf⟩; have HFw9 := Lib.hid hf; clear hf))
        go_roundw
        case rel => exact ⟨i + 1, by omega, by go_num, HFw9.out.swap⟩
        case measure => simp [intOf]; omega
       ·have hxb : (oneX lies says two i)[i]? = none := by unfold oneX; rw [hli]; simp; have := H3.out.len; omega
        have HEB := Lib.hid (oneS_quiet (k := 1) (b := 2) hxb)
        clear hxb
        clear hbl hli
        go_wp2_with (first
         | (refine wpList_load_to rfl 5 (.tmp 92) rfl (.pointer (some ⟨ga, oa + i, none⟩)) (.int .u8 (xa.toNat : Int)) rfl (load_one' (Try.agg_u8s _) (HCA.out _ HX.out)) ?_; simp only [Act.put, sq1, sq2, sq3])
         | (refine wpList_build_to rfl 27 _ rfl [(0, .int .u8 (ba.toNat : Int))] rfl (.agg (vs (dg1 ba)).toArray) (Try.bld_dg ba _) ?_; simp only [Act.put, sq1, sq2, sq3])
         | (go_at_call 42; (with_reducible refine (HF.out.commit V (oneS_low 1 1 lies says one i (by decide) (by omega)) HEA.out rfl).mono ?_); rintro e w8 ⟨rfl, hf⟩; have HFw8 := Lib.hid hf; clear hf))
        go_roundw
        case rel => exact ⟨i + 1, by omega, by go_num, by rw [HEB.out]; exact HFw8.out⟩
        case measure => simp [intOf]; omega
      ·have hxa : (oneX lies says one i)[i]? = none := by unfold oneX; rw [hli]; simp; have := H2.out.len; omega
       have HEA := Lib.hid (oneS_quiet (k := 1) (b := 1) hxa)
       clear hxa
       by_cases hb : i < m3
       ·have hib : i < two.length := by have := H3.out.len; omega
        obtain ⟨gb, ob, rfl, hc0b⟩ := H3.out.cell i hib
        have hxb : (oneX lies says two i)[i]? = some two[i] := by unfold oneX; rw [hli]; simp [List.getElem?_eq_getElem hib]
        generalize two[i] = xb at hxb hc0b
        have hdb : decide ((i : Int) < (m3 : Int)) = true := decide_eq_true (by omega)
        have hzb : (i : Int) < ((m3 : Nat) : Int) := by omega
        have hixb := fun (W : World) => Try.ix_u8 W gb ob m3 c3 i hb
        have HCB : Hid (∀ W : World, Below w.heap.size w W → W.cell? ⟨gb, ob + i, none⟩ = some (.int .u8 (xb.toNat : Int))) := Lib.hid (fun W hW => (hW.cell (p := ⟨gb, ob + i, none⟩) (World.block_lt_of_cell? w ⟨gb, ob + i, none⟩ hc0b)).trans hc0b)
        obtain ⟨bb, hbb⟩ : ∃ bb, bb = xb % 2 + 1 := ⟨_, rfl⟩
        have htb : ((xb.toNat : Nat) : Int).tmod 2 = ((xb.toNat % 2 : Nat) : Int) := tmod_nat xb.toNat 2
        have hwb : ((xb.toNat % 2 : Nat) : Int) + 1 = (bb.toNat : Int) := by rw [hbb]; have := xb.toNat_lt; simp [UInt8.toNat_add, UInt8.toNat_mod]; omega
        have hlb : bb.toNat < 256 := bb.toNat_lt
        generalize xb.toNat % 2 = rb at htb hwb
        have HEB := Lib.hid (oneS_says (k := 1) (b := 2) (w := i) (by omega) hxb)
        rw [← hbb] at HEB
        clear hb hc0b hxb hbb hib
        clear hbl hli
        go_wp2_with (first
         | (refine wpList_load_to rfl 5 (.tmp 106) rfl (.pointer (some ⟨gb, ob + i, none⟩)) (.int .u8 (xb.toNat : Int)) rfl (load_one' (Try.agg_u8s _) (HCB.out _ HF.out.below)) ?_; simp only [Act.put, sq1, sq2, sq3])
         | (refine wpList_build_to rfl 27 _ rfl [(0, .int .u8 (bb.toNat : Int))] rfl (.agg (vs (dg1 bb)).toArray) (Try.bld_dg bb _) ?_; simp only [Act.put, sq1, sq2, sq3])
         | (go_at_call 42; (with_reducible refine (HF.out.swap.commit V (oneS_low 1 2 lies says two i (by decide) (by omega)) HEB.out rfl).mono ?_); rintro e w9 ⟨rfl, hf⟩; have HFw9 := Lib.hid hf; clear hf))
        go_roundw
        case rel => exact ⟨i + 1, by omega, by go_num, by rw [HEA.out]; exact HFw9.out.swap⟩
        case measure => simp [intOf]; omega
       ·have hxb : (oneX lies says two i)[i]? = none := by unfold oneX; rw [hli]; simp; have := H3.out.len; omega
        have HEB := Lib.hid (oneS_quiet (k := 1) (b := 2) hxb)
        clear hxb
        clear hbl hli
        go_wp2
        go_roundw
        case rel => exact ⟨i + 1, by omega, by go_num, by rw [HEA.out, HEB.out]; exact HF.out⟩
        case measure => simp [intOf]; omega
     | false =>
      obtain rfl : b = false := by rw [hbl, hli]
      by_cases ha : i < m1
      ·have hia : i < says.length := by have := H1.out.len; omega
       obtain ⟨ga, oa, rfl, hc0a⟩ := H1.out.cell i hia
       have hxa : (oneX lies says one i)[i]? = some says[i] := by unfold oneX; rw [hli]; simp [List.getElem?_eq_getElem hia]
       have hxb : (oneX lies says two i)[i]? = some says[i] := by unfold oneX at hxa ⊢; rw [hli] at hxa ⊢; exact hxa
       generalize says[i] = xa at hxa hc0a hxb
       have hda : decide ((i : Int) < (m1 : Int)) = true := decide_eq_true (by omega)
       have hza : (i : Int) < ((m1 : Nat) : Int) := by omega
       have hixa := fun (W : World) => Try.ix_u8 W ga oa m1 c1 i ha
       have HCA : Hid (∀ W : World, Below w.heap.size w W → W.cell? ⟨ga, oa + i, none⟩ = some (.int .u8 (xa.toNat : Int))) := Lib.hid (fun W hW => (hW.cell (p := ⟨ga, oa + i, none⟩) (World.block_lt_of_cell? w ⟨ga, oa + i, none⟩ hc0a)).trans hc0a)
       obtain ⟨ba, hba⟩ : ∃ ba, ba = xa % 2 + 1 := ⟨_, rfl⟩
       have hta : ((xa.toNat : Nat) : Int).tmod 2 = ((xa.toNat % 2 : Nat) : Int) := tmod_nat xa.toNat 2
       have hwa : ((xa.toNat % 2 : Nat) : Int) + 1 = (ba.toNat : Int) := by rw [hba]; have := xa.toNat_lt; simp [UInt8.toNat_add, UInt8.toNat_mod]; omega
       have hla : ba.toNat < 256 := ba.toNat_lt
       generalize xa.toNat % 2 = ra at hta hwa
       have HEA := Lib.hid (oneS_says (k := 1) (b := 1) (w := i) (by omega) hxa)
       rw [← hba] at HEA
       have HEB := Lib.hid (oneS_says (k := 1) (b := 2) (w := i) (by omega) hxb)
       rw [← hba] at HEB
       clear ha hc0a hxa hba hia hxb
       clear hbl hli
       go_wp2_with (first
        | (refine wpList_load_to rfl 5 (.tmp 92) rfl (.pointer (some ⟨ga, oa + i, none⟩)) (.int .u8 (xa.toNat : Int)) rfl (load_one' (Try.agg_u8s _) (HCA.out _ HX.out)) ?_; simp only [Act.put, sq1, sq2, sq3])
        | (refine wpList_build_to rfl 27 _ rfl [(0, .int .u8 (ba.toNat : Int))] rfl (.agg (vs (dg1 ba)).toArray) (Try.bld_dg ba _) ?_; simp only [Act.put, sq1, sq2, sq3])
        | (go_at_call 42; (with_reducible refine (HF.out.commit V (oneS_low 1 1 lies says one i (by decide) (by omega)) HEA.out rfl).mono ?_); rintro e w8 ⟨rfl, hf⟩; have HFw8 := Lib.hid hf; clear hf)
        | (refine wpList_load_to rfl 5 (.tmp 106) rfl (.pointer (some ⟨ga, oa + i, none⟩)) (.int .u8 (xa.toNat : Int)) rfl (load_one' (Try.agg_u8s _) (HCA.out _ HFw8.out.below)) ?_; simp only [Act.put, sq1, sq2, sq3])
        | (refine wpList_build_to rfl 27 _ rfl [(0, .int .u8 (ba.toNat : Int))] rfl (.agg (vs (dg1 ba)).toArray) (Try.bld_dg ba _) ?_; simp only [Act.put, sq1, sq2, sq3])
        | (go_at_call 42; (with_reducible refine (HFw8.out.swap.commit V (oneS_low 1 2 lies says two i (by decide) (by omega)) HEB.out rfl).mono ?_); rintro e w9 ⟨rfl, hf⟩; have HFw9 := Lib.hid hf; clear hf))
       go_roundw
       case rel => exact ⟨i + 1, by omega, by go_num, HFw9.out.swap⟩
       case measure => simp [intOf]; omega
      ·have hxa : (oneX lies says one i)[i]? = none := by unfold oneX; rw [hli]; simp; have := H1.out.len; omega
       have hxb : (oneX lies says two i)[i]? = none := by unfold oneX at hxa ⊢; rw [hli] at hxa ⊢; exact hxa
       have HEA := Lib.hid (oneS_quiet (k := 1) (b := 1) hxa)
       have HEB := Lib.hid (oneS_quiet (k := 1) (b := 2) hxb)
       clear hxa hxb
       clear hbl hli
       go_wp2
       go_roundw
       case rel => exact ⟨i + 1, by omega, by go_num, by rw [HEA.out, HEB.out]; exact HF.out⟩
       case measure => simp [intOf]; omega
  ·obtain rfl : i = 4 := by omega
   have hno := one_never (k := 1) liars says one two (by have := H4.out.len; omega) lies HLies.out
   cases hca : commB (oneS 1 1 lies says one 4) with
   | false =>
    go_wp2_with (first | (go_at_call 44; (with_reducible refine (HF.out.committed V (oneS_low 1 1 lies says one 4 (by decide) (by omega)) hca).mono ?_); rintro e w8 ⟨rfl, hf⟩; have HFw8 := Lib.hid hf; clear hf))
    go_ret
    exact ⟨rfl, HFw8.out.below⟩
   | true =>
    have hcb : commB (oneS 1 2 lies says two 4) = false := by
     cases h9 : commB (oneS 1 2 lies says two 4) with
     | false => rfl
     | true => exact absurd ⟨hca, h9⟩ hno
    go_wp2_with (first | (go_at_call 44; (with_reducible refine (HF.out.committed V (oneS_low 1 1 lies says one 4 (by decide) (by omega)) hca).mono ?_); rintro e w8 ⟨rfl, hf⟩; have HFw8 := Lib.hid hf; clear hf) | (go_at_call 44; (with_reducible refine (HFw8.out.swap.committed V (oneS_low 1 2 lies says two 4 (by decide) (by omega)) hcb).mono ?_); rintro e w9 ⟨rfl, hf⟩; have HFw9 := Lib.hid hf; clear hf))
    go_ret
    exact ⟨rfl, HFw9.out.below⟩

set_option maxHeartbeats 16000000 in
set_option maxRecDepth 100000 in
theorem one21_2 {T : World → Value → (Nat → Prop) → Slt → Prop} (V : SlotV T) (f : UInt8) (says one two liars : List UInt8) (A1 A2 A3 A4 : Option Addr) (m1 m2 m3 m4 c1 c2 c3 c4 : Nat) (w : World) (h1 : By w (fun _ => True) A1 m1 says) (h2 : By w (fun _ => True) A2 m2 one) (h3 : By w (fun _ => True) A3 m3 two) (h4 : By w (fun _ => True) A4 m4 liars) (hfk : f.toNat % 2 = 1) :
  Calls Try.prog 6 #[.int .u8 (f.toNat : Int), .slice A1 m1 c1, .slice A2 m2 c2, .slice A3 m3 c3, .slice A4 m4 c4] w fun e w' => e = .returned (.bool true) ∧ Below w.heap.size w w' := by
 have H1 := Lib.hid h1
 have H2 := Lib.hid h2
 have H3 := Lib.hid h3
 have H4 := Lib.hid h4
 have hmf : ((f.toNat : Nat) : Int).tmod 2 = 1 := by have := tmod_nat f.toNat 2; rw [hfk] at this; simpa using this
 obtain ⟨lies, hlies⟩ : ∃ lies : Nat → Bool, ∀ w, lies w = liars.any (fun l => l.toNat % (3 * 2 + 1) == w) := ⟨_, fun _ => rfl⟩
 have HLies := Lib.hid hlies
 have zA : propS (Slt.no 7) (dg1 1) [] = (oneS 2 1 lies says one 0, 0) := oneS_zero 2 1 lies says one
 have zB : propS (Slt.no 7) (dg1 2) [] = (oneS 2 2 lies says two 0, 0) := oneS_zero 2 2 lies says two
 clear h1 h2 h3 h4 hlies
 by_cases g4 : 2 < m4
 ·go_enter Try.func6, Try.ntmps6
  go_wp2_with (first | (go_at_call 36; (with_reducible refine (fixed21_of V _).mono ?_); rintro e w1 ⟨rfl, hb1⟩; have HB1 := Lib.hid hb1; clear hb1))
  go_ret
  exact ⟨rfl, HB1.out⟩
 by_cases g1 : 20 < m1
 ·go_enter Try.func6, Try.ntmps6
  go_wp2_with (first | (go_at_call 36; (with_reducible refine (fixed21_of V _).mono ?_); rintro e w1 ⟨rfl, hb1⟩; have HB1 := Lib.hid hb1; clear hb1))
  go_ret
  exact ⟨rfl, HB1.out⟩
 by_cases g2 : 20 < m2
 ·go_enter Try.func6, Try.ntmps6
  go_wp2_with (first | (go_at_call 36; (with_reducible refine (fixed21_of V _).mono ?_); rintro e w1 ⟨rfl, hb1⟩; have HB1 := Lib.hid hb1; clear hb1))
  go_ret
  exact ⟨rfl, HB1.out⟩
 by_cases g3 : 20 < m3
 ·go_enter Try.func6, Try.ntmps6
  go_wp2_with (first | (go_at_call 36; (with_reducible refine (fixed21_of V _).mono ?_); rintro e w1 ⟨rfl, hb1⟩; have HB1 := Lib.hid hb1; clear hb1))
  go_ret
  exact ⟨rfl, HB1.out⟩
 go_enter Try.func6, Try.ntmps6
 go_wp2_with (first | (go_at_call 36; (with_reducible refine (fixed21_of V _).mono ?_); rintro e w1 ⟨rfl, hb1⟩; have HB1 := Lib.hid hb1; clear hb1) | (go_at_call 37; (with_reducible refine (V.new 7 w1 (by decide) (by decide)).mono ?_); rintro e w2 ⟨va, Da, rfl, h1, hb, hd⟩; have HA := Lib.hid h1; have HBA := Lib.hid hb; have HDA := Lib.hid hd; clear h1 hb hd) | (go_at_call 37; (with_reducible refine (V.new 7 w2 (by decide) (by decide)).mono ?_); rintro e w3 ⟨vb, Db, rfl, h1, hb, hd⟩; have HB := Lib.hid h1; have HBB := Lib.hid hb; have HDB := Lib.hid hd; have HF3 : Hid (F2 T w w3 va vb (Slt.no 7) (Slt.no 7)) := Lib.hid (F2.made V HA.out (below_step HB1.out HBA.out) (fun q hq => Nat.le_trans HB1.out.size (HDA.out q hq)) h1 hb hd); clear h1 hb hd) | (refine wpList_build_to rfl 27 _ rfl [(0, .int .u8 1)] rfl (.agg (vs (dg1 1)).toArray) (Try.bld_dg 1 _) ?_) | (refine wpList_build_to rfl 27 _ rfl [(0, .int .u8 2)] rfl (.agg (vs (dg1 2)).toArray) (Try.bld_dg 2 _) ?_) | (go_at_call 40; (with_reducible refine (HF3.out.propose V (SlLow.no (by decide) (by decide)) zA rfl).mono ?_); rintro e w4 ⟨rfl, hf⟩; have HFw4 := Lib.hid hf; clear hf) | (go_at_call 40; (with_reducible refine (HFw4.out.swap.propose V (SlLow.no (by decide) (by decide)) zB rfl).mono ?_); rintro e w5 ⟨rfl, hf⟩; have HFw5 := Lib.hid hf; clear hf))
 go_loopw [60] (fun iv wr => ∃ i : Nat, i ≤ 7 ∧ iv = .int .i64 (i : Int) ∧ F2 T w wr va vb (oneS 2 1 lies says one i) (oneS 2 2 lies says two i)) (fun iv _ => 7 - (intOf iv).toNat)
 case atStart => exact ⟨0, Nat.zero_le _, rfl, HFw5.out.swap⟩
 case round =>
  obtain ⟨i, hi, rfl, hf⟩ := hrel
  have HF := Lib.hid hf
  have HX := Lib.hid hf.below
  clear hf
  by_cases hlt : i < 7
  ·go_wp2
   go_loopw [16, 65] (fun bv iv wx => ∃ (j : Nat) (b : Bool), j ≤ m4 ∧ iv = .int .i64 (j : Int) ∧ bv = .bool b ∧ (b || (liars.drop j).any (fun l => l.toNat % (3 * 2 + 1) == i)) = lies i ∧ wx = wr) (fun _ iv _ => m4 - (intOf iv).toNat)
   case atStart => exact ⟨0, false, Nat.zero_le _, rfl, rfl, by rw [List.drop_zero, HLies.out]; rfl, rfl⟩
   case round =>
    obtain ⟨j, b, hj, rfl, rfl, hb, rfl⟩ := hrel
    by_cases hjl : j < m4
    ·have hjn : j < liars.length := by have := H4.out.len; omega
     obtain ⟨g, o, rfl, hc⟩ := (H4.out.through HX.out).cell j hjn
     rw [List.drop_eq_getElem_cons hjn, List.any_cons] at hb
     generalize liars[j] = x at hc hb
     have hc' : (World.cell? _ ⟨g, o + j, none⟩) = some (.int .u8 (x.toNat : Int)) := hc
     clear hc
     have hxl : x.toNat < 256 := x.toNat_lt
     have hix := fun (W : World) => Try.ix_u8 W g o m4 c4 j hjl
     have hm : ((x.toNat : Nat) : Int).tmod 7 = ((x.toNat % 7 : Nat) : Int) := tmod_nat x.toNat 7
     cases b with
     | true =>
      go_wp2
      go_roundw
      case rel => exact ⟨j + 1, true, by omega, by go_num, rfl, by simpa using hb, by first | rfl | trivial⟩
      case measure => simp [intOf]; omega
     | false =>
      by_cases hx : x.toNat % 7 = i
      ·have hxi : (((x.toNat % 7 : Nat) : Int) == (i : Int)) = true := by simp; omega
       go_wp2
       go_roundw
       case rel => exact ⟨j + 1, true, by omega, by go_num, rfl, by simpa [hx] using hb, by first | rfl | trivial⟩
       case measure => simp [intOf]; omega
      ·have hxi : (((x.toNat % 7 : Nat) : Int) == (i : Int)) = false := by simp; omega
       have hxj : (((x.toNat : Nat) : Int) % 7 == (i : Int)) = false := by simp; omega
       have hne : (x.toNat % 7 == i) = false := by simpa using hx
       go_wp2
       go_roundw
       case rel => exact ⟨j + 1, false, by omega, by go_num, by first | rfl | rw [hxj] | simp [hxj], by simpa [hne] using hb, by first | rfl | trivial⟩
       case measure => simp [intOf]; omega
    ·have e9 : liars.drop j = [] := List.drop_of_length_le (by have := H4.out.len; omega)
     rw [e9] at hb
     have hbl : b = lies i := by simpa using hb
     clear hb e9
     cases hli : lies i with
     | true =>
      obtain rfl : b = true := by rw [hbl, hli]
      by_cases ha : i < m2
      ·have hia : i < one.length := by have := H2.out.len; omega
       obtain ⟨ga, oa, rfl, hc0a⟩ := H2.out.cell i hia
       have hxa : (oneX lies says one i)[i]? = some one[i] := by unfold oneX; rw [hli]; simp [List.getElem?_eq_getElem hia]
       generalize one[i] = xa at hxa hc0a
       have hda : decide ((i : Int) < (m2 : Int)) = true := decide_eq_true (by omega)
       have hza : (i : Int) < ((m2 : Nat) : Int) := by omega
       have hixa := fun (W : World) => Try.ix_u8 W ga oa m2 c2 i ha
       have HCA : Hid (∀ W : World, Below w.heap.size w W → W.cell? ⟨ga, oa + i, none⟩ = some (.int .u8 (xa.toNat : Int))) := Lib.hid (fun W hW => (hW.cell (p := ⟨ga, oa + i, none⟩) (World.block_lt_of_cell? w ⟨ga, oa + i, none⟩ hc0a)).trans hc0a)
       obtain ⟨ba, hba⟩ : ∃ ba, ba = xa % 2 + 1 := ⟨_, rfl⟩
       have hta : ((xa.toNat : Nat) : Int).tmod 2 = ((xa.toNat % 2 : Nat) : Int) := tmod_nat xa.toNat 2
       have hwa : ((xa.toNat % 2 : Nat) : Int) + 1 = (ba.toNat : Int) := by rw [hba]; have := xa.toNat_lt; simp [UInt8.toNat_add, UInt8.toNat_mod]; omega
       have hla : ba.toNat < 256 := ba.toNat_lt
       generalize xa.toNat % 2 = ra at hta hwa
       have HEA := Lib.hid (oneS_says (k := 2) (b := 1) (w := i) (by omega) hxa)
       rw [← hba] at HEA
       clear ha hc0a hxa hba hia
       by_cases hb : i < m3
       ·have hib : i < two.length := by have := H3.out.len; omega
        obtain ⟨gb, ob, rfl, hc0b⟩ := H3.out.cell i hib
        have hxb : (oneX lies says two i)[i]? = some two[i] := by unfold oneX; rw [hli]; simp [List.getElem?_eq_getElem hib]
        generalize two[i] = xb at hxb hc0b
        have hdb : decide ((i : Int) < (m3 : Int)) = true := decide_eq_true (by omega)
        have hzb : (i : Int) < ((m3 : Nat) : Int) := by omega
        have hixb := fun (W : World) => Try.ix_u8 W gb ob m3 c3 i hb
        have HCB : Hid (∀ W : World, Below w.heap.size w W → W.cell? ⟨gb, ob + i, none⟩ = some (.int .u8 (xb.toNat : Int))) := Lib.hid (fun W hW => (hW.cell (p := ⟨gb, ob + i, none⟩) (World.block_lt_of_cell? w ⟨gb, ob + i, none⟩ hc0b)).trans hc0b)
        obtain ⟨bb, hbb⟩ : ∃ bb, bb = xb % 2 + 1 := ⟨_, rfl⟩
        have htb : ((xb.toNat : Nat) : Int).tmod 2 = ((xb.toNat % 2 : Nat) : Int) := tmod_nat xb.toNat 2
        have hwb : ((xb.toNat % 2 : Nat) : Int) + 1 = (bb.toNat : Int) := by rw [hbb]; have := xb.toNat_lt; simp [UInt8.toNat_add, UInt8.toNat_mod]; omega
        have hlb : bb.toNat < 256 := bb.toNat_lt
        generalize xb.toNat % 2 = rb at htb hwb
        have HEB := Lib.hid (oneS_says (k := 2) (b := 2) (w := i) (by omega) hxb)
        rw [← hbb] at HEB
        clear hb hc0b hxb hbb hib
        clear hbl hli
        go_wp2_with (first
         | (refine wpList_load_to rfl 5 (.tmp 92) rfl (.pointer (some ⟨ga, oa + i, none⟩)) (.int .u8 (xa.toNat : Int)) rfl (load_one' (Try.agg_u8s _) (HCA.out _ HX.out)) ?_; simp only [Act.put, sq1, sq2, sq3])
         | (refine wpList_build_to rfl 27 _ rfl [(0, .int .u8 (ba.toNat : Int))] rfl (.agg (vs (dg1 ba)).toArray) (Try.bld_dg ba _) ?_; simp only [Act.put, sq1, sq2, sq3])
         | (go_at_call 42; (with_reducible refine (HF.out.commit V (oneS_low 2 1 lies says one i (by decide) (by omega)) HEA.out rfl).mono ?_); rintro e w8 ⟨rfl, hf⟩; have HFw8 := Lib.hid hf; clear hf)
         | (refine wpList_load_to rfl 5 (.tmp 106) rfl (.pointer (some ⟨gb, ob + i, none⟩)) (.int .u8 (xb.toNat : Int)) rfl (load_one' (Try.agg_u8s _) (HCB.out _ HFw8.out.below)) ?_; simp only [Act.put, sq1, sq2, sq3])
         | (refine wpList_build_to rfl 27 _ rfl [(0, .int .u8 (bb.toNat : Int))] rfl (.agg (vs (dg1 bb)).toArray) (Try.bld_dg bb _) ?_; simp only [Act.put, sq1, sq2, sq3])
         | (go_at_call 42; (with_reducible refine (HFw8.out.swap.commit V (oneS_low 2 2 lies says two i (by decide) (by omega)) HEB.out rfl).mono ?_); rintro e w9 ⟨rfl, hf⟩; have HFw9 := Lib.hid hf; clear hf))
        go_roundw
        case rel => exact ⟨i + 1, by omega, by go_num, HFw9.out.swap⟩
        case measure => simp [intOf]; omega
       ·have hxb : (oneX lies says two i)[i]? = none := by unfold oneX; rw [hli]; simp; have := H3.out.len; omega
        have HEB := Lib.hid (oneS_quiet (k := 2) (b := 2) hxb)
        clear hxb
        clear hbl hli
        go_wp2_with (first
         | (refine wpList_load_to rfl 5 (.tmp 92) rfl (.pointer (some ⟨ga, oa + i, none⟩)) (.int .u8 (xa.toNat : Int)) rfl (load_one' (Try.agg_u8s _) (HCA.out _ HX.out)) ?_; simp only [Act.put, sq1, sq2, sq3])
         | (refine wpList_build_to rfl 27 _ rfl [(0, .int .u8 (ba.toNat : Int))] rfl (.agg (vs (dg1 ba)).toArray) (Try.bld_dg ba _) ?_; simp only [Act.put, sq1, sq2, sq3])
         | (go_at_call 42; (with_reducible refine (HF.out.commit V (oneS_low 2 1 lies says one i (by decide) (by omega)) HEA.out rfl).mono ?_); rintro e w8 ⟨rfl, hf⟩; have HFw8 := Lib.hid hf; clear hf))
        go_roundw
        case rel => exact ⟨i + 1, by omega, by go_num, by rw [HEB.out]; exact HFw8.out⟩
        case measure => simp [intOf]; omega
      ·have hxa : (oneX lies says one i)[i]? = none := by unfold oneX; rw [hli]; simp; have := H2.out.len; omega
       have HEA := Lib.hid (oneS_quiet (k := 2) (b := 1) hxa)
       clear hxa
       by_cases hb : i < m3
       ·have hib : i < two.length := by have := H3.out.len; omega
        obtain ⟨gb, ob, rfl, hc0b⟩ := H3.out.cell i hib
        have hxb : (oneX lies says two i)[i]? = some two[i] := by unfold oneX; rw [hli]; simp [List.getElem?_eq_getElem hib]
        generalize two[i] = xb at hxb hc0b
        have hdb : decide ((i : Int) < (m3 : Int)) = true := decide_eq_true (by omega)
        have hzb : (i : Int) < ((m3 : Nat) : Int) := by omega
        have hixb := fun (W : World) => Try.ix_u8 W gb ob m3 c3 i hb
        have HCB : Hid (∀ W : World, Below w.heap.size w W → W.cell? ⟨gb, ob + i, none⟩ = some (.int .u8 (xb.toNat : Int))) := Lib.hid (fun W hW => (hW.cell (p := ⟨gb, ob + i, none⟩) (World.block_lt_of_cell? w ⟨gb, ob + i, none⟩ hc0b)).trans hc0b)
        obtain ⟨bb, hbb⟩ : ∃ bb, bb = xb % 2 + 1 := ⟨_, rfl⟩
        have htb : ((xb.toNat : Nat) : Int).tmod 2 = ((xb.toNat % 2 : Nat) : Int) := tmod_nat xb.toNat 2
        have hwb : ((xb.toNat % 2 : Nat) : Int) + 1 = (bb.toNat : Int) := by rw [hbb]; have := xb.toNat_lt; simp [UInt8.toNat_add, UInt8.toNat_mod]; omega
        have hlb : bb.toNat < 256 := bb.toNat_lt
        generalize xb.toNat % 2 = rb at htb hwb
        have HEB := Lib.hid (oneS_says (k := 2) (b := 2) (w := i) (by omega) hxb)
        rw [← hbb] at HEB
        clear hb hc0b hxb hbb hib
        clear hbl hli
        go_wp2_with (first
         | (refine wpList_load_to rfl 5 (.tmp 106) rfl (.pointer (some ⟨gb, ob + i, none⟩)) (.int .u8 (xb.toNat : Int)) rfl (load_one' (Try.agg_u8s _) (HCB.out _ HF.out.below)) ?_; simp only [Act.put, sq1, sq2, sq3])
         | (refine wpList_build_to rfl 27 _ rfl [(0, .int .u8 (bb.toNat : Int))] rfl (.agg (vs (dg1 bb)).toArray) (Try.bld_dg bb _) ?_; simp only [Act.put, sq1, sq2, sq3])
         | (go_at_call 42; (with_reducible refine (HF.out.swap.commit V (oneS_low 2 2 lies says two i (by decide) (by omega)) HEB.out rfl).mono ?_); rintro e w9 ⟨rfl, hf⟩; have HFw9 := Lib.hid hf; clear hf))
        go_roundw
        case rel => exact ⟨i + 1, by omega, by go_num, by rw [HEA.out]; exact HFw9.out.swap⟩
        case measure => simp [intOf]; omega
       ·have hxb : (oneX lies says two i)[i]? = none := by unfold oneX; rw [hli]; simp; have := H3.out.len; omega
        have HEB := Lib.hid (oneS_quiet (k := 2) (b := 2) hxb)
        clear hxb
        clear hbl hli
        go_wp2
        go_roundw
        case rel => exact ⟨i + 1, by omega, by go_num, by rw [HEA.out, HEB.out]; exact HF.out⟩
        case measure => simp [intOf]; omega
     | false =>
      obtain rfl : b = false := by rw [hbl, hli]
      by_cases ha : i < m1
      ·have hia : i < says.length := by have := H1.out.len; omega
       obtain ⟨ga, oa, rfl, hc0a⟩ := H1.out.cell i hia
       have hxa : (oneX lies says one i)[i]? = some says[i] := by unfold oneX; rw [hli]; simp [List.getElem?_eq_getElem hia]
       have hxb : (oneX lies says two i)[i]? = some says[i] := by unfold oneX at hxa ⊢; rw [hli] at hxa ⊢; exact hxa
       generalize says[i] = xa at hxa hc0a hxb
       have hda : decide ((i : Int) < (m1 : Int)) = true := decide_eq_true (by omega)
       have hza : (i : Int) < ((m1 : Nat) : Int) := by omega
       have hixa := fun (W : World) => Try.ix_u8 W ga oa m1 c1 i ha
       have HCA : Hid (∀ W : World, Below w.heap.size w W → W.cell? ⟨ga, oa + i, none⟩ = some (.int .u8 (xa.toNat : Int))) := Lib.hid (fun W hW => (hW.cell (p := ⟨ga, oa + i, none⟩) (World.block_lt_of_cell? w ⟨ga, oa + i, none⟩ hc0a)).trans hc0a)
       obtain ⟨ba, hba⟩ : ∃ ba, ba = xa % 2 + 1 := ⟨_, rfl⟩
       have hta : ((xa.toNat : Nat) : Int).tmod 2 = ((xa.toNat % 2 : Nat) : Int) := tmod_nat xa.toNat 2
       have hwa : ((xa.toNat % 2 : Nat) : Int) + 1 = (ba.toNat : Int) := by rw [hba]; have := xa.toNat_lt; simp [UInt8.toNat_add, UInt8.toNat_mod]; omega
       have hla : ba.toNat < 256 := ba.toNat_lt
       generalize xa.toNat % 2 = ra at hta hwa
       have HEA := Lib.hid (oneS_says (k := 2) (b := 1) (w := i) (by omega) hxa)
       rw [← hba] at HEA
       have HEB := Lib.hid (oneS_says (k := 2) (b := 2) (w := i) (by omega) hxb)
       rw [← hba] at HEB
       clear ha hc0a hxa hba hia hxb
       clear hbl hli
       go_wp2_with (first
        | (refine wpList_load_to rfl 5 (.tmp 92) rfl (.pointer (some ⟨ga, oa + i, none⟩)) (.int .u8 (xa.toNat : Int)) rfl (load_one' (Try.agg_u8s _) (HCA.out _ HX.out)) ?_; simp only [Act.put, sq1, sq2, sq3])
        | (refine wpList_build_to rfl 27 _ rfl [(0, .int .u8 (ba.toNat : Int))] rfl (.agg (vs (dg1 ba)).toArray) (Try.bld_dg ba _) ?_; simp only [Act.put, sq1, sq2, sq3])
        | (go_at_call 42; (with_reducible refine (HF.out.commit V (oneS_low 2 1 lies says one i (by decide) (by omega)) HEA.out rfl).mono ?_); rintro e w8 ⟨rfl, hf⟩; have HFw8 := Lib.hid hf; clear hf)
        | (refine wpList_load_to rfl 5 (.tmp 106) rfl (.pointer (some ⟨ga, oa + i, none⟩)) (.int .u8 (xa.toNat : Int)) rfl (load_one' (Try.agg_u8s _) (HCA.out _ HFw8.out.below)) ?_; simp only [Act.put, sq1, sq2, sq3])
        | (refine wpList_build_to rfl 27 _ rfl [(0, .int .u8 (ba.toNat : Int))] rfl (.agg (vs (dg1 ba)).toArray) (Try.bld_dg ba _) ?_; simp only [Act.put, sq1, sq2, sq3])
        | (go_at_call 42; (with_reducible refine (HFw8.out.swap.commit V (oneS_low 2 2 lies says two i (by decide) (by omega)) HEB.out rfl).mono ?_); rintro e w9 ⟨rfl, hf⟩; have HFw9 := Lib.hid hf; clear hf))
       go_roundw
       case rel => exact ⟨i + 1, by omega, by go_num, HFw9.out.swap⟩
       case measure => simp [intOf]; omega
      ·have hxa : (oneX lies says one i)[i]? = none := by unfold oneX; rw [hli]; simp; have := H1.out.len; omega
       have hxb : (oneX lies says two i)[i]? = none := by unfold oneX at hxa ⊢; rw [hli] at hxa ⊢; exact hxa
       have HEA := Lib.hid (oneS_quiet (k := 2) (b := 1) hxa)
       have HEB := Lib.hid (oneS_quiet (k := 2) (b := 2) hxb)
       clear hxa hxb
       clear hbl hli
       go_wp2
       go_roundw
       case rel => exact ⟨i + 1, by omega, by go_num, by rw [HEA.out, HEB.out]; exact HF.out⟩
       case measure => simp [intOf]; omega
  ·obtain rfl : i = 7 := by omega
   have hno := one_never (k := 2) liars says one two (by have := H4.out.len; omega) lies HLies.out
   cases hca : commB (oneS 2 1 lies says one 7) with
   | false =>
    go_wp2_with (first | (go_at_call 44; (with_reducible refine (HF.out.committed V (oneS_low 2 1 lies says one 7 (by decide) (by omega)) hca).mono ?_); rintro e w8 ⟨rfl, hf⟩; have HFw8 := Lib.hid hf; clear hf))
    go_ret
    exact ⟨rfl, HFw8.out.below⟩
   | true =>
    have hcb : commB (oneS 2 2 lies says two 7) = false := by
     cases h9 : commB (oneS 2 2 lies says two 7) with
     | false => rfl
     | true => exact absurd ⟨hca, h9⟩ hno
    go_wp2_with (first | (go_at_call 44; (with_reducible refine (HF.out.committed V (oneS_low 2 1 lies says one 7 (by decide) (by omega)) hca).mono ?_); rintro e w8 ⟨rfl, hf⟩; have HFw8 := Lib.hid hf; clear hf) | (go_at_call 44; (with_reducible refine (HFw8.out.swap.committed V (oneS_low 2 2 lies says two 7 (by decide) (by omega)) hcb).mono ?_); rintro e w9 ⟨rfl, hf⟩; have HFw9 := Lib.hid hf; clear hf))
    go_ret
    exact ⟨rfl, HFw9.out.below⟩

end Go.Proofs.Ytkpgjcahmpekbaa
