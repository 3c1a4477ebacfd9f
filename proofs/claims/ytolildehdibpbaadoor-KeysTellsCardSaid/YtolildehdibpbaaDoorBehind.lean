/-
  The program's sumBehind: a block, each byte with the mask, and a text behind it, summed up.
-/
import Derived.Test.YtolildehdibpbaaDoorMacW
import Derived.Test.YtolildehdibpbaaDoorSum
import Derived.Outline
namespace Go.Proofs.YtolildehdibpbaaDoor
open Go.RowKit

set_option maxHeartbeats 4000000 in
set_option maxRecDepth 100000 in
theorem behind_any (Q : Nat → Prop) (bs : List UInt8) (hbs : bs.length = 64) (m : UInt8) (xs : List UInt8) (A : Option Addr) (n c : Nat) (w : World) (hby : By w Q A n xs) (hnc : n ≤ c) (hcm : c ≤ maxLen) (ht : Tab w) (hlen : n ≤ 274877906944) :
    Calls Tryd.prog 33 #[.agg (vs bs).toArray, .int .u8 (m.toNat : Int), .slice A n c] w fun e w' => e = .returned (dig (sha (mask bs m ++ xs))) ∧ Below w.heap.size w w' := by
  have hl := hby.len
  have HL := Lib.hid hl
  have HBy : Hid (By w (· < w.heap.size) A n xs) := Lib.hid (hby.lt.weak fun _ h => h.2)
  have HT := Lib.hid ht
  have HG0 := Lib.hid ht.lt.1
  have HG1 := Lib.hid ht.lt.2
  have HCm := Lib.hid hcm
  have hml : (vs (mask bs m)).length = 64 := by rw [vs_length, mask_length, hbs]
  have hbl : (vs bs).length = 64 := by rw [vs_length, hbs]
  have HMl := Lib.hid hml
  have HBl := Lib.hid hbl
  obtain ⟨q, hq⟩ : ∃ q, q = vs bs := ⟨_, rfl⟩
  have hqb : Blk (w.alloc (.cells q.toArray 58)) w.heap.size 58 (vs bs) := by rw [hq]; exact Blk.fresh rfl rfl
  rw [← hq]
  have HQb := Lib.hid hqb
  clear hl hby ht hcm hml hbl hq hqb
  go_enter Tryd.func33, Tryd.ntmps33
  go_wp2
  go_loopw [9] (fun iv wr => ∃ i : Nat, i ≤ 64 ∧ iv = .int .i64 i ∧ Blk wr w.heap.size 58 (swp (vs (mask bs m)) (vs bs) i) ∧ Blk wr (w.heap.size + 1) 25 (vs zero32) ∧ Below w.heap.size w wr) (fun iv _ => 64 - (intOf iv).toNat)
  case atStart => exact ⟨0, by omega, rfl, by rw [swp_0]; exact HQb.out.alloc _, Blk.fresh (by simp) (by kernel_rfl), ((Below.refl _ w).alloc (Nat.le_refl _) _).alloc (by simp) _⟩
  case round =>
    obtain ⟨i, hi, rfl, hb, hz, hx⟩ := hrel
    by_cases hlt : i < 64
    · as_aux_lemma =>
      have hlb : i < bs.length := by rw [hbs]; exact hlt
      have hold : (vs bs)[i]? = some (u8 bs[i]) := by rw [vs_get, List.getElem?_eq_getElem hlb]; rfl
      have hnew : (vs (mask bs m))[i]? = some (u8 (bs[i] ^^^ m)) := by rw [vs_get, mask_at bs m i bs[i] (List.getElem?_eq_getElem hlb)]; rfl
      have hcz : (swp (vs (mask bs m)) (vs bs) i)[i]? = some (u8 bs[i]) := by rw [swp_at _ _ _ (by rw [HMl.out]; exact hlt)]; exact hold
      have hcd : wr.cell? ⟨w.heap.size, i, none⟩ = some (u8 bs[i]) := hb.cellAt hcz
      have hfd : wr.frozen? ⟨w.heap.size, i, none⟩ = false := hb.frozen _
      have HSet := Lib.hid (swp_set (vs (mask bs m)) (vs bs) i _ hnew (by rw [HBl.out]; exact hlt))
      generalize bs[i] = x at hcd HSet
      unfold u8 at hcd
      have hx8 := u8_xor_toNat
      have HB := Lib.hid hb
      have HZ := Lib.hid hz
      have HX := Lib.hid hx
      clear hb hz hx hcz hnew hold
      go_wp2
      go_roundw
      case rel =>
        have h := HB.out.set_ i (u8 (x ^^^ m))
        rw [HSet.out] at h
        exact ⟨i + 1, by omega, by go_num, h, HZ.out.far (by simp) _, HX.out.setCell (Nat.le_refl _) _⟩
      case measure => simp [intOf]; omega
    · as_aux_lemma =>
      have e64 : i = 64 := by omega
      rw [e64, swp_all _ _ 64 HMl.out HBl.out] at hb
      obtain ⟨ms, hms⟩ : ∃ ms, ms = mask bs m := ⟨_, rfl⟩
      have hmsl : ms.length = 64 := by rw [hms, mask_length, hbs]
      rw [← hms] at hb
      obtain ⟨r, hr⟩ : ∃ r, r = vs (sha (ms ++ xs)) := ⟨_, rfl⟩
      have hrl : r.length = 32 := by rw [hr, vs_length, sha_length]
      have hone : r.toArray.all (·.oneCell') = true := by rw [hr]; exact one_u8
      have hfin : dig (sha (ms ++ xs)) = .agg r.toArray := by rw [hr]; rfl
      have hsum : ∀ W g, HS W g (ms ++ xs) → Tab W → Calls Tryd.prog 28 #[.pointer (some ⟨g, 0, none⟩)] W fun e w' => e = .returned (.agg r.toArray) ∧ Below W.heap.size W w' := fun W g h1 h2 => by
        rw [← hfin]; exact sum_any g (ms ++ xs) W h1 h2 (by rw [List.length_append, hmsl, HL.out]; omega)
      have HF : Hid (dig (sha (mask bs m ++ xs)) = .agg r.toArray) := Lib.hid (by rw [← hms]; exact hfin)
      have HMsl := Lib.hid hmsl
      have HSum := Lib.hid hsum
      have HRl := Lib.hid hrl
      have HO := Lib.hid hone
      have HB := Lib.hid hb
      have HZ := Lib.hid hz
      have HX := Lib.hid hx
      clear hb hz hx e64 hms hmsl hr hrl hone hfin hsum
      have hmby : ∀ W, Below wr.heap.size wr W → By W (fun g => g < wr.heap.size) (some ⟨w.heap.size, 0, none⟩) 64 ms := fun W h => by
        have hbw := HB.out.through h
        exact By.of_blk_n hbw HMsl.out HB.out.lt
      have HMby := Lib.hid hmby
      have HTr := Lib.hid (HT.out.through HX.out)
      have HGr0 := Lib.hid (Nat.lt_of_lt_of_le HG0.out HX.out.size)
      have HGr1 := Lib.hid (Nat.lt_of_lt_of_le HG1.out HX.out.size)
      have HByr : Hid (By wr (· < wr.heap.size) A n xs) := Lib.hid ((HBy.out.through HX.out).weak fun g h => Nat.lt_of_lt_of_le h HX.out.size)
      obtain ⟨gh, hgh⟩ : ∃ gh, gh = wr.heap.size := ⟨_, rfl⟩
      have HN : Hid (∀ (e : Ending) (w1 : World), e = .returned (.pointer (some ⟨wr.heap.size, 0, none⟩)) ∧ HS w1 wr.heap.size [] ∧ Below wr.heap.size wr w1 → e = .returned (.pointer (some ⟨gh, 0, none⟩)) ∧ HS w1 gh [] ∧ Below wr.heap.size wr w1) := Lib.hid (by rw [hgh]; exact fun _ _ h => h)
      have HGh := Lib.hid hgh
      clear hmby hgh
      go_wp2_with (first
        | (go_at_call 26; refine (new_any _).mono ?_; intro e w1 hn; obtain ⟨rfl, hs1, hb1⟩ := HN.out e w1 hn; have HS1 := Lib.hid hs1; have HY1 := Lib.hid hb1; clear hs1 hb1 hn)
        | (go_at_call 27; (with_reducible refine (add_any gh [] ms (some ⟨w.heap.size, 0, none⟩) 64 64 w1 ((HMby.out w1 HY1.out).weak fun g h => by rw [HGh.out]; exact Nat.ne_of_lt h) (Nat.le_refl _) (by unfold maxLen; omega) HS1.out (HTr.out.through HY1.out) (by rw [HGh.out]; exact HGr0.out) (by rw [HGh.out]; exact HGr1.out) (by simp)).mono ?_); rintro e w2 ⟨rfl, hs2, ho2⟩; have HS2 : Hid (HS w2 gh ms) := Lib.hid hs2; have HY2 := Lib.hid (HY1.out.grown ho2 HY1.out.size (fun g hg => by injection hg with hg; rw [← hg, HGh.out]; exact Nat.le_refl _)); clear hs2 ho2)
        | (go_at_call 27; (with_reducible refine (add_any gh ms xs A n c w2 ((HByr.out.through HY2.out).weak fun g h => by rw [HGh.out]; exact Nat.ne_of_lt h) hnc HCm.out HS2.out (HTr.out.through HY2.out) (by rw [HGh.out]; exact HGr0.out) (by rw [HGh.out]; exact HGr1.out) (by rw [HMsl.out]; omega)).mono ?_); rintro e w3 ⟨rfl, hs3, ho3⟩; have HS3 := Lib.hid hs3; have HY3 := Lib.hid (HY2.out.grown ho3 HY2.out.size (fun g hg => by injection hg with hg; rw [← hg, HGh.out]; exact Nat.le_refl _)); clear hs3 ho3)
        | (go_at_call 28; refine (HSum.out _ gh HS3.out (HTr.out.through HY3.out)).mono ?_; rintro e w4 ⟨rfl, hb4⟩; have HY4 := Lib.hid (HY3.out.trans (hb4.mono HY3.out.size)); have HZ4 := Lib.hid (HZ.out.through HY4.out); have HX4 := Lib.hid (HX.out.trans (HY4.out.mono HX.out.size)); clear hb4)
        | (refine wpList_store_row rfl 25 (.tmp 6) (.tmp 27) rfl (w.heap.size + 1) r.toArray rfl rfl 25 (vs zero32).toArray HZ4.out (by rw [List.size_toArray, HRl.out]; kernel_rfl) (by rw [List.size_toArray, List.size_toArray, HRl.out]; rfl) HO.out ?_))
      refine bodyPost_ret (v := .agg r.toArray) (results_cell_row rfl _ _ (w.heap.size + 1) 25 _ (0, 0) _ rfl (HZ4.out.row _) Tryd.underlying25 rfl ?r1) rfl ⟨by rw [HF.out], below_row HX4.out _ (Nat.le_succ _) _⟩
      rw [List.size_toArray, HRl.out]; kernel_rfl

end Go.Proofs.YtolildehdibpbaaDoor
