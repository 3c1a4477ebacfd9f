/-
  Joined (see wip/m), for a seat with the base told ahead.
-/
import Derived.Test.YtnncfhkgcaoomaaDoorLB
import Derived.Laws.BitsAllLaws
import Derived.IntWalk
import Derived.Outline
import Derived.RegionTactic
import Derived.ChangeAlike
import Derived.StillTailTactics
import Derived.Deep.QuietTactic
import Derived.BigQuiet
namespace Go.Proofs.YtnncfhkgcaoomaaDoor
open Go.RowKit

/-- what a key is, if it is longer than a block -/
def short (k : List UInt8) : List UInt8 := if 64 < k.length then sha k else k

/-- a key, as long as a block -/
def key64 (k : List UInt8) : List UInt8 := short k ++ List.replicate (64 - (short k).length) 0

def mask (b : List UInt8) (m : UInt8) : List UInt8 := b.map (· ^^^ m)

/-- THE TAG. -/
def hmac (key text : List UInt8) : List UInt8 := sha (mask (key64 key) 92 ++ sha (mask (key64 key) 54 ++ text))

theorem short_le (k : List UInt8) : (short k).length ≤ 64 := by
  unfold short
  split
  · rw [sha_length]; omega
  · omega

theorem key64_length (k : List UInt8) : (key64 k).length = 64 := by
  have := short_le k
  simp [key64]
  omega

theorem mask_length (b : List UInt8) (m : UInt8) : (mask b m).length = b.length := by simp [mask]

theorem hmac_length (key text : List UInt8) : (hmac key text).length = 32 := sha_length _

theorem mask_at (b : List UInt8) (m : UInt8) (i : Nat) (x : UInt8) (h : b[i]? = some x) : (mask b m)[i]? = some (x ^^^ m) := by simp [mask, h]

/-- two bytes, xor -/
theorem u8_xor_toNat (x y : UInt8) : bits .xor .u8 (x.toNat : Int) (y.toNat : Int) = ((x ^^^ y).toNat : Int) := by
  rw [u8_xor_nat _ _ x.toNat_lt y.toNat_lt, UInt8.toNat_xor]

def zero64 : List UInt8 := List.replicate 64 0

theorem splice_key (k : List UInt8) : splice (vs zero64) 0 (vs k) = vs (k ++ List.replicate (64 - k.length) 0) := by
  unfold splice zero64
  simp [vs, -List.reduceReplicate]

theorem i64_or_nat (a b : Nat) (ha : a < 9223372036854775808) (hb : b < 9223372036854775808) : bits .or .i64 (a : Int) (b : Int) = ((a ||| b : Nat) : Int) := by
  have hx : a ||| b < 2 ^ 63 := Nat.or_lt_two_pow (by omega) (by omega)
  show IntKind.i64.wrap ((BitVec.ofInt 64 (a : Int) ||| BitVec.ofInt 64 (b : Int)).toNat : Int) = _
  rw [BitVec.toNat_or, ofInt_u64 a (by omega), ofInt_u64 b (by omega)]
  exact IntWalk.i64_in _ (by omega)

theorem i64_xor_nat (a b : Nat) (ha : a < 9223372036854775808) (hb : b < 9223372036854775808) : bits .xor .i64 (a : Int) (b : Int) = ((a ^^^ b : Nat) : Int) := by
  have hx : a ^^^ b < 2 ^ 63 := Nat.xor_lt_two_pow (by omega) (by omega)
  show IntKind.i64.wrap ((BitVec.ofInt 64 (a : Int) ^^^ BitVec.ofInt 64 (b : Int)).toNat : Int) = _
  rw [BitVec.toNat_xor, ofInt_u64 a (by omega), ofInt_u64 b (by omega)]
  exact IntWalk.i64_in _ (by omega)

theorem fill_1 {w w1 : World} (hb1 : Below ((w.alloc (.cells (vs zero64).toArray 62)).alloc (.cells (vs zero64).toArray 62)).heap.size ((w.alloc (.cells (vs zero64).toArray 62)).alloc (.cells (vs zero64).toArray 62)) w1) :
    Blk w1 w.heap.size 62 (vs zero64) ∧ Blk w1 (w.heap.size + 1) 62 (vs zero64) ∧ w.heap.size + 2 ≤ w1.heap.size ∧ Below w.heap.size w w1 := by
  have hs := hb1.size
  simp at hs
  refine ⟨((Blk.fresh rfl rfl).alloc _).through hb1, (Blk.fresh (by simp) rfl).through hb1, by omega, (((Below.refl _ w).alloc (Nat.le_refl _) _).alloc (by simp) _).trans (hb1.mono ?_)⟩
  simp only [World.size_alloc] at *
  omega

set_option maxHeartbeats 2000000 in
set_option maxRecDepth 100000 in
theorem fill_any (Q : Nat → Prop) (xs : List UInt8) (A : Option Addr) (n c : Nat) (w : World) (hby : By w Q A n xs) (hnc : n ≤ c) (hcm : c ≤ maxLen) (ht : Tab w) (hlen : n ≤ 549755813888) :
    Calls Tryd.prog 23 #[.slice A n c] w fun e w' => e = .returned (.agg (vs (key64 xs)).toArray) ∧ Below w.heap.size w w' := by
  have hl := hby.len
  have HBy := Lib.hid hby
  have HT := Lib.hid ht
  obtain ⟨r, hr⟩ : ∃ r, r = vs (key64 xs) := ⟨_, rfl⟩
  have hrl : r.length = 64 := by rw [hr, vs_length, key64_length]
  have hone : r.toArray.all (·.oneCell') = true := by rw [hr]; exact one_u8
  have HRl := Lib.hid hrl
  have HO := Lib.hid hone
  by_cases h64 : 64 < n
  · have hsp : splice (vs zero64) 0 (vs (sha xs)) = r := by
      rw [splice_key, hr, key64]
      simp [short, hl, h64]
    obtain ⟨q, hq⟩ : ∃ q, q = vs (sha xs) := ⟨_, rfl⟩
    have hql : q.length = 32 := by rw [hq, vs_length, sha_length]
    have hqone : q.toArray.all (·.oneCell') = true := by rw [hq]; exact one_u8
    have hsum : ∀ W, By W Q A n xs → Tab W → Calls Tryd.prog 26 #[.slice A n c] W fun e w' => e = .returned (.agg q.toArray) ∧ Below W.heap.size W w' := fun W h1 h2 => by
      rw [hq]; exact sumb_any Q xs A n c W h1 hnc hcm h2 hlen
    have HSum := Lib.hid hsum
    have HQl := Lib.hid hql
    have HQo := Lib.hid hqone
    have HQ := Lib.hid hq
    rw [← hr]
    clear hby ht hr hrl hone hq hql hqone hsum
    go_enter Tryd.func23, Tryd.ntmps23
    have HSp := Lib.hid hsp
    clear hsp
    go_wp2_with (first
      | (go_at_call 26; refine (HSum.out _ ((HBy.out.alloc _).alloc _) (HT.out.through (((Below.refl _ w).alloc (Nat.le_refl _) _).alloc (by simp) _))).mono ?_; rintro e w1 ⟨rfl, hb1⟩; have hu := fill_1 hb1; have HX1 := Lib.hid hu.2.2.2; have HZ2 := Lib.hid hu.1; have HZ3 := Lib.hid hu.2.1; have h1s := hu.2.2.1; clear hu hb1)
      | (refine wpList_store_blk rfl 64 (.tmp 4) (.tmp 9) rfl w1.heap.size q rfl rfl 64 (vs zero32) (Blk.fresh rfl (by kernel_rfl)) (by rw [HQl.out]; kernel_rfl) (by rw [HQl.out]; rfl) HQo.out ?_; intro w2 hb2 ho2; have HX2 := Lib.hid ((HX1.out.alloc HX1.out.size _).grown ho2 (Nat.le_trans HX1.out.size (by simp)) (fun g hg => Option.some.inj hg ▸ HX1.out.size)); have HY2 := Lib.hid ((HZ2.out.alloc _).grown ho2 (by simp <;> omega)); have HY3 := Lib.hid ((HZ3.out.alloc _).grown ho2 (by simp <;> omega)); have HQb : Hid (By w2 (fun _ => True) (some ⟨w1.heap.size, 0, none⟩) 32 (sha xs)) := Lib.hid (by rw [HQ.out] at hb2; exact By.of_blk_n hb2 (sha_length xs) trivial); clear hb2 ho2)
      | (refine wpList_copy_splice rfl (.tmp 11) (.tmp 12) 22 22 rfl 5 Tryd.underlying22 (by kernel_rfl) _ (some ⟨w1.heap.size, 0, none⟩) 64 64 32 32 rfl rfl (w.heap.size + 1) 0 (vs zero64) 62 HY3.out (vs (sha xs)) (by rw [vs_length, sha_length]; decide) (fun hpos => ⟨rfl, HQb.out.srcAll hpos⟩) (by rw [vs_length, sha_length]; decide) vs_one (w.heap.size + 1) w2 (Below.refl _ _) (Nat.le_refl _) ?_; intro w3 hg3 hb3; have HB3' : Hid (Blk w3 (w.heap.size + 1) 62 r) := Lib.hid (by rw [← HSp.out]; exact hg3.out); have HB2' : Hid (Blk w3 w.heap.size 62 (vs zero64)) := Lib.hid ((HY2.out).below hb3 (Nat.lt_succ_self _)); have HX3 := Lib.hid ((HX2.out).trans (hb3.mono (Nat.le_succ _))); clear hg3 hb3)
      | (refine wpList_load_blk rfl 62 (.tmp 3) rfl (w.heap.size + 1) rfl 62 r _ HB3'.out Tryd.underlying62 rfl (by rw [HRl.out]; kernel_rfl) ?_)
      | (refine wpList_store_row rfl 62 (.tmp 2) (.tmp 14) rfl w.heap.size r.toArray rfl rfl 62 (vs zero64).toArray HB2'.out (by rw [List.size_toArray, HRl.out]; kernel_rfl) (by rw [List.size_toArray, List.size_toArray, HRl.out]; rfl) HO.out ?_))
    refine bodyPost_ret (v := .agg r.toArray) (results_cell_row rfl _ _ w.heap.size 62 _ (0, 0) _ rfl (HB2'.out.row _) Tryd.underlying62 rfl ?r1) rfl ⟨rfl, below_row HX3.out _ (Nat.le_refl _) _⟩
    rw [List.size_toArray, HRl.out]; kernel_rfl
  · have hsp : splice (vs zero64) 0 (vs xs) = r := by
      rw [splice_key, hr, key64]
      simp [short, hl, h64]
    have HSp := Lib.hid hsp
    have HL := Lib.hid hl
    have HM : Hid (xs.length = Nat.min n 64) := Lib.hid (by rw [hl]; exact (Nat.min_eq_left (by omega)).symm)
    rw [← hr]
    clear hby ht hr hrl hone hsp hl
    go_enter Tryd.func23, Tryd.ntmps23
    go_wp2_with (first
      | (refine wpList_copy_splice rfl (.tmp 11) (.tmp 12) 22 22 rfl 5 Tryd.underlying22 (by kernel_rfl) _ A 64 64 n c rfl rfl (w.heap.size + 1) 0 (vs zero64) 62 (Blk.fresh (by simp) (by kernel_rfl)) (vs xs) (by rw [vs_length]; exact HM.out) (fun hpos => ⟨rfl, ((HBy.out.alloc _).alloc _).srcAll hpos⟩) (by rw [vs_length, HL.out]; simp [zero64, vs]; omega) vs_one (w.heap.size + 1) _ (Below.refl _ _) (Nat.le_refl _) ?_; intro w3 hg3 hb3; have HB3' : Hid (Blk w3 (w.heap.size + 1) 62 r) := Lib.hid (by rw [← HSp.out]; exact hg3.out); have HB2' : Hid (Blk w3 w.heap.size 62 (vs zero64)) := Lib.hid (((Blk.fresh (t := 62) (cs := vs zero64) rfl (by kernel_rfl)).alloc _).below hb3 (Nat.lt_succ_self _)); have HX3 := Lib.hid ((((Below.refl _ w).alloc (Nat.le_refl _) _).alloc (by simp) _).trans (hb3.mono (Nat.le_succ _))); clear hg3 hb3)
      | (refine wpList_load_blk rfl 62 (.tmp 3) rfl (w.heap.size + 1) rfl 62 r _ HB3'.out Tryd.underlying62 rfl (by rw [HRl.out]; kernel_rfl) ?_)
      | (refine wpList_store_row rfl 62 (.tmp 2) (.tmp 14) rfl w.heap.size r.toArray rfl rfl 62 (vs zero64).toArray HB2'.out (by rw [List.size_toArray, HRl.out]; kernel_rfl) (by rw [List.size_toArray, List.size_toArray, HRl.out]; rfl) HO.out ?_))
    refine bodyPost_ret (v := .agg r.toArray) (results_cell_row rfl _ _ w.heap.size 62 _ (0, 0) _ rfl (HB2'.out.row _) Tryd.underlying62 rfl ?r2) rfl ⟨rfl, below_row HX3.out _ (Nat.le_refl _) _⟩
    rw [List.size_toArray, HRl.out]; kernel_rfl

set_option maxHeartbeats 4000000 in
set_option maxRecDepth 100000 in
theorem behind_any (Q : Nat → Prop) (bs : List UInt8) (hbs : bs.length = 64) (m : UInt8) (xs : List UInt8) (A : Option Addr) (n c : Nat) (w : World) (hby : By w Q A n xs) (hnc : n ≤ c) (hcm : c ≤ maxLen) (ht : Tab w) (hlen : n ≤ 274877906944) :
    Calls Tryd.prog 24 #[.agg (vs bs).toArray, .int .u8 (m.toNat : Int), .slice A n c] w fun e w' => e = .returned (dig (sha (mask bs m ++ xs))) ∧ Below w.heap.size w w' := by
  have hl := hby.len
  have HL := Lib.hid hl
  have HBy : Hid (By w (· < w.heap.size) A n xs) := Lib.hid (hby.lt.weak fun _ h => h.2)
  have HT := Lib.hid ht
  have HG0 := Lib.hid ht.lt.1
  have HG1 := Lib.hid ht.lt.2
  have HCm := Lib.hid hcm
  have hml : (vs (mask bs m)).length = 64 := by rw [vs_length, mask_length, hbs]
  have hbl : (vs bs).length = 64 := by rw [vs_length, hbs]
  have HMl := Lib.hid hml
  have HBl := Lib.hid hbl
  obtain ⟨q, hq⟩ : ∃ q, q = vs bs := ⟨_, rfl⟩
  have hqb : Blk (w.alloc (.cells q.toArray 62)) w.heap.size 62 (vs bs) := by rw [hq]; exact Blk.fresh rfl rfl
  rw [← hq]
  have HQb := Lib.hid hqb
  clear hl hby ht hcm hml hbl hq hqb
  go_enter Tryd.func24, Tryd.ntmps24
  go_wp2
  go_loopw [9] (fun iv wr => ∃ i : Nat, i ≤ 64 ∧ iv = .int .i64 i ∧ Blk wr w.heap.size 62 (swp (vs (mask bs m)) (vs bs) i) ∧ Blk wr (w.heap.size + 1) 64 (vs zero32) ∧ Below w.heap.size w wr) (fun iv _ => 64 - (intOf iv).toNat)
  case atStart => exact ⟨0, by omega, rfl, by rw [swp_0]; exact HQb.out.alloc _, Blk.fresh (by simp) (by kernel_rfl), ((Below.refl _ w).alloc (Nat.le_refl _) _).alloc (by simp) _⟩
  case round =>
    obtain ⟨i, hi, rfl, hb, hz, hx⟩ := hrel
    by_cases hlt : i < 64
    · as_aux_lemma =>
      have hlb : i < bs.length := by rw [hbs]; exact hlt
      have hold : (vs bs)[i]? = some (u8 bs[i]) := by rw [vs_get, List.getElem?_eq_getElem hlb]; rfl
      have hnew : (vs (mask bs m))[i]? = some (u8 (bs[i] ^^^ m)) := by rw [vs_get, mask_at bs m i bs[i] (List.getElem?_eq_getElem hlb)]; rfl
      have hcz : (swp (vs (mask bs m)) (vs bs) i)[i]? = some (u8 bs[i]) := by rw [swp_at _ _ _ (by rw [HMl.out]; exact hlt)]; exact hold
      have hcd : wr.cell? ⟨w.heap.size, i, none⟩ = some (u8 bs[i]) := hb.cellAt hcz
      have hfd : wr.frozen? ⟨w.heap.size, i, none⟩ = false := hb.frozen _
      have HSet := Lib.hid (swp_set (vs (mask bs m)) (vs bs) i _ hnew (by rw [HBl.out]; exact hlt))
      generalize bs[i] = x at hcd HSet
      unfold u8 at hcd
      have hx8 := u8_xor_toNat
      have HB := Lib.hid hb
      have HZ := Lib.hid hz
      have HX := Lib.hid hx
      clear hb hz hx hcz hnew hold
      go_wp2
      go_roundw
      case rel =>
        have h := HB.out.set_ i (u8 (x ^^^ m))
        rw [HSet.out] at h
        exact ⟨i + 1, by omega, by go_num, h, HZ.out.far (by simp) _, HX.out.setCell (Nat.le_refl _) _⟩
      case measure => simp [intOf]; omega
    · as_aux_lemma =>
      have e64 : i = 64 := by omega
      rw [e64, swp_all _ _ 64 HMl.out HBl.out] at hb
      obtain ⟨ms, hms⟩ : ∃ ms, ms = mask bs m := ⟨_, rfl⟩
      have hmsl : ms.length = 64 := by rw [hms, mask_length, hbs]
      rw [← hms] at hb
      obtain ⟨r, hr⟩ : ∃ r, r = vs (sha (ms ++ xs)) := ⟨_, rfl⟩
      have hrl : r.length = 32 := by rw [hr, vs_length, sha_length]
      have hone : r.toArray.all (·.oneCell') = true := by rw [hr]; exact one_u8
      have hfin : dig (sha (ms ++ xs)) = .agg r.toArray := by rw [hr]; rfl
      have hsum : ∀ W g, HS W g (ms ++ xs) → Tab W → Calls Tryd.prog 29 #[.pointer (some ⟨g, 0, none⟩)] W fun e w' => e = .returned (.agg r.toArray) ∧ Below W.heap.size W w' := fun W g h1 h2 => by
        rw [← hfin]; exact sum_any g (ms ++ xs) W h1 h2 (by rw [List.length_append, hmsl, HL.out]; omega)
      have HF : Hid (dig (sha (mask bs m ++ xs)) = .agg r.toArray) := Lib.hid (by rw [← hms]; exact hfin)
      have HMsl := Lib.hid hmsl
      have HSum := Lib.hid hsum
      have HRl := Lib.hid hrl
      have HO := Lib.hid hone
      have HB := Lib.hid hb
      have HZ := Lib.hid hz
      have HX := Lib.hid hx
      clear hb hz hx e64 hms hmsl hr hrl hone hfin hsum
      have hmby : ∀ W, Below wr.heap.size wr W → By W (fun g => g < wr.heap.size) (some ⟨w.heap.size, 0, none⟩) 64 ms := fun W h => by
        have hbw := HB.out.through h
        exact By.of_blk_n hbw HMsl.out HB.out.lt
      have HMby := Lib.hid hmby
      have HTr := Lib.hid (HT.out.through HX.out)
      have HGr0 := Lib.hid (Nat.lt_of_lt_of_le HG0.out HX.out.size)
      have HGr1 := Lib.hid (Nat.lt_of_lt_of_le HG1.out HX.out.size)
      have HByr : Hid (By wr (· < wr.heap.size) A n xs) := Lib.hid ((HBy.out.through HX.out).weak fun g h => Nat.lt_of_lt_of_le h HX.out.size)
      obtain ⟨gh, hgh⟩ : ∃ gh, gh = wr.heap.size := ⟨_, rfl⟩
      have HN : Hid (∀ (e : Ending) (w1 : World), e = .returned (.pointer (some ⟨wr.heap.size, 0, none⟩)) ∧ HS w1 wr.heap.size [] ∧ Below wr.heap.size wr w1 → e = .returned (.pointer (some ⟨gh, 0, none⟩)) ∧ HS w1 gh [] ∧ Below wr.heap.size wr w1) := Lib.hid (by rw [hgh]; exact fun _ _ h => h)
      have HGh := Lib.hid hgh
      clear hmby hgh
      go_wp2_with (first
        | (go_at_call 27; refine (new_any _).mono ?_; intro e w1 hn; obtain ⟨rfl, hs1, hb1⟩ := HN.out e w1 hn; have HS1 := Lib.hid hs1; have HY1 := Lib.hid hb1; clear hs1 hb1 hn)
        | (go_at_call 28; (with_reducible refine (add_any gh [] ms (some ⟨w.heap.size, 0, none⟩) 64 64 w1 ((HMby.out w1 HY1.out).weak fun g h => by rw [HGh.out]; exact Nat.ne_of_lt h) (Nat.le_refl _) (by unfold maxLen; omega) HS1.out (HTr.out.through HY1.out) (by rw [HGh.out]; exact HGr0.out) (by rw [HGh.out]; exact HGr1.out) (by simp)).mono ?_); rintro e w2 ⟨rfl, hs2, ho2⟩; have HS2 : Hid (HS w2 gh ms) := Lib.hid hs2; have HY2 := Lib.hid (HY1.out.grown ho2 HY1.out.size (fun g hg => by injection hg with hg; rw [← hg, HGh.out]; exact Nat.le_refl _)); clear hs2 ho2)
        | (go_at_call 28; (with_reducible refine (add_any gh ms xs A n c w2 ((HByr.out.through HY2.out).weak fun g h => by rw [HGh.out]; exact Nat.ne_of_lt h) hnc HCm.out HS2.out (HTr.out.through HY2.out) (by rw [HGh.out]; exact HGr0.out) (by rw [HGh.out]; exact HGr1.out) (by rw [HMsl.out]; omega)).mono ?_); rintro e w3 ⟨rfl, hs3, ho3⟩; have HS3 := Lib.hid hs3; have HY3 := Lib.hid (HY2.out.grown ho3 HY2.out.size (fun g hg => by injection hg with hg; rw [← hg, HGh.out]; exact Nat.le_refl _)); clear hs3 ho3)
        | (go_at_call 29; refine (HSum.out _ gh HS3.out (HTr.out.through HY3.out)).mono ?_; rintro e w4 ⟨rfl, hb4⟩; have HY4 := Lib.hid (HY3.out.trans (hb4.mono HY3.out.size)); have HZ4 := Lib.hid (HZ.out.through HY4.out); have HX4 := Lib.hid (HX.out.trans (HY4.out.mono HX.out.size)); clear hb4)
        | (refine wpList_store_row rfl 64 (.tmp 6) (.tmp 27) rfl (w.heap.size + 1) r.toArray rfl rfl 64 (vs zero32).toArray HZ4.out (by rw [List.size_toArray, HRl.out]; kernel_rfl) (by rw [List.size_toArray, List.size_toArray, HRl.out]; rfl) HO.out ?_))
      refine bodyPost_ret (v := .agg r.toArray) (results_cell_row rfl _ _ (w.heap.size + 1) 64 _ (0, 0) _ rfl (HZ4.out.row _) Tryd.underlying64 rfl ?r1) rfl ⟨by rw [HF.out], below_row HX4.out _ (Nat.le_succ _) _⟩
      rw [List.size_toArray, HRl.out]; kernel_rfl

theorem Tab.drew_ {w : World} (h : Tab w) : Tab w.drew := h

set_option maxHeartbeats 4000000 in
set_option maxRecDepth 100000 in
theorem of_any (Q Q' : Nat → Prop) (key text : List UInt8) (A A' : Option Addr) (n c n' c' : Nat) (w : World) (hby : By w Q A n key) (hnc : n ≤ c) (hcm : c ≤ maxLen) (hby' : By w Q' A' n' text) (hnc' : n' ≤ c') (hcm' : c' ≤ maxLen) (ht : Tab w) (hlen : n ≤ 274877906944) (hlen' : n' ≤ 274877906944) :
    Calls Tryd.prog 17 #[.slice A n c, .slice A' n' c'] w fun e w' => e = .returned (dig (hmac key text)) ∧ Below w.heap.size w w' := by
  have HBy := Lib.hid hby
  have HBy' := Lib.hid hby'
  have HT := Lib.hid ht
  obtain ⟨kk, hkk⟩ : ∃ kk, kk = vs (key64 key) := ⟨_, rfl⟩
  have hkl : kk.length = 64 := by rw [hkk, vs_length, key64_length]
  have hko : kk.toArray.all (·.oneCell') = true := by rw [hkk]; exact one_u8
  obtain ⟨inner, hin⟩ : ∃ inner, inner = sha (mask (key64 key) 54 ++ text) := ⟨_, rfl⟩
  have hil : inner.length = 32 := by rw [hin, sha_length]
  obtain ⟨q, hq⟩ : ∃ q, q = vs inner := ⟨_, rfl⟩
  have hql : q.length = 32 := by rw [hq, vs_length, hil]
  have hqo : q.toArray.all (·.oneCell') = true := by rw [hq]; exact one_u8
  obtain ⟨r, hr⟩ : ∃ r, r = vs (hmac key text) := ⟨_, rfl⟩
  have hrl : r.length = 32 := by rw [hr, vs_length, hmac_length]
  have hro : r.toArray.all (·.oneCell') = true := by rw [hr]; exact one_u8
  have hf : dig (hmac key text) = .agg r.toArray := by rw [hr]; rfl
  have hfill : ∀ W, By W Q A n key → Tab W → Calls Tryd.prog 23 #[.slice A n c] W fun e w' => e = .returned (.agg kk.toArray) ∧ Below W.heap.size W w' := fun W h1 h2 => by
    rw [hkk]; exact fill_any Q key A n c W h1 hnc hcm h2 (by omega)
  have hof1 : ∀ W, By W Q' A' n' text → Tab W → Calls Tryd.prog 24 #[.agg kk.toArray, .int .u8 54, .slice A' n' c'] W fun e w' => e = .returned (.agg q.toArray) ∧ Below W.heap.size W w' := fun W h1 h2 => by
    have h := behind_any Q' (key64 key) (key64_length key) 54 text A' n' c' W h1 hnc' hcm' h2 hlen'
    rw [hkk, hq, hin]; exact h
  have hof2 : ∀ W g, By W (fun _ => True) (some ⟨g, 0, none⟩) 32 inner → Tab W → Calls Tryd.prog 24 #[.agg kk.toArray, .int .u8 92, .slice (some ⟨g, 0, none⟩) 32 32] W fun e w' => e = .returned (.agg r.toArray) ∧ Below W.heap.size W w' := fun W g h1 h2 => by
    have h := behind_any _ (key64 key) (key64_length key) 92 inner (some ⟨g, 0, none⟩) 32 32 W h1 (Nat.le_refl _) (by unfold maxLen; omega) h2 (by omega)
    rw [hkk, hr]
    unfold hmac
    rw [← hin]
    exact h
  have HFill := Lib.hid hfill
  have HOf1 := Lib.hid hof1
  have HOf2 := Lib.hid hof2
  have HKl := Lib.hid hkl
  have HKo := Lib.hid hko
  have HQl := Lib.hid hql
  have HQo := Lib.hid hqo
  have HRl := Lib.hid hrl
  have HRo := Lib.hid hro
  have HF := Lib.hid hf
  have HQe := Lib.hid hq
  have HIl := Lib.hid hil
  clear hby hby' ht hkk hkl hko hin hil hq hql hqo hr hrl hro hf hfill hof1 hof2
  go_enter Tryd.func17, Tryd.ntmps17
  go_wp2_with (first
    | (go_at_call 23; (with_reducible refine (HFill.out _ (HBy.out.alloc _) (HT.out.through ((Below.refl _ w).alloc (Nat.le_refl _) _))).mono ?_); rintro e w1 ⟨rfl, hb1⟩; have HX1 : Hid (Below w.heap.size w w1) := Lib.hid (((Below.refl _ w).alloc (Nat.le_refl _) _).trans (hb1.mono (by simp))); have hg1 : w.heap.size < w1.heap.size := Nat.lt_of_lt_of_le (by simp) hb1.size; have HB1 : Hid (Blk w1 w.heap.size 37 (vs zero32)) := Lib.hid ((Blk.fresh rfl (by kernel_rfl)).through hb1); clear hb1)
    | (refine wpList_store_blk rfl 62 (.tmp 5) (.tmp 8) rfl w1.heap.size kk rfl rfl 62 (vs zero64) (Blk.fresh rfl (by kernel_rfl)) (by rw [HKl.out]; kernel_rfl) (by rw [HKl.out]; rfl) HKo.out ?_; intro w2 hb2 ho2; have HX2 := Lib.hid ((HX1.out.alloc HX1.out.size _).grown ho2 (Nat.le_trans HX1.out.size (by simp)) (fun g hg => Option.some.inj hg ▸ HX1.out.size)); have HB2 := Lib.hid ((HB1.out.alloc _).grown ho2 (by simp; omega)); have HK2 := Lib.hid hb2; have hg2 : w1.heap.size < w2.heap.size := hb2.lt; clear hb2 ho2)
    | (refine wpList_load_blk rfl 62 (.tmp 5) rfl w1.heap.size rfl 62 kk _ HK2.out Tryd.underlying62 rfl (by rw [HKl.out]; kernel_rfl) ?_)
    | (go_at_call 24; (with_reducible refine (HOf1.out _ (HBy'.out.through HX2.out) (HT.out.through HX2.out)).mono ?_); rintro e w3 ⟨rfl, hb3⟩; have HX3 := Lib.hid (HX2.out.trans (hb3.mono HX2.out.size)); have HB3 := Lib.hid (HB2.out.through hb3); have HK3 := Lib.hid (HK2.out.through hb3); have hg3 : w1.heap.size < w3.heap.size := Nat.lt_of_lt_of_le hg2 hb3.size; clear hb3)
    | (refine wpList_store_blk rfl 64 (.tmp 6) (.tmp 11) rfl w3.heap.size q rfl rfl 64 (vs zero32) (Blk.fresh rfl (by kernel_rfl)) (by rw [HQl.out]; kernel_rfl) (by rw [HQl.out]; rfl) HQo.out ?_; intro w6 hb6 ho6; have HX6 := Lib.hid ((HX3.out.alloc HX3.out.size _).grown ho6 (Nat.le_trans HX3.out.size (by simp)) (fun g hg => Option.some.inj hg ▸ HX3.out.size)); have HB4 := Lib.hid ((HB3.out.alloc _).grown ho6 (by simp; omega)); have HB5 := Lib.hid ((HK3.out.alloc _).grown ho6 (by simp; omega)); have HI6 : Hid (By w6 (fun _ => True) (some ⟨w3.heap.size, 0, none⟩) 32 inner) := Lib.hid (by rw [HQe.out] at hb6; exact By.of_blk_n hb6 HIl.out trivial); clear hb6 ho6))
  have HT6 := Lib.hid (HT.out.through HX6.out)
  obtain ⟨g5, hg5⟩ : ∃ g5, g5 = w1.heap.size := ⟨_, rfl⟩
  obtain ⟨g6, hg6⟩ : ∃ g6, g6 = w3.heap.size := ⟨_, rfl⟩
  rw [← hg6] at HI6
  rw [← hg5] at HB5
  rw [← hg5, ← hg6]
  have hgg : w.heap.size < g5 := by rw [hg5]; exact hg1
  clear hg5 hg6 hg1 hg2 hg3
  dsimp only [Act.put]
  refine wp_region_held_drew (S := fun W => Blk W g5 62 kk ∧ Below w.heap.size w W) (by kernel_rfl) ⟨HB5.out, HX6.out.drew⟩ (fun hHeld => ?_)
  change wpAnyH _ _ _ _ _ _ #[false, false, false, false] _ _
  refine wpAnyH_take (i := 0) (v := (.agg kk.toArray)) rfl (by kernel_rfl) (by kernel_rfl) (by kernel_rfl) (fun _ _ _ h => h) (yields_load_at (by kernel_rfl) 62 (.tmp 5) rfl (.pointer (some ⟨g5, 0, none⟩)) (by simp [Act.eval]) (.agg kk.toArray) (fun W hW => hW.1.loadAt 62 _ Tryd.underlying62 rfl (by rw [HKl.out]; kernel_rfl))) (by assumption) ?_
  change wpAnyH _ _ _ _ _ _ _ (Act.put _ (some (12 : Nat)) (.agg kk.toArray)) _
  simp only [Act.put, List.setIfInBounds_toArray, List.set_cons_zero, List.set_cons_succ]
  refine wpAnyH_take (i := 1) (v := (.slice (some ⟨g6, 0, none⟩) 32 32)) rfl (by kernel_rfl) (by kernel_rfl) (by kernel_rfl) (fun _ _ _ h => h) (Or.inl ⟨by kernel_rfl, fun w hSw => ?_⟩) (by assumption) ?_
  · (try dsimp only at hSw); go_simp <;> (try rfl)
  change wpAnyH _ _ _ _ _ _ _ (Act.put _ (some (13 : Nat)) (.slice (some ⟨g6, 0, none⟩) 32 32)) _
  simp only [Act.put, List.setIfInBounds_toArray, List.set_cons_zero, List.set_cons_succ]
  refine wpAnyH_ready (rs := [2]) (by kernel_rfl) (by simp) ?_
  refine AllReadyH.cons rfl (fun K hK => ?_) AllReadyH.nil
  go_simp
  refine (HOf2.out _ g6 (HI6.out.drew) (HT6.out.drew_)).mono ?_
  rintro e w7 ⟨rfl, hb7⟩; have HX7 := Lib.hid (HX6.out.drew.trans (hb7.mono HX6.out.size)); have HB57 := Lib.hid (HB5.out.drew.through hb7); have HB47 := Lib.hid (HB4.out.drew.through hb7); clear hb7
  go_wp2_with fail
  refine hK.out _ _ ⟨HB57.out, HX7.out⟩ (fun hHeld1 => ?_)
  clear hHeld hK K
  have hHeld := hHeld1
  clear hHeld1
  refine wpAnyH_ready (rs := [3]) (by kernel_rfl) (by simp) ?_
  refine AllReadyH.cons (o := ⟨none, .store 37 (.tmp 4) (.tmp 14), _, _, _, none⟩) rfl (fun K hK => ?_) AllReadyH.nil
  refine step_store_blk rfl 37 (.tmp 4) (.tmp 14) rfl w.heap.size r (by simp [Act.eval]) (by simp [Act.eval]) 37 (vs zero32) HB47.out (by rw [HRl.out]; kernel_rfl) (by rw [HRl.out]; rfl) HRo.out ?_; intro w8 hb8 ho8; have HB58 := Lib.hid (HB57.out.grown ho8 (by simp; omega)); have HX8 := Lib.hid (HX7.out.grown ho8 HX7.out.size (fun k hk => Option.some.inj hk ▸ Nat.le_refl _)); have HB8 := Lib.hid hb8; clear hb8 ho8
  refine hK.out _ _ ⟨HB58.out, HX8.out⟩ (fun hHeld1 => ?_)
  clear hHeld hK K
  have hHeld := hHeld1
  clear hHeld1
  change wpAnyH _ _ _ _ _ _ _ (Act.put _ none undef) _
  simp only [Act.put]
  refine wpAnyH_done (by kernel_rfl) ?_ _
  go_wp2
  refine bodyPost_ret (v := .agg r.toArray) (results_cell_row rfl _ _ w.heap.size 37 _ (0, 0) _ rfl HB8.out Tryd.underlying37 rfl ?r1) rfl ⟨by rw [HF.out], HX8.out⟩
  rw [List.size_toArray, HRl.out]; kernel_rfl

theorem same_step {xs ys : List UInt8} {i : Nat} {x y : UInt8} (hx : xs[i]? = some x) (hy : ys[i]? = some y) (u : Nat) (p : Prop) (h : u = 0 ↔ p ∧ xs.take i = ys.take i) :
    (u ||| (x ^^^ y).toNat = 0 ↔ p ∧ xs.take (i + 1) = ys.take (i + 1)) := by
  have hi := (List.getElem?_eq_some_iff.1 hx).1
  have hj := (List.getElem?_eq_some_iff.1 hy).1
  have e1 : xs[i] = x := (List.getElem?_eq_some_iff.1 hx).2
  have e2 : ys[i] = y := (List.getElem?_eq_some_iff.1 hy).2
  have hz : (x ^^^ y).toNat = 0 ↔ x = y := by
    rw [UInt8.toNat_xor]
    constructor
    · intro h0
      apply UInt8.toNat_inj.1
      have : x.toNat ^^^ y.toNat ^^^ y.toNat = y.toNat := by rw [h0, Nat.zero_xor]
      rwa [Nat.xor_assoc, Nat.xor_self, Nat.xor_zero] at this
    · rintro rfl
      rw [Nat.xor_self]
  rw [Nat.or_eq_zero_iff, h, hz, List.take_succ_eq_append_getElem hi, List.take_succ_eq_append_getElem hj, e1, e2]
  constructor
  · rintro ⟨⟨hp, ht⟩, rfl⟩
    exact ⟨hp, by rw [ht]⟩
  · rintro ⟨hp, ht⟩
    have hlen : (xs.take i).length = (ys.take i).length := by rw [List.length_take, List.length_take]; omega
    have := List.append_inj ht hlen
    exact ⟨⟨hp, this.1⟩, by simpa using this.2⟩

theorem same_end {xs ys : List UInt8} {u n n' : Nat} (hn : xs.length = n) (hn' : ys.length = n') (h : u = 0 ↔ n = n' ∧ xs.take (min n n') = ys.take (min n n')) : ((u : Int) == 0) = (xs == ys) := by
  rw [Bool.eq_iff_iff]
  simp only [beq_iff_eq]
  rw [show ((u : Int) = 0) ↔ u = 0 by omega, h]
  constructor
  · rintro ⟨e, ht⟩
    subst e
    rw [Nat.min_self, List.take_of_length_le (by omega), List.take_of_length_le (by omega)] at ht
    exact ht
  · rintro rfl
    exact ⟨by omega, rfl⟩

theorem xor_zero_iff (a b : Nat) : a ^^^ b = 0 ↔ a = b := by
  constructor
  · intro h0
    have : a ^^^ b ^^^ b = b := by rw [h0, Nat.zero_xor]
    rwa [Nat.xor_assoc, Nat.xor_self, Nat.xor_zero] at this
  · rintro rfl
    rw [Nat.xor_self]

set_option maxHeartbeats 4000000 in
theorem same_lt (Q Q' : Nat → Prop) (xs ys : List UInt8) (A A' : Option Addr) (n c n' c' : Nat) (w : World) (hby : By w Q A n xs) (hby' : By w Q' A' n' ys) (hmn : n' < n) (hn : n ≤ 1099511627776) (hn' : n' ≤ 1099511627776) :
    Calls Tryd.prog 52 #[.slice A n c, .slice A' n' c'] w fun e w' => e = .returned (.bool (xs == ys)) ∧ Below w.heap.size w w' := by
  have hl := hby.len
  have hl' := hby'.len
  have HL := Lib.hid hl
  have HL' := Lib.hid hl'
  have HBy := Lib.hid hby
  have HBy' := Lib.hid hby'
  have hxor := i64_xor_nat n n' (by omega) (by omega)
  obtain ⟨u0, hu0⟩ : ∃ u0, u0 = n ^^^ n' := ⟨_, rfl⟩
  have hu1 : u0 < 2 ^ 63 := by rw [hu0]; exact Nat.xor_lt_two_pow (by omega) (by omega)
  have hu2 : u0 = 0 ↔ n = n' := by rw [hu0]; exact xor_zero_iff n n'
  rw [← hu0] at hxor
  have HU1 := Lib.hid hu1
  have HU2 := Lib.hid hu2
  clear hl hl' hby hby' hu0 hu1 hu2
  go_enter Tryd.func52, Tryd.ntmps52
  go_wp2
  go_loopw [5, 17] (fun uv iv wr => ∃ (i u : Nat), i ≤ n' ∧ iv = .int .i64 i ∧ uv = .int .i64 u ∧ u < 2 ^ 63 ∧ (u = 0 ↔ n = n' ∧ xs.take i = ys.take i) ∧ Below w.heap.size w wr) (fun _ iv _ => n' - (intOf iv).toNat)
  case atStart => exact ⟨0, u0, by omega, rfl, rfl, HU1.out, by simpa using HU2.out, Below.refl _ _⟩
  case round =>
    obtain ⟨i, u, hi, rfl, rfl, hu, hiff, hx⟩ := hrel
    by_cases hlt : i < n'
    · as_aux_lemma =>
      have hi1 : i < n := by omega
      have hi2 : i < n' := by omega
      have hx1 : i < xs.length := by rw [HL.out]; exact hi1
      have hx2 : i < ys.length := by rw [HL'.out]; exact hi2
      obtain ⟨ga, oa, rfl, ha⟩ := (HBy.out.through hx).cell i hx1
      obtain ⟨gb, ob, rfl, hb⟩ := (HBy'.out.through hx).cell i hx2
      have hst := same_step (List.getElem?_eq_getElem hx1) (List.getElem?_eq_getElem hx2) u _ hiff
      generalize xs[i] = x at ha hst
      generalize ys[i] = y at hb hst
      unfold u8 at ha hb
      have hx8 := u8_xor_toNat x y
      have hzl := (x ^^^ y).toNat_lt
      have hor := i64_or_nat u (x ^^^ y).toNat (by omega) (by omega)
      have hv : u ||| (x ^^^ y).toNat < 2 ^ 63 := Nat.or_lt_two_pow (by omega) (by omega)
      generalize (x ^^^ y).toNat = z at hx8 hzl hor hst hv
      generalize u ||| z = v at hor hst hv
      have HSt := Lib.hid hst
      have HV := Lib.hid hv
      have HX := Lib.hid hx
      clear hst hv hx hiff hx1 hx2
      go_wp2
      go_quiet (fail)
      go_wp2
      refine ⟨⟨i + 1, v, by omega, by go_num, rfl, HV.out, HSt.out, below_drewN HX.out _⟩, ?_⟩
      simp [intOf]
      omega
    · as_aux_lemma =>
      have hm : i = min n n' := by rw [Nat.min_eq_right (Nat.le_of_lt hmn)]; omega
      rw [hm] at hiff
      have hfin := same_end HL.out HL'.out hiff
      have HX := Lib.hid hx
      clear hiff hx
      go_wp2
      go_ret
      exact ⟨rfl, HX.out⟩

set_option maxHeartbeats 4000000 in
theorem same_ge (Q Q' : Nat → Prop) (xs ys : List UInt8) (A A' : Option Addr) (n c n' c' : Nat) (w : World) (hby : By w Q A n xs) (hby' : By w Q' A' n' ys) (hmn : n ≤ n') (hn : n ≤ 1099511627776) (hn' : n' ≤ 1099511627776) :
    Calls Tryd.prog 52 #[.slice A n c, .slice A' n' c'] w fun e w' => e = .returned (.bool (xs == ys)) ∧ Below w.heap.size w w' := by
  have hl := hby.len
  have hl' := hby'.len
  have HL := Lib.hid hl
  have HL' := Lib.hid hl'
  have HBy := Lib.hid hby
  have HBy' := Lib.hid hby'
  have hxor := i64_xor_nat n n' (by omega) (by omega)
  obtain ⟨u0, hu0⟩ : ∃ u0, u0 = n ^^^ n' := ⟨_, rfl⟩
  have hu1 : u0 < 2 ^ 63 := by rw [hu0]; exact Nat.xor_lt_two_pow (by omega) (by omega)
  have hu2 : u0 = 0 ↔ n = n' := by rw [hu0]; exact xor_zero_iff n n'
  rw [← hu0] at hxor
  have HU1 := Lib.hid hu1
  have HU2 := Lib.hid hu2
  clear hl hl' hby hby' hu0 hu1 hu2
  go_enter Tryd.func52, Tryd.ntmps52
  go_wp2
  go_loopw [5, 17] (fun uv iv wr => ∃ (i u : Nat), i ≤ n ∧ iv = .int .i64 i ∧ uv = .int .i64 u ∧ u < 2 ^ 63 ∧ (u = 0 ↔ n = n' ∧ xs.take i = ys.take i) ∧ Below w.heap.size w wr) (fun _ iv _ => n - (intOf iv).toNat)
  case atStart => exact ⟨0, u0, by omega, rfl, rfl, HU1.out, by simpa using HU2.out, Below.refl _ _⟩
  case round =>
    obtain ⟨i, u, hi, rfl, rfl, hu, hiff, hx⟩ := hrel
    by_cases hlt : i < n
    · as_aux_lemma =>
      have hi1 : i < n := by omega
      have hi2 : i < n' := by omega
      have hx1 : i < xs.length := by rw [HL.out]; exact hi1
      have hx2 : i < ys.length := by rw [HL'.out]; exact hi2
      obtain ⟨ga, oa, rfl, ha⟩ := (HBy.out.through hx).cell i hx1
      obtain ⟨gb, ob, rfl, hb⟩ := (HBy'.out.through hx).cell i hx2
      have hst := same_step (List.getElem?_eq_getElem hx1) (List.getElem?_eq_getElem hx2) u _ hiff
      generalize xs[i] = x at ha hst
      generalize ys[i] = y at hb hst
      unfold u8 at ha hb
      have hx8 := u8_xor_toNat x y
      have hzl := (x ^^^ y).toNat_lt
      have hor := i64_or_nat u (x ^^^ y).toNat (by omega) (by omega)
      have hv : u ||| (x ^^^ y).toNat < 2 ^ 63 := Nat.or_lt_two_pow (by omega) (by omega)
      generalize (x ^^^ y).toNat = z at hx8 hzl hor hst hv
      generalize u ||| z = v at hor hst hv
      have HSt := Lib.hid hst
      have HV := Lib.hid hv
      have HX := Lib.hid hx
      clear hst hv hx hiff hx1 hx2
      go_wp2
      go_quiet (fail)
      go_wp2
      refine ⟨⟨i + 1, v, by omega, by go_num, rfl, HV.out, HSt.out, below_drewN HX.out _⟩, ?_⟩
      simp [intOf]
      omega
    · as_aux_lemma =>
      have hm : i = min n n' := by rw [Nat.min_eq_left hmn]; omega
      rw [hm] at hiff
      have hfin := same_end HL.out HL'.out hiff
      have HX := Lib.hid hx
      clear hiff hx
      go_wp2
      go_ret
      exact ⟨rfl, HX.out⟩

theorem same_any (Q Q' : Nat → Prop) (xs ys : List UInt8) (A A' : Option Addr) (n c n' c' : Nat) (w : World) (hby : By w Q A n xs) (hby' : By w Q' A' n' ys) (hn : n ≤ 1099511627776) (hn' : n' ≤ 1099511627776) :
    Calls Tryd.prog 52 #[.slice A n c, .slice A' n' c'] w fun e w' => e = .returned (.bool (xs == ys)) ∧ Below w.heap.size w w' := by
  rcases Nat.lt_or_ge n' n with h | h
  · exact same_lt Q Q' xs ys A A' n c n' c' w hby hby' h hn hn'
  · exact same_ge Q Q' xs ys A A' n c n' c' w hby hby' h hn hn'

set_option maxHeartbeats 4000000 in
set_option maxRecDepth 100000 in
theorem check_any (Q Q' : Nat → Prop) (key text tg : List UInt8) (htg : tg.length = 32) (A A' : Option Addr) (n c n' c' : Nat) (w : World) (hby : By w Q A n key) (hnc : n ≤ c) (hcm : c ≤ maxLen) (hby' : By w Q' A' n' text) (hnc' : n' ≤ c') (hcm' : c' ≤ maxLen) (ht : Tab w) (hlen : n ≤ 274877906944) (hlen' : n' ≤ 274877906944) :
    Calls Tryd.prog 51 #[.slice A n c, .slice A' n' c', .agg (vs tg).toArray] w fun e w' => e = .returned (.bool (hmac key text == tg)) ∧ Below w.heap.size w w' := by
  have HBy := Lib.hid hby
  have HBy' := Lib.hid hby'
  have HT := Lib.hid ht
  obtain ⟨q, hq⟩ : ∃ q, q = vs tg := ⟨_, rfl⟩
  have hqb : Blk (w.alloc (.cells q.toArray 37)) w.heap.size 37 (vs tg) := by rw [hq]; exact Blk.fresh rfl rfl
  obtain ⟨r, hr⟩ : ∃ r, r = vs (hmac key text) := ⟨_, rfl⟩
  have hrl : r.length = 32 := by rw [hr, vs_length, hmac_length]
  have hro : r.toArray.all (·.oneCell') = true := by rw [hr]; exact one_u8
  obtain ⟨bb, hbb⟩ : ∃ bb, bb = (hmac key text == tg) := ⟨_, rfl⟩
  have hof : ∀ W, By W Q A n key → By W Q' A' n' text → Tab W → Calls Tryd.prog 17 #[.slice A n c, .slice A' n' c'] W fun e w' => e = .returned (.agg r.toArray) ∧ Below W.heap.size W w' := fun W h1 h2 h3 => by
    rw [hr]; exact of_any Q Q' key text A A' n c n' c' W h1 hnc hcm h2 hnc' hcm' h3 hlen hlen'
  have hsame : ∀ W g g', By W (fun _ => True) (some ⟨g, 0, none⟩) 32 (hmac key text) → By W (fun _ => True) (some ⟨g', 0, none⟩) 32 tg → Calls Tryd.prog 52 #[.slice (some ⟨g, 0, none⟩) 32 32, .slice (some ⟨g', 0, none⟩) 32 32] W fun e w' => e = .returned (.bool bb) ∧ Below W.heap.size W w' := fun W g g' h1 h2 => by
    rw [hbb]; exact same_any _ _ _ _ _ _ 32 32 32 32 W h1 h2 (by omega) (by omega)
  have hRe : ∀ W g, Blk W g 37 r → By W (fun _ => True) (some ⟨g, 0, none⟩) 32 (hmac key text) := fun W g h => by
    rw [hr] at h; exact By.of_blk_n h (hmac_length _ _) trivial
  rw [← hq]
  have HOf := Lib.hid hof
  have HSame := Lib.hid hsame
  have HRl := Lib.hid hrl
  have HRo := Lib.hid hro
  have HQb := Lib.hid hqb
  have HBb := Lib.hid hbb
  have HRe := Lib.hid hRe
  clear hby hby' ht hq hqb hr hrl hro hbb hof hsame hRe
  go_enter Tryd.func51, Tryd.ntmps51
  go_wp2_with (first
    | (go_at_call 17; (with_reducible refine (HOf.out _ (HBy.out.alloc _) (HBy'.out.alloc _) (HT.out.through ((Below.refl _ w).alloc (Nat.le_refl _) _))).mono ?_); rintro e w1 ⟨rfl, hb1⟩; have HX1 : Hid (Below w.heap.size w w1) := Lib.hid (((Below.refl _ w).alloc (Nat.le_refl _) _).trans (hb1.mono (by simp))); have HB1 : Hid (Blk w1 w.heap.size 37 (vs tg)) := Lib.hid (HQb.out.through hb1); clear hb1)
    | (refine wpList_store_blk rfl 37 (.tmp 7) (.tmp 10) rfl w1.heap.size r rfl rfl 37 (vs zero32) (Blk.fresh rfl (by kernel_rfl)) (by rw [HRl.out]; kernel_rfl) (by rw [HRl.out]; rfl) HRo.out ?_; intro w7 hb7 ho7; have HX7 := Lib.hid ((HX1.out.alloc HX1.out.size _).grown ho7 (Nat.le_trans HX1.out.size (by simp)) (fun g hg => Option.some.inj hg ▸ HX1.out.size)); have HT7 : Hid (By w7 (fun _ => True) (some ⟨w.heap.size, 0, none⟩) 32 tg) := Lib.hid (By.of_blk_n ((HB1.out.alloc _).grown ho7 (fun e => absurd (Option.some.inj e) (Nat.ne_of_lt HB1.out.lt))) htg trivial); have HR7 := Lib.hid (HRe.out w7 w1.heap.size hb7); clear hb7 ho7))
  obtain ⟨g7, hg7⟩ : ∃ g7, g7 = w1.heap.size := ⟨_, rfl⟩
  rw [← hg7] at HR7
  rw [← hg7]
  clear hg7
  dsimp only [Act.put]
  refine wp_region_held_drew (S := fun W => Below w.heap.size w W) (by kernel_rfl) HX7.out.drew (fun hHeld => ?_)
  change wpAnyH _ _ _ _ _ _ #[false, false, false, false] _ _
  refine wpAnyH_take (i := 0) (v := (.slice (some ⟨g7, 0, none⟩) 32 32)) rfl (by kernel_rfl) (by kernel_rfl) (by kernel_rfl) (fun _ _ _ h => h) (Or.inl ⟨by kernel_rfl, fun w hSw => ?_⟩) (by assumption) ?_
  · (try dsimp only at hSw); go_simp <;> (try rfl)
  change wpAnyH _ _ _ _ _ _ _ (Act.put _ (some (11 : Nat)) (.slice (some ⟨g7, 0, none⟩) 32 32)) _
  simp only [Act.put, List.setIfInBounds_toArray, List.set_cons_zero, List.set_cons_succ]
  refine wpAnyH_take (i := 1) (v := (.slice (some ⟨w.heap.size, 0, none⟩) 32 32)) rfl (by kernel_rfl) (by kernel_rfl) (by kernel_rfl) (fun _ _ _ h => h) (Or.inl ⟨by kernel_rfl, fun w hSw => ?_⟩) (by assumption) ?_
  · (try dsimp only at hSw); go_simp <;> (try rfl)
  change wpAnyH _ _ _ _ _ _ _ (Act.put _ (some (12 : Nat)) (.slice (some ⟨w.heap.size, 0, none⟩) 32 32)) _
  simp only [Act.put, List.setIfInBounds_toArray, List.set_cons_zero, List.set_cons_succ]
  refine wpAnyH_ready (rs := [2]) (by kernel_rfl) (by simp) ?_
  refine AllReadyH.cons rfl (fun K hK => ?_) AllReadyH.nil
  go_simp
  refine (HSame.out _ g7 w.heap.size HR7.out.drew HT7.out.drew).mono ?_
  rintro e w8 ⟨rfl, hb8⟩; have HX8 := Lib.hid (HX7.out.drew.trans (hb8.mono HX7.out.size)); clear hb8
  go_wp2_with fail
  refine hK.out _ _ HX8.out (fun hHeld1 => ?_)
  clear hHeld hK K
  have hHeld := hHeld1
  clear hHeld1
  refine wpAnyH_take (i := 3) (v := (.bool bb)) rfl (by kernel_rfl) (by kernel_rfl) (by kernel_rfl) (fun _ _ _ h => h) (Or.inl ⟨by kernel_rfl, fun w hSw => ?_⟩) (by assumption) ?_
  · (try dsimp only at hSw); go_simp <;> (try rfl)
  change wpAnyH _ _ _ _ _ _ _ (Act.put _ (some (6 : Nat)) (.bool bb)) _
  simp only [Act.put, List.setIfInBounds_toArray, List.set_cons_zero, List.set_cons_succ]
  refine wpAnyH_done (by kernel_rfl) ?_ _
  go_wp2
  go_ret
  exact ⟨by rw [HBb.out]; rfl, HX8.out⟩

end Go.Proofs.YtnncfhkgcaoomaaDoor
