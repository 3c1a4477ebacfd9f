/-
  The document's Sum, of any bytes.
-/
import Derived.Test.YtolildehdibpbaaDoorConst
import Derived.Test.YtolildehdibpbaaDoorBlock
import Derived.Test.YtolildehdibpbaaDoorRPut
import Derived.Test.YtolildehdibpbaaDoorSum
import Derived.IntWalk
import Derived.Outline
namespace Go.Proofs.YtolildehdibpbaaDoor
open Go.RowKit

abbrev OwnB (w : World) (base : Nat) (v : Value) (n : Nat) (xs : List UInt8) : Prop := w.ownsRow base 5 1 v n (vs xs)

theorem own_made8 (w : World) : (w.alloc (.cells #[] 5)).ownsRow w.heap.size 5 1 (.slice (some ⟨w.heap.size, 0, none⟩) 0 0) 0 (vs []) := World.ownsRow_made w #[] 0 (Nat.le_refl _) (Nat.zero_le _) rfl

/-- what stands behind k noughts -/
def padded (xs : List UInt8) (k : Nat) : List UInt8 := xs ++ 128 :: List.replicate k 0
theorem padded_succ (xs : List UInt8) (k : Nat) : padded xs k ++ [0] = padded xs (k + 1) := by
  simp [padded, List.replicate_succ', List.append_assoc]
theorem padded_all (xs : List UInt8) : padded xs ((119 - xs.length % 64) % 64) ++ beB (8 * xs.length) 8 = xs ++ ends xs.length := by
  simp [padded, ends, List.append_assoc]
/-- the first j words, as bytes -/
def flat (s : S8) (j : Nat) : List UInt8 := ((s.list.take j).map fun x => beB x.toNat 4).flatten
theorem flat_8 (s : S8) : flat s 8 = s.bytes := rfl
theorem flat_succ (s : S8) (j : Nat) (h : j < 8) : flat s (j + 1) = flat s j ++ beB (s.list.getD j 0).toNat 4 := by
  match j, h with
  | 0, _ => simp [flat, S8.list]
  | 1, _ => simp [flat, S8.list]
  | 2, _ => simp [flat, S8.list]
  | 3, _ => simp [flat, S8.list]
  | 4, _ => simp [flat, S8.list]
  | 5, _ => simp [flat, S8.list]
  | 6, _ => simp [flat, S8.list]
  | 7, _ => simp [flat, S8.list]
def sliceLen : Value → Nat
  | .slice _ n _ => n
  | _ => 0
theorem tmod_64 (m : Nat) : ((m : Nat) : Int).tmod 64 = ((m % 64 : Nat) : Int) := by
  rw [Int.tmod_eq_emod_of_nonneg (by omega)]
  simp

set_option maxHeartbeats 4000000 in
set_option maxRecDepth 100000 in
theorem rsum_any (Q : Nat → Prop) (xs : List UInt8) (A : Option Addr) (n c : Nat) (w : World) (hby : By w Q A n xs) (hn : n ≤ 1000000) :
    Calls Tryd.prog 11 #[.slice A n c] w fun e w' => e = .returned (dig (sha xs)) ∧ Below w.heap.size w w' := by
  obtain ⟨i0, hi, hz0, hz1, hz2⟩ := info_parts Tryd.info_u8
  have hl := hby.len
  have HL := Lib.hid hl
  have HBy := Lib.hid hby
  clear hl hby
  go_enter Tryd.func11, Tryd.ntmps11
  go_wp2_with (first
    | (go_at_call 29; refine (constants_any _).mono ?_; rintro e w1 ⟨Ak, ck, Ah, ch, rfl, hk, hh, hb1⟩; have HX1 : Hid (Below w.heap.size w w1) := Lib.hid (((Below.refl _ w).alloc (Nat.le_refl _) _).trans (hb1.mono (by simp))); have HD1 : Hid (Blk w1 w.heap.size 25 (vs zero32)) := Lib.hid ((Blk.fresh rfl (by kernel_rfl)).through hb1); have HK1 := Lib.hid (hk.weak (Q' := fun _ => True) fun _ _ => trivial); have HH1 := Lib.hid (hh.weak (Q' := fun _ => True) fun _ _ => trivial); clear hk hh hb1)
    | (at_builtin; refine wpList_append_by _ rfl (.tmp 16) (.tmp 17) 22 rfl w1.heap.size i0 Tryd.underlying22 hi hz0 hz1 hz2 _ 0 (vs []) rfl (own_made8 w1) Q A n c xs rfl ((HBy.out.through HX1.out).alloc _) (by omega) (by simp) ?_; intro v2 w2 hown2 hgrow2 _; have HX2 := Lib.hid (((Below.refl _ w1).alloc (Nat.le_refl _) _).grown hgrow2 (by simp) (fun g hg => ((own_made8 w1).lt g hg).1)); have HO2 : Hid (OwnB w2 w1.heap.size v2 n xs) := Lib.hid (by rw [Nat.zero_add] at hown2; exact hown2); clear hown2 hgrow2)
    | (at_builtin; refine wpList_append_by _ rfl (.tmp 18) (.tmp 19) 22 rfl w1.heap.size i0 Tryd.underlying22 hi hz0 hz1 hz2 v2 n (vs xs) rfl (HO2.out.alloc _) (fun _ => True) (some ⟨w2.heap.size, 0, none⟩) 1 1 [128] rfl (By.one _ trivial rfl) (by omega) (by have := HX2.out.size; simp; omega) ?_; intro v3 w3 hown3 hgrow3 _; have HX3 := Lib.hid ((HX2.out.alloc HX2.out.size _).grown hgrow3 (Nat.le_trans HX2.out.size (by simp)) (fun g hg => (HO2.out.lt g hg).1)); obtain ⟨A3, c3, rfl, _, _, _⟩ := own_form hown3; have HO3 : Hid (OwnB w3 w1.heap.size (.slice A3 (n + 1) c3) (n + 1) (padded xs 0)) := Lib.hid (by rw [vs_append] at hown3; exact hown3); clear hown3 hgrow3))
  obtain ⟨Z, hZ⟩ : ∃ Z, Z = (119 - n % 64) % 64 := ⟨_, rfl⟩
  go_loopw [5] (fun ov wr => ∃ (k : Nat) (A : Option Addr) (c : Nat), k ≤ Z ∧ ov = .slice A (n + 1 + k) c ∧ OwnB wr w1.heap.size (.slice A (n + 1 + k) c) (n + 1 + k) (padded xs k) ∧ Below w1.heap.size w1 wr) (fun ov _ => n + 1 + Z - sliceLen ov)
  case atStart => exact ⟨0, A3, c3, by omega, rfl, HO3.out, HX3.out⟩
  case round =>
    obtain ⟨k, A5, c5, hk, rfl, ho, hx⟩ := hrel
    clear HO3 HX3 HO2 HX2
    by_cases hlt : k < Z
    · as_aux_lemma =>
      have hne : ((n : Int) + 1 + k) % 64 ≠ 56 := by omega
      have HO := Lib.hid ho
      have HX := Lib.hid hx
      clear ho hx
      go_wp2_with (at_builtin; refine wpList_append_by _ rfl (.tmp 25) (.tmp 26) 22 rfl w1.heap.size i0 Tryd.underlying22 hi hz0 hz1 hz2 (.slice A5 (n + 1 + k) c5) (n + 1 + k) (vs (padded xs k)) rfl (HO.out.alloc _) (fun _ => True) (some ⟨wr.heap.size, 0, none⟩) 1 1 [0] rfl (By.one _ trivial rfl) (by omega) (by have := HX.out.size; simp; omega) ?_; intro v6 w6 hown6 hgrow6 _; have HX6 := Lib.hid ((HX.out.alloc HX.out.size _).grown hgrow6 (Nat.le_trans HX.out.size (by simp)) (fun g hg => (HO.out.lt g hg).1)); obtain ⟨A6, c6, rfl, _, _, _⟩ := own_form hown6; have HO6 : Hid (OwnB w6 w1.heap.size (.slice A6 (n + 1 + k + 1) c6) (n + 1 + k + 1) (padded xs (k + 1))) := Lib.hid (by rw [vs_append, padded_succ] at hown6; exact hown6); clear hown6 hgrow6)
      go_roundw
      case rel => exact ⟨k + 1, A6, c6, by omega, rfl, HO6.out, HX6.out⟩
      case measure => simp [sliceLen]; omega
    · as_aux_lemma =>
      have ek : k = Z := by omega
      subst ek
      have hne : ((n : Int) + 1 + k) % 64 = 56 := by omega
      have hall : padded xs k ++ beB (8 * n) 8 = xs ++ ends xs.length := by
        rw [← padded_all, HL.out, ← hZ]
      have HAll := Lib.hid hall
      have HO := Lib.hid ho
      have HX := Lib.hid hx
      clear ho hx hall
      have hL64 : (n + 1 + k + 8) % 64 = 0 := by omega
      have hk63 : k ≤ 63 := by omega
      obtain ⟨L, hL⟩ : ∃ L, L = n + 1 + k + 8 := ⟨_, rfl⟩
      have hput : ∀ W, OwnB W w1.heap.size (.slice A5 (n + 1 + k) c5) (n + 1 + k) (padded xs k) → Calls Tryd.prog 30 #[.slice A5 (n + 1 + k) c5, .int .u64 ((n : Int) * 8), .int .i64 8] W fun e w' =>
          ∃ A7 c7, e = .returned (.slice A7 L c7) ∧ L ≤ c7 ∧ c7 ≤ maxLen ∧ OwnB w' W.heap.size (.slice A7 L c7) L (xs ++ ends xs.length) ∧ Below W.heap.size W w' := fun W h => by
        refine (rput_any _ A5 (n + 1 + k) c5 (padded xs k) ((n : Int) * 8) 8 (by omega) (by omega) W (By.of_own h) (by omega)).mono ?_
        rintro e w7 ⟨v7, rfl, hown7, hb7⟩
        have e1 : ((n : Int) * 8).toNat = 8 * n := by omega
        have e2 : putB (padded xs k) ((n : Int) * 8).toNat 8 = xs ++ ends xs.length := by rw [← HAll.out, e1]; rfl
        have e3 : putN (n + 1 + k) 8 = L := by rw [hL]; rfl
        rw [e2, e3] at hown7
        obtain ⟨A7, c7, rfl, hnc7, hcm7, _⟩ := own_form hown7
        exact ⟨A7, c7, rfl, hnc7, hcm7, hown7, hb7⟩
      have HPut := Lib.hid hput
      have hxl : (xs ++ ends xs.length).length = L := by rw [List.length_append, ends_length, HL.out]; omega
      have hl64 : L % 64 = 0 := by omega
      have hlb : L ≤ 1000072 := by omega
      have hsha : sha xs = (after (xs ++ ends xs.length) (L / 64)).bytes := by rw [← hxl]; rfl
      generalize xs ++ ends xs.length = all at HPut hsha hxl hput
      have HSha := Lib.hid hsha
      have HXl := Lib.hid hxl
      clear hput hZ hsha hxl HAll hL hL64
      go_wp2_with (go_at_call 30; refine (HPut.out wr HO.out).mono ?_; rintro e w7 ⟨A7, c7, rfl, hnc7, hcm7, hown7, hb7⟩; have HX7 := Lib.hid (HX.out.trans (hb7.mono HX.out.size)); have HO7 : Hid (OwnB w7 w1.heap.size (.slice A7 L c7) L all) := Lib.hid (own_weak hown7 HX.out.size); have HM7 := Lib.hid hcm7; clear hown7 hb7 hcm7)
      have hk7 := HK1.out.through HX7.out
      have hh7 := HH1.out.through HX7.out
      have hall := (By.of_own HO7.out).weak (Q' := fun g => Bk w7 g) fun _ h => h.2.2
      have HD7 := Lib.hid (HD1.out.through HX7.out)
      have HX0 := Lib.hid (HX1.out.trans (HX7.out.mono HX1.out.size))
      have HK7 := Lib.hid hk7
      have HAll := Lib.hid hall
      have HH7 := Lib.hid hh7
      clear HX7 HO7 HO HX hk7 hall hh7 HD1 HX1
      go_loopw [4, 6] (fun hv iv wr => ∃ (m : Nat) (A : Option Addr) (c : Nat), 64 * m ≤ L ∧ iv = .int .i64 (64 * (m : Int)) ∧ hv = .slice A 8 c ∧ Wd wr (fun _ => True) A 8 (after all m).list ∧ Below w7.heap.size w7 wr) (fun _ iv _ => L - (intOf iv).toNat)
      case atStart => exact ⟨0, Ah, ch, by omega, rfl, rfl, HH7.out, Below.refl _ _⟩
      case round =>
        obtain ⟨m, A8, c8, hm, rfl, rfl, hh, hx⟩ := hrel
        by_cases hlt : 64 * m < L
        · as_aux_lemma =>
          have hsl := fun (W : World) => run_cut2 (P := Tryd.prog) W 22 5 A7 L c7 .i64 .i64 (64 * (m : Int)) (64 * (m : Int) + 64) Tryd.underlying22 (by kernel_rfl) (by omega) (by omega) (by omega)
          have e1 : (64 * (m : Int)).toNat = 64 * m := by omega
          have e2 : (64 * (m : Int) + 64).toNat - 64 * m = 64 := by omega
          rw [e1, e2] at hsl
          have hb := HAll.out.bk hx
          have hd := (hb.drop (k := 64 * m) (c := c7) (by omega) hnc7).take (k := 64) (by omega)
          have hblk := block_any (fun _ => True) (fun _ => True) (after all m) ((all.drop (64 * m)).take 64) A8 Ak (cutA A7 c7 (64 * m)) c8 ck (c7 - 64 * m) wr hh (HK7.out.through hx) hd (by omega) (by have := HM7.out; omega)
          have hnext : press (after all m) ((all.drop (64 * m)).take 64) = after all (m + 1) := rfl
          rw [hnext] at hblk
          have HBlk := Lib.hid hblk
          have HX := Lib.hid hx
          clear hb hd hblk hnext hx hh e1 e2
          go_wp2_with (go_at_call 31; refine HBlk.out.mono ?_; rintro e w9 ⟨A9, c9, rfl, hown9, hb9⟩; have HX9 := Lib.hid (HX.out.trans (hb9.mono HX.out.size)); have HH9 := Lib.hid ((Wd.of_own hown9).weak (Q' := fun _ => True) fun _ _ => trivial); clear hown9 hb9)
          go_roundw
          case rel => exact ⟨m + 1, A9, c9, by omega, by go_num, rfl, HH9.out, HX9.out⟩
          case measure => simp [intOf]; omega
        · as_aux_lemma =>
          have hm64 : L / 64 = m := by omega
          obtain ⟨s, hs⟩ : ∃ s, s = after all m := ⟨_, rfl⟩
          rw [hm64, ← hs] at HSha
          rw [← hs] at hh
          have HH := Lib.hid hh
          have HX := Lib.hid hx
          clear hs hh hx HAll
          go_wp2
          obtain ⟨wy, rfl⟩ : ∃ wy : World, wy = wr := ⟨_, rfl⟩
          go_loopw [7, 50] (fun bv iv wr => ∃ (j : Nat) (A : Option Addr) (c : Nat), j ≤ 8 ∧ iv = .int .i64 j ∧ bv = .slice A (4 * j) c ∧ OwnB wr wy.heap.size (.slice A (4 * j) c) (4 * j) (flat s j) ∧ Below wy.heap.size wy wr) (fun _ iv _ => 8 - (intOf iv).toNat)
          case atStart => exact ⟨0, none, 0, by omega, rfl, rfl, World.ownsRow_nil _ _ _ _, Below.refl _ _⟩
          case round =>
            obtain ⟨j, Ab, cb, hj, rfl, rfl, ho, hx⟩ := hrel
            by_cases hltj : j < 8
            · as_aux_lemma =>
              obtain ⟨gk, ok, rfl, _, hckA⟩ := (HH.out.through hx).cell (by omega)
              have hck := hckA j hltj
              clear hckA
              have hnext := flat_succ s j hltj
              generalize s.list.getD j 0 = x at hck hnext
              have hlo := n32_lo x
              have hhi := n32_hi x
              have hyx : (n32 x).toNat = x.toNat := by unfold n32; simp
              generalize n32 x = y at hck hlo hhi hyx
              have hput : ∀ W, OwnB W wy.heap.size (.slice Ab (4 * j) cb) (4 * j) (flat s j) → Calls Tryd.prog 30 #[.slice Ab (4 * j) cb, .int .u64 y, .int .i64 4] W fun e w' =>
                  ∃ A7 c7, e = .returned (.slice A7 (4 * (j + 1)) c7) ∧ OwnB w' W.heap.size (.slice A7 (4 * (j + 1)) c7) (4 * (j + 1)) (flat s (j + 1)) ∧ Below W.heap.size W w' := fun W h => by
                refine (rput_any _ Ab (4 * j) cb (flat s j) y 4 hlo (by omega) W (By.of_own h) (by omega)).mono ?_
                rintro e w7 ⟨v7, rfl, hown7, hb7⟩
                have e2 : putB (flat s j) y.toNat 4 = flat s (j + 1) := by rw [hnext, hyx]; rfl
                have e3 : putN (4 * j) 4 = 4 * (j + 1) := rfl
                rw [e2, e3] at hown7
                obtain ⟨A7, c7, rfl, _⟩ := own_form hown7
                exact ⟨A7, c7, rfl, hown7, hb7⟩
              have HPut2 := Lib.hid hput
              have HO := Lib.hid ho
              have HX := Lib.hid hx
              clear hput ho hx hnext hyx
              go_wp2_with (go_at_call 30; refine (HPut2.out wr HO.out).mono ?_; rintro e w9 ⟨A9, c9, rfl, hown9, hb9⟩; have HX9 := Lib.hid (HX.out.trans (hb9.mono HX.out.size)); have HO9 : Hid (OwnB w9 wy.heap.size (.slice A9 (4 * (j + 1)) c9) (4 * (j + 1)) (flat s (j + 1))) := Lib.hid (own_weak hown9 HX.out.size); clear hown9 hb9)
              go_roundw
              case rel => exact ⟨j + 1, A9, c9, by omega, by go_num, rfl, HO9.out, HX9.out⟩
              case measure => simp [intOf]; omega
            · as_aux_lemma =>
              have e8 : j = 8 := by omega
              subst e8
              have hbb := (By.of_own ho).weak (Q' := fun _ => True) fun _ _ => trivial
              rw [flat_8] at hbb
              obtain ⟨wv, rfl⟩ : ∃ wv : World, wv = wr := ⟨_, rfl⟩
              have hxv := HX0.out.trans ((HX.out.trans (hx.mono HX.out.size)).mono HX0.out.size)
              have hdv : Blk wv w.heap.size 25 (vs zero32) := (HD7.out.through HX.out).through hx
              have hBz : (vs s.bytes).length = 32 := by rw [vs_length, S8.bytes_length]
              obtain ⟨gb, ob, rfl, _, hcb⟩ := hbb.lt.2 (by omega)
              have hgb : gb < wv.heap.size := by rename_i hq; exact hq.2
              have hcb2 : ∀ j, j < 32 → ∃ u : UInt8, (vs s.bytes)[j]? = some (u8 u) ∧ wv.cell? ⟨gb, ob + j, none⟩ = some (u8 u) := fun j hj => by
                have hl : j < s.bytes.length := by rw [S8.bytes_length]; exact hj
                exact ⟨s.bytes[j], by rw [vs_get, List.getElem?_eq_getElem hl]; rfl, hcb j _ (List.getElem?_eq_getElem hl)⟩
              have HCb := Lib.hid hcb2
              have HXv := Lib.hid hxv
              have HDv := Lib.hid hdv
              have HBz := Lib.hid hBz
              have HGb := Lib.hid hgb
              have HWw : Hid (w.heap.size < wv.heap.size) := Lib.hid hdv.lt
              clear ho hx hbb hxv hdv hcb hcb2 hBz hgb
              go_wp2
              go_loopw [59] (fun iv wr => ∃ i : Nat, i ≤ 32 ∧ iv = .int .i64 i ∧ Blk wr wv.heap.size 25 (swp (vs s.bytes) (vs zero32) i) ∧ Below wv.heap.size wv wr) (fun iv _ => 32 - (intOf iv).toNat)
              case atStart => exact ⟨0, by omega, rfl, by rw [swp_0]; exact Blk.fresh rfl (by kernel_rfl), (Below.refl _ wv).alloc (Nat.le_refl _) _⟩
              case round =>
                obtain ⟨i, hi32, rfl, hd, hx⟩ := hrel
                by_cases hlti : i < 32
                · as_aux_lemma =>
                  obtain ⟨u, hu, hcu⟩ := HCb.out i hlti
                  have hcu2 : wr.cell? ⟨gb, ob + i, none⟩ = some (u8 u) := (World.cell?_of_block (a := ⟨gb, ob + i, none⟩) (hx.block gb HGb.out)).trans hcu
                  have hl2 : i < (vs zero32).length := by rw [vs_length, show zero32.length = 32 from rfl]; exact hlti
                  have hcz : (swp (vs s.bytes) (vs zero32) i)[i]? = some (vs zero32)[i] := by rw [swp_at _ _ _ (by rw [HBz.out]; exact hlti), List.getElem?_eq_getElem hl2]
                  have hcd : wr.cell? ⟨wv.heap.size, i, none⟩ = some (vs zero32)[i] := hd.cellAt hcz
                  have hfd : wr.frozen? ⟨wv.heap.size, i, none⟩ = false := hd.frozen _
                  generalize (vs zero32)[i] = z at hcd
                  have HSet := Lib.hid (swp_set (vs s.bytes) (vs zero32) i _ hu hl2)
                  unfold u8 at hcu2
                  have Hd := Lib.hid hd
                  have HX := Lib.hid hx
                  clear hd hx hcz hl2 hu hcu
                  go_wp2
                  go_roundw
                  case rel =>
                    have h := Hd.out.set_ i (u8 u)
                    rw [HSet.out] at h
                    exact ⟨i + 1, by omega, by go_num, h, HX.out.setCell (Nat.le_refl _) _⟩
                  case measure => simp [intOf]; omega
                · as_aux_lemma =>
                  have e32 : i = 32 := by omega
                  rw [e32, swp_all _ _ 32 HBz.out rfl] at hd
                  obtain ⟨r, hr⟩ : ∃ r, r = vs s.bytes := ⟨_, rfl⟩
                  have hrl : r.length = 32 := by rw [hr]; exact HBz.out
                  have hone : r.toArray.all (·.oneCell') = true := by rw [hr]; exact one_u8
                  have hfin : (.agg r.toArray : Value) = dig (sha xs) := by rw [hr, HSha.out]; rfl
                  rw [← hr] at hd
                  have HRl := Lib.hid hrl
                  have HO := Lib.hid hone
                  have HF := Lib.hid hfin
                  have Hd := Lib.hid hd
                  have H0 := Lib.hid (HDv.out.through hx)
                  have HX := Lib.hid (HXv.out.trans (hx.mono HXv.out.size))
                  clear hd hx e32 hr hrl hone hfin
                  go_wp2_with (first
                    | (refine wpList_load_blk rfl 25 (.tmp 10) rfl wv.heap.size rfl 25 r _ Hd.out Tryd.underlying25 rfl (by rw [HRl.out]; kernel_rfl) ?_)
                    | (refine wpList_store_row rfl 25 (.tmp 2) (.tmp 69) rfl w.heap.size r.toArray rfl rfl 25 (vs zero32).toArray H0.out (by rw [List.size_toArray, HRl.out]; kernel_rfl) (by rw [List.size_toArray, List.size_toArray, HRl.out]; rfl) HO.out ?_))
                  refine bodyPost_ret (v := .agg r.toArray) (results_cell_row rfl _ _ w.heap.size 25 _ (0, 0) _ rfl (H0.out.row _) Tryd.underlying25 rfl ?r1) rfl ⟨by rw [HF.out], below_row HX.out _ (Nat.le_refl _) _⟩
                  rw [List.size_toArray, HRl.out]; kernel_rfl

end Go.Proofs.YtolildehdibpbaaDoor
