/-
  Joined: PtK.
-/
import Derived.Lib.MinMax
import Derived.BigQuiet
import Derived.Deep.CutRange
import Derived.Test.YtpolofehkckaoaaUT21
import Derived.Test.YtpolofehkckaoaaUTT
namespace Go.Proofs.Ytpolofehkckaoaa
open Go.RowKit

theorem Try.ix_qs23 (W : World) (g o n c j : Nat) (hj : j < n) : (Instr.indexAt 53 (.slice (some ⟨g, o, none⟩) n c) (.int .i64 (j : Int))).run Try.prog W = .ok (.pointer (some ⟨g, o + j, none⟩)) W := by
 have E : El Try.prog 53 2 1 8 (.int .i64 0) := ⟨Try.underlying53, by kernel_rfl, rfl, by omega, by omega, by omega⟩
 have := E.index (by kernel_rfl) W g o n c j hj
 rwa [Nat.mul_one] at this
def bT (s : Int) : UInt8 := UInt8.ofNat (s % 256).toNat
def dT (s : Int) : List UInt8 := bT s :: List.replicate 31 0
theorem dT_len (s : Int) : (dT s).length = 32 := by simp [dT]
theorem Try.bld_dgT (s : Int) (w : World) : (Instr.build 28 #[(0, u8 (bT s))]).run Try.prog w = .ok (.agg (vs (dT s)).toArray) w := by kernel_rfl
theorem conv_T (s : Int) (w : World) : (convert 2 5 (.int .i64 s)).run Try.prog w = .ok (u8 (bT s)) w := by
 have e : IntKind.u8.wrap s = ((bT s).toNat : Int) := by
  simp [IntKind.wrap, IntKind.signed, IntKind.bits, bT, UInt8.toNat_ofNat']
  omega
 simp [convert, run_underlying Try.underlying2, run_underlying Try.underlying5, Conv.intToInt, e, u8]
def rT0 : Ptp := ⟨4, 2, List.replicate 4 [], []⟩
section
variable {P : World → Nat → Ptp → (Nat → Prop) → Prop} {w0 w : World} {B : Nat} {Z : Nat → Prop}
theorem fxT_new (C : PtsP P) {w0 w : World} (hb : Below w0.heap.size w0 w) : Calls Try.prog 7 #[.int .i64 4, .int .i64 2] w fun e w' => ∃ B, e = .returned (.pointer (some ⟨B, 0, none⟩)) ∧ Fx P w0 w' B rT0 (fun _ => False) :=
 (C.new_ 4 2 w (by decide) (by decide) (by decide)).mono fun e w' ⟨B, D, e1, hp, hb2, hd⟩ => ⟨B, e1, Fx.begin hp (below_step hb hb2) (fun q hq => Nat.le_trans hb.size (hd q hq))⟩
theorem fxT_own (C : PtsP P) {r : Ptp} (h : Fx P w0 w B r Z) {k : Nat} (hl : Lens k r) (hk : k ≤ 100) (s : Int) (h64 : -9223372036854775808 ≤ s ∧ s ≤ 9223372036854775807) : Calls Try.prog 8 #[(.pointer (some ⟨B, 0, none⟩)), .int .i64 s, .agg (vs (dT s)).toArray, .slice none 0 0] w fun e w' => e = .returned (.tuple #[]) ∧ Fx P w0 w' B (ownR r s (dT s) []) Z :=
 (h.own C ⟨fun l hm => Nat.le_trans (hl l hm) (by omega)⟩ s (dT s) [] none 0 0 h64 (dT_len s) By.none_ (by omega) (fun q hq => absurd hq.1 (by simp))).mono fun e w' h => ⟨h.1, h.2.1⟩
theorem fxT_told (C : PtsP P) {r : Ptp} (h : Fx P w0 w B r Z) {k : Nat} (hl : Lens k r) (hk : k ≤ 100) (n : Nat) (hn : (toldR r).length = n) : Calls Try.prog 15 #[(.pointer (some ⟨B, 0, none⟩))] w fun e w' => ∃ A c, e = .returned (.slice A n c) ∧ PosIn w' A n (toldR r) ∧ Below w0.heap.size w0 w' :=
 (h.told C ⟨fun l hm => Nat.le_trans (hl l hm) (by omega)⟩).mono fun e w' ⟨⟨A, k, c, e1, hp⟩, h2, _⟩ => ⟨A, c, by rw [← hn, hp.len]; exact e1, by rw [← hn, hp.len]; exact hp, h2.since⟩
end
theorem told_nil {D : Int → List UInt8} {r : Ptp} (h : Ownd D [] r) : toldR r = [] := by
 have e : ownL r = [] := by
  cases e : ownL r with
  | nil => rfl
  | cons x l => exact nomatch (h.mem x.sq).1 (by rw [e]; exact List.mem_cons_self ..)
 unfold toldR
 rw [e]
 rfl
theorem minmem {a b : Int} {l : List Int} (ha : a ∈ l) (hb : b ∈ l) : min a b ∈ l := by
 rcases Int.le_total a b with h | h
 ·rw [Int.min_eq_left h]; exact ha
 ·rw [Int.min_eq_right h]; exact hb
theorem maxmem {a b : Int} {l : List Int} (ha : a ∈ l) (hb : b ∈ l) : max a b ∈ l := by
 rcases Int.le_total a b with h | h
 ·rw [Int.max_eq_right h]; exact hb
 ·rw [Int.max_eq_left h]; exact ha
theorem ris_at {l : List Po} (h : Ris l) {i j : Nat} {y x : Po} (hy : l[i]? = some y) (hx : l[j]? = some x) (hij : i < j) : y.sq < x.sq := by
 unfold Ris at h
 obtain ⟨h1, h2⟩ := List.getElem?_eq_some_iff.1 hy
 obtain ⟨h3, h4⟩ := List.getElem?_eq_some_iff.1 hx
 have h9 := List.pairwise_iff_getElem.1 h i j (by simpa using h1) (by simpa using h3) hij
 rw [List.getElem_map, List.getElem_map, h2, h4] at h9
 exact h9
theorem lens_T0 : Lens 0 rT0 := fun l hl => by rw [List.eq_of_mem_replicate hl]; exact Nat.le_refl _
set_option maxHeartbeats 16000000 in
set_option maxRecDepth 100000 in
theorem told23_law {P : World → Nat → Ptp → (Nat → Prop) → Prop} (C : PtsP P) (A : Option Addr) (k c : Nat) (l : List Int) (w : World) (hs : Sl w 1 A k (l.map fun q => [.int .i64 q])) (h64 : ∀ q ∈ l, -9223372036854775808 ≤ q ∧ q ≤ 9223372036854775807) :
  Calls Try.prog 5 #[.slice A k c] w fun e w' => e = .returned (.bool true) ∧ Below w.heap.size w w' := by
 have HS := Lib.hid hs
 have HL64 := Lib.hid h64
 clear h64
 have HLn : Hid (l.length = k) := Lib.hid (by have h9 := hs.1; rwa [List.length_map] at h9)
 have hcv := fun s W => conv_T s W
 clear hs
 by_cases hbig : 60 < k
 ·have hb60 : (60 : Int) < (k : Int) := by omega
  go_enter Try.func5, Try.ntmps5
  go_wp2_with (first
    | (go_at_call 6; (with_reducible refine (fixed23_of C _).mono ?_); rintro e w1 ⟨rfl, hb9⟩; have HX1 := Lib.hid hb9; clear hb9))
  go_ret
  exact ⟨rfl, HX1.out⟩
 have hb60 : ¬ (60 : Int) < (k : Int) := by omega
 go_enter Try.func5, Try.ntmps5
 go_wp2_with (first
   | (go_at_call 6; (with_reducible refine (fixed23_of C _).mono ?_); rintro e w1 ⟨rfl, hb9⟩; have HX1 := Lib.hid hb9; clear hb9)
   | (go_at_call 7; (with_reducible refine (fxT_new C HX1.out).mono ?_); rintro e w2 ⟨B, rfl, hx9⟩; have Hw2 := Lib.hid hx9; clear hx9))
 go_loopw [21] (fun sv wr => ∃ (i : Nat) (r : Ptp), i ≤ k ∧ sv = .int .i64 (i : Int) ∧ Fx P w wr B r (fun _ => False) ∧ Ownd dT (l.take i) r ∧ Lens i r) (fun sv _ => (100 - (intOf sv)).toNat)
 case atStart => exact ⟨0, rT0, Nat.zero_le _, rfl, Hw2.out, ownd_new dT 4 2 (by decide), lens_T0⟩
 case round =>
  obtain ⟨i, r, hi, rfl, hF, hO, hL⟩ := hrel
  have HF := Lib.hid hF
  have HO := Lib.hid hO
  have HL := Lib.hid hL
  clear hF hO hL
  by_cases hlt : i < k
  ·have hlt2 : (i : Int) < (k : Int) := by omega
   obtain ⟨g0, o0, cs, hA, h1, _, _, h4⟩ := (HS.out.through HF.out.since).at hlt
   subst hA
   have hil : i < l.length := by rw [HLn.out]; exact hlt
   obtain ⟨s, hsv⟩ : ∃ s, l[i] = s := ⟨_, rfl⟩
   have HS64 : Hid (-9223372036854775808 ≤ s ∧ s ≤ 9223372036854775807) := Lib.hid (HL64.out s (by rw [← hsv]; exact List.getElem_mem hil))
   rw [List.getElem?_map, List.getElem?_eq_getElem hil, hsv] at h1
   simp only [Option.map_some, Option.some.injEq] at h1
   subst h1
   have kc : wr.cell? ⟨g0, o0 + i, none⟩ = some (.int .i64 s) := by have h9 := h4 0 _ rfl; simpa using h9
   have hix := fun (W : World) => Try.ix_qs23 W g0 o0 k c i hlt
   have HTk : Hid (l.take (i + 1) = l.take i ++ [s]) := Lib.hid (by rw [List.take_succ_eq_append_getElem hil, hsv])
   clear h4
   go_wp2_with (first
     | (go_at_call 8; (with_reducible refine (fxT_own C HF.out HL.out (by omega) s HS64.out).mono ?_); rintro e w4 ⟨rfl, hx9⟩; have Hw4 := Lib.hid hx9; clear hx9)
     | (refine wpList_build_to rfl 28 _ rfl [(0, u8 (bT s))] rfl (.agg (vs (dT s)).toArray) (Try.bld_dgT s _) ?_))
   go_roundw
   case rel => exact ⟨i + 1, _, by omega, by first | go_num | (push_cast; rfl), Hw4.out, by rw [HTk.out]; exact HO.out.own s [], HL.out.own s (dT s) []⟩
   case measure => simp [intOf]; omega
  ·have hlt2 : ¬ (i : Int) < (k : Int) := by omega
   obtain rfl : i = k := by omega
   have HTk : Hid (l.take i = l) := Lib.hid (by rw [← HLn.out, List.take_length])
   have HOl : Hid (Ownd dT l r) := Lib.hid (by have h9 := HO.out; rwa [HTk.out] at h9)
   obtain ⟨n5, hn5⟩ : ∃ n5, (toldR r).length = n5 := ⟨_, rfl⟩
   have HN5 := Lib.hid hn5
   clear hn5
   by_cases h0 : i = 0
   ·have hk0 : ((i : Int) == 0) = true := by simp [h0]
    have hl0 : l = [] := List.eq_nil_of_length_eq_zero (by rw [HLn.out]; exact h0)
    have hn0 : n5 = 0 := by have h9 := HOl.out; rw [hl0] at h9; rw [← HN5.out, told_nil h9]; rfl
    have hn1 : ((n5 : Int) == 0) = true := by simp [hn0]
    clear h0 hn0
    go_wp2_with (first
     | (go_at_call 15; (with_reducible refine (fxT_told C HF.out HL.out (by omega) n5 HN5.out).mono ?_); rintro e w5 ⟨A5, c5, rfl, hp9, hb9⟩; have HP5 := Lib.hid hp9; have HX5 := Lib.hid hb9; clear hp9 hb9))
    go_ret
    exact ⟨rfl, HX5.out⟩
   ·have hk0 : ((i : Int) == 0) = false := by simp [h0]
    have h1 : 0 < i := by omega
    obtain ⟨g0, o0, cs, hA, hc1, _, _, h4⟩ := (HS.out.through HF.out.since).at h1
    subst hA
    have hl0 : 0 < l.length := by rw [HLn.out]; exact h1
    obtain ⟨s0, hsv⟩ : ∃ s, l[0] = s := ⟨_, rfl⟩
    have HS0 := Lib.hid hsv
    have hix0 : ∀ W, (Instr.indexAt 53 (.slice (some ⟨g0, o0, none⟩) i c) (.int .i64 0)).run Try.prog W = .ok (.pointer (some ⟨g0, o0, none⟩)) W := fun W => by have h9 := Try.ix_qs23 W g0 o0 i c 0 h1; simpa using h9
    clear h4 hc1
    have hi60 : i ≤ 60 := by omega
    go_wp2_with (first
     | (go_at_call 15; (with_reducible refine (fxT_told C HF.out HL.out (by omega) n5 HN5.out).mono ?_); rintro e w5 ⟨A5, c5, rfl, hp9, hb9⟩; have HP5 := Lib.hid hp9; have HX5 := Lib.hid hb9; clear hp9 hb9))
    have KC5 : Hid (w5.drew.cell? ⟨g0, o0, none⟩ = some (.int .i64 s0)) := Lib.hid (by
     obtain ⟨g0', o0', cs', e, hc2, _, _, h5⟩ := (HS.out.through HX5.out).at h1
     injection e with e
     injection e with e1 e2
     subst e1 e2
     rw [List.getElem?_map, List.getElem?_eq_getElem hl0, hsv] at hc2
     simp only [Option.map_some, Option.some.injEq] at hc2
     subst hc2
     have h9 := h5 0 _ rfl
     simpa using h9)
    have HX6 := Lib.hid (below_step HX5.out (Below.refl _ w5).drew)
    have HP6 := Lib.hid (HP5.out.through (Below.refl _ w5).drew)
    have HS0m : Hid (s0 ∈ l) := Lib.hid (by rw [← HS0.out]; exact List.getElem_mem hl0)
    refine wp_region_held_drew (S := fun W => W.cell? ⟨g0, o0, none⟩ = some (.int .i64 s0)) (by kernel_rfl) KC5.out (fun hHeld => ?_)
    change wpAnyH _ _ _ _ _ _ #[false, false, false, false, false, false, false, false] _ _
    refine tkq (i := 0) (d := 40) (v := (.slice (some ⟨g0, o0, none⟩) i c)) rfl rfl (Or.inl ⟨by kernel_rfl, fun w hSw => ?_⟩) (by assumption) ?_
    ·(try dsimp only at hSw); go_simp <;> (try rfl)
    simp only [Act.put, sq1, sq2, sq3]
    refine tkq (i := 1) (d := 41) (v := (.pointer (some ⟨g0, o0, none⟩))) rfl rfl (Or.inl ⟨by kernel_rfl, fun w hSw => ?_⟩) (by assumption) ?_
    ·(try dsimp only at hSw); go_simp <;> (try rfl)
    simp only [Act.put, sq1, sq2, sq3]
    refine tkq (i := 2) (d := 42) (v := (.int .i64 s0)) rfl rfl (yields_load_at (by kernel_rfl) 2 (.tmp 41) rfl (.pointer (some ⟨g0, o0, none⟩)) (by simp [Act.eval]) (.int .i64 s0) (fun W hW => load_one' (Try.agg_i6 W) hW)) (by assumption) ?_
    simp only [Act.put, sq1, sq2, sq3]
    refine tkq (i := 3) (d := 43) (v := (.slice (some ⟨g0, o0, none⟩) i c)) rfl rfl (Or.inl ⟨by kernel_rfl, fun w hSw => ?_⟩) (by assumption) ?_
    ·(try dsimp only at hSw); go_simp <;> (try rfl)
    simp only [Act.put, sq1, sq2, sq3]
    refine tkq (i := 4) (d := 44) (v := (.pointer (some ⟨g0, o0, none⟩))) rfl rfl (Or.inl ⟨by kernel_rfl, fun w hSw => ?_⟩) (by assumption) ?_
    ·(try dsimp only at hSw); go_simp <;> (try rfl)
    simp only [Act.put, sq1, sq2, sq3]
    refine tkq (i := 5) (d := 45) (v := (.int .i64 s0)) rfl rfl (yields_load_at (by kernel_rfl) 2 (.tmp 44) rfl (.pointer (some ⟨g0, o0, none⟩)) (by simp [Act.eval]) (.int .i64 s0) (fun W hW => load_one' (Try.agg_i6 W) hW)) (by assumption) ?_
    simp only [Act.put, sq1, sq2, sq3]
    refine tkq (i := 6) (d := 7) (v := (.int .i64 s0)) rfl rfl (Or.inl ⟨by kernel_rfl, fun w hSw => ?_⟩) (by assumption) ?_
    ·(try dsimp only at hSw); go_simp <;> (try rfl)
    simp only [Act.put, sq1, sq2, sq3]
    refine tkq (i := 7) (d := 8) (v := (.int .i64 s0)) rfl rfl (Or.inl ⟨by kernel_rfl, fun w hSw => ?_⟩) (by assumption) ?_
    ·(try dsimp only at hSw); go_simp <;> (try rfl)
    simp only [Act.put, sq1, sq2, sq3]
    refine wpAnyH_done (by kernel_rfl) ?_ _
    go_wp2_with fail
    go_loopw [7, 8, 48] (fun s7 s8 s48 wr => ∃ (j : Nat) (lo hi : Int), s7 = .int .i64 lo ∧ s8 = .int .i64 hi ∧ s48 = .int .i64 (j : Int) ∧ j ≤ i ∧ Below w.heap.size w wr ∧ PosIn wr A5 n5 (toldR r) ∧ lo ∈ l ∧ hi ∈ l ∧ ∀ s ∈ l.take j, lo ≤ s ∧ s ≤ hi) (fun _ _ s48 _ => (100 - (intOf s48)).toNat)
    case atStart => exact ⟨0, s0, s0, rfl, rfl, rfl, Nat.zero_le _, HX6.out, HP6.out, HS0m.out, HS0m.out, fun s hs => nomatch hs⟩
    case round =>
     obtain ⟨j, lo, hi2, rfl, rfl, rfl, hj, hX, hP, hlo, hhi, hbd⟩ := hrel
     have HX7 := Lib.hid hX
     have HP7 := Lib.hid hP
     have HLo := Lib.hid hlo
     have HHi := Lib.hid hhi
     have HBd := Lib.hid hbd
     clear hX hP hlo hhi hbd
     by_cases hlt3 : j < i
     ·have hlt4 : (j : Int) < (i : Int) := by omega
      have hjl : j < l.length := by rw [HLn.out]; exact hlt3
      obtain ⟨s, hsj⟩ : ∃ s, l[j] = s := ⟨_, rfl⟩
      have HSj := Lib.hid hsj
      have kc : wr.cell? ⟨g0, o0 + j, none⟩ = some (.int .i64 s) := by
       obtain ⟨g0', o0', cs', e, hc2, _, _, h5⟩ := (HS.out.through HX7.out).at hlt3
       injection e with e
       injection e with e1 e2
       subst e1 e2
       rw [List.getElem?_map, List.getElem?_eq_getElem hjl, hsj] at hc2
       simp only [Option.map_some, Option.some.injEq] at hc2
       subst hc2
       have h9 := h5 0 _ rfl
       simpa using h9
      have hix := fun (W : World) => Try.ix_qs23 W g0 o0 i c j hlt3
      have HTk3 : Hid (l.take (j + 1) = l.take j ++ [s]) := Lib.hid (by rw [List.take_succ_eq_append_getElem hjl, hsj])
      have HSm : Hid (s ∈ l) := Lib.hid (by rw [← hsj]; exact List.getElem_mem hjl)
      clear hsj
      go_wp2_with fail
      go_roundw
      case rel => exact ⟨j + 1, min lo s, max hi2 s, rfl, rfl, by first | go_num | (push_cast; rfl), by omega, HX7.out, HP7.out, minmem HLo.out HSm.out, maxmem HHi.out HSm.out, fun y hy => by
       rw [HTk3.out] at hy
       rcases List.mem_append.1 hy with h9 | h9
       ·have := HBd.out y h9
        omega
       ·rw [List.mem_singleton.1 h9]
        omega⟩
      case measure => simp [intOf]; omega
     ·have hlt4 : ¬ (j : Int) < (i : Int) := by omega
      obtain rfl : j = i := by omega
      have HAll : Hid (∀ s ∈ l, lo ≤ s ∧ s ≤ hi2) := Lib.hid (by have h9 := HBd.out; rwa [HTk.out] at h9)
      go_wp2_with fail
      have HTo := HOl.out.told (by intro e; rw [e] at hl0; simp at hl0)
      have HT4 : Hid (n5 ≤ 4) := Lib.hid (by rw [← HN5.out]; exact HTo.1)
      have HTr : Hid (Ris (toldR r)) := Lib.hid HTo.2.1
      have HTd : Hid (∀ x ∈ toldR r, x.dg = dT x.sq) := Lib.hid HTo.2.2.1
      obtain ⟨a, z, ha, hz, ham, hzm, hbz⟩ := HTo.2.2.2
      have HA0 := Lib.hid ha
      have HZ0 := Lib.hid hz
      have HLoE : Hid (a.sq = lo) := Lib.hid (by have h1 := (HAll.out a.sq ham).1; have h2 := (hbz lo HLo.out).1; omega)
      have HHiE : Hid (z.sq = hi2) := Lib.hid (by have h1 := (HAll.out z.sq hzm).2; have h2 := (hbz hi2 HHi.out).2; omega)
      clear ha hz ham hzm hbz HTo
      go_loopw [61] (fun s61 w3 => ∃ (q : Nat), s61 = .int .i64 (q : Int) ∧ q ≤ n5 ∧ Below w.heap.size w w3 ∧ PosIn w3 A5 n5 (toldR r)) (fun s61 _ => (100 - (intOf s61)).toNat)
      case atStart => exact ⟨0, rfl, Nat.zero_le _, HX7.out, HP7.out⟩
      case round =>
       obtain ⟨q, rfl, hq, hX, hP⟩ := hrel
       have HX8 := Lib.hid hX
       have HP8 := Lib.hid hP
       clear hX hP
       have hn4 : n5 ≤ 4 := HT4.out
       by_cases hq5 : q < n5
       ·have hq6 : (q : Int) < (n5 : Int) := by omega
        obtain ⟨g5, o5, x, hA5, hxq, _, _, hxd, hrx⟩ := HP8.out.at hq5
        subst hA5
        have HXd := Lib.hid hxd
        have HXq := Lib.hid hxq
        have HRx := Lib.hid hrx
        have HXl : Hid ((Po.cells x).length = 33) := Lib.hid (Po.cells_len x hxd)
        have HXe : Hid (x.dg = dT x.sq) := Lib.hid (HTd.out x (List.mem_of_getElem? hxq))
        have hixp := fun (W : World) => Try.ix_po W g5 o5 n5 c5 q hq5
        have hz := fun W => Try.zero_po W
        clear hxq hxd hrx
        go_upto_region 23 with (first
         | (refine wpList_load_mid rfl tPo (.tmp 64) rfl g5 (o5 + q * 33) rfl (Po.cells x) _ HRx.out Try.underlying31 rfl (by rw [HXl.out]; kernel_rfl) ?_)
         | (refine wpList_store_blk rfl tPo (.tmp 12) (.tmp 65) rfl wr.heap.size (Po.cells x) rfl rfl tPo (Po.cells poZ) (Blk.fresh rfl rfl) (by rw [HXl.out]; kernel_rfl) (poZ_len.trans HXl.out.symm) (Po.one x) ?_; simp only [Act.put]; intro w9 hbv hgv; have HB9 := Lib.hid hbv; have HG9 := Lib.hid (below_new hgv); clear hbv hgv))
        have hne : ∀ W, (binOp .neq 28 (.agg (vs (dT x.sq)).toArray) (.agg (vs (dT x.sq)).toArray)).run Try.prog W = .ok (.bool false) W := fun W => by
         have h9 := arr_neq (fun w => run_eql_bytes w 28 5 32 Try.underlying28 Try.underlying5 (by kernel_rfl) (by kernel_rfl) (dT x.sq) (dT x.sq) (dT_len _) (dT_len _)) W
         simpa using h9
        have HR9 : Hid (∀ W, Blk W wr.heap.size tPo (Po.cells x) → W.rangeAt wr.heap.size 1 (vs (dT x.sq))) := Lib.hid (fun W hW => by rw [← HXe.out]; exact dg_range hW)
        have HX9 := Lib.hid (below_step (below_step HX8.out HG9.out) (Below.refl _ w9).drew)
        have HP9 := Lib.hid ((HP8.out.through HG9.out).through (Below.refl _ w9).drew)
        by_cases hq0 : q = 0
        ·have hq1 : ¬ (0 : Int) < (q : Int) := by omega
         refine wp_region_held_drew (S := fun W => Blk W wr.heap.size tPo (Po.cells x)) (by kernel_rfl) HB9.out.drew (fun hHeld => ?_)
         change wpAnyH _ _ _ _ _ _ #[false, false, false, false, false, false, false, false, false, false, false, false, false, false, false, false, false, false, false, false, false, false] _ _
         refine tkq (i := 0) (d := 66) (v := (.int .i64 (q : Int))) rfl rfl (Or.inl ⟨by kernel_rfl, fun w hSw => ?_⟩) (by assumption) ?_
         ·(try dsimp only at hSw); go_simp <;> (try first | rfl | assumption | omega)
         simp only [Act.put, sq1, sq2, sq3]
         refine tkq (i := 1) (d := 67) (v := (.bool false)) rfl rfl (Or.inl ⟨by kernel_rfl, fun w hSw => ?_⟩) (by assumption) ?_
         ·(try dsimp only at hSw); go_simp <;> (try first | rfl | assumption | omega)
         simp only [Act.put, sq1, sq2, sq3]
         refine tkq (i := 2) (d := 68) (v := (.bool false)) rfl rfl (Or.inl ⟨by kernel_rfl, fun w hSw => ?_⟩) (by assumption) ?_
         ·(try dsimp only at hSw); go_simp <;> (try first | rfl | assumption | omega)
         simp only [Act.put, sq1, sq2, sq3]
         refine tkv (i := 3) (d := 69) rfl rfl (by assumption) ?_
         simp only [Act.put, sq1, sq2, sq3]
         refine tkv (i := 4) (d := 70) rfl rfl (by assumption) ?_
         simp only [Act.put, sq1, sq2, sq3]
         refine tkv (i := 5) (d := 71) rfl rfl (by assumption) ?_
         simp only [Act.put, sq1, sq2, sq3]
         refine tkv (i := 6) (d := 72) rfl rfl (by assumption) ?_
         simp only [Act.put, sq1, sq2, sq3]
         refine tkv (i := 7) (d := 73) rfl rfl (by assumption) ?_
         simp only [Act.put, sq1, sq2, sq3]
         refine tkv (i := 8) (d := 74) rfl rfl (by assumption) ?_
         simp only [Act.put, sq1, sq2, sq3]
         refine tkv (i := 9) (d := 75) rfl rfl (by assumption) ?_
         simp only [Act.put, sq1, sq2, sq3]
         refine tkv (i := 10) (d := 76) rfl rfl (by assumption) ?_
         simp only [Act.put, sq1, sq2, sq3]
         refine tkv (i := 11) (d := 77) rfl rfl (by assumption) ?_
         simp only [Act.put, sq1, sq2, sq3]
         refine tkq (i := 12) (d := 78) (v := (.bool false)) rfl rfl (Or.inl ⟨by kernel_rfl, fun w hSw => ?_⟩) (by assumption) ?_
         ·(try dsimp only at hSw); go_simp <;> (try first | rfl | assumption | omega)
         simp only [Act.put, sq1, sq2, sq3]
         refine tkq (i := 13) (d := 79) (v := (.bool false)) rfl rfl (Or.inl ⟨by kernel_rfl, fun w hSw => ?_⟩) (by assumption) ?_
         ·(try dsimp only at hSw); go_simp <;> (try first | rfl | assumption | omega)
         simp only [Act.put, sq1, sq2, sq3]
         refine tkq (i := 14) (d := 80) (v := (.pointer (some ⟨wr.heap.size, 1, none⟩))) rfl rfl (Or.inl ⟨by kernel_rfl, fun w hSw => ?_⟩) (by assumption) ?_
         ·(try dsimp only at hSw); go_simp <;> (try first | rfl | assumption | omega)
         simp only [Act.put, sq1, sq2, sq3]
         refine tkq (i := 15) (d := 81) (v := (.agg (vs (dT x.sq)).toArray)) rfl rfl (yieldsIf_load_mid (by kernel_rfl) 28 (.tmp 80) rfl wr.heap.size 1 rfl (vs (dT x.sq)) _ (fun W hW => HR9.out W (hW)) Try.underlying28 rfl (by rw [vs_length, dT_len]; kernel_rfl)) (by assumption) ?_
         simp only [Act.put, sq1, sq2, sq3]
         refine tkq (i := 16) (d := 82) (v := (.pointer (some ⟨wr.heap.size, 0, none⟩))) rfl rfl (Or.inl ⟨by kernel_rfl, fun w hSw => ?_⟩) (by assumption) ?_
         ·(try dsimp only at hSw); go_simp <;> (try first | rfl | assumption | omega)
         simp only [Act.put, sq1, sq2, sq3]
         refine tkq (i := 17) (d := 83) (v := (.int .i64 x.sq)) rfl rfl (yields_load_at (by kernel_rfl) 2 (.tmp 82) rfl (.pointer (some ⟨wr.heap.size, 0, none⟩)) (by simp [Act.eval]) (.int .i64 x.sq) (fun W hW => load_one' (Try.agg_i6 W) (Blk.cellAt (i := 0) (hW) rfl))) (by assumption) ?_
         simp only [Act.put, sq1, sq2, sq3]
         refine tkq (i := 18) (d := 84) (v := (u8 (bT x.sq))) rfl rfl (yields_conv (by kernel_rfl) 2 5 (.tmp 83) rfl (.int .i64 x.sq) (by simp [Act.eval]) (u8 (bT x.sq)) (fun W hW => conv_T x.sq W)) (by assumption) ?_
         simp only [Act.put, sq1, sq2, sq3]
         refine tkq (i := 19) (d := 85) (v := (.agg (vs (dT x.sq)).toArray)) rfl rfl (yields_build (by kernel_rfl) 28 #[(0, .tmp 84)] rfl #[(0, u8 (bT x.sq))] (by simp [Act.eval]) (.agg (vs (dT x.sq)).toArray) (fun W _ => Try.bld_dgT x.sq W)) (by assumption) ?_
         simp only [Act.put, sq1, sq2, sq3]
         refine tkq (i := 20) (d := 86) (v := (.bool false)) rfl rfl (Or.inl ⟨by kernel_rfl, fun w hSw => ?_⟩) (by assumption) ?_
         ·(try dsimp only at hSw); go_simp <;> (try first | rfl | assumption | omega)
         simp only [Act.put, sq1, sq2, sq3]
         refine tkq (i := 21) (d := 87) (v := (.bool false)) rfl rfl (Or.inl ⟨by kernel_rfl, fun w hSw => ?_⟩) (by assumption) ?_
         ·(try dsimp only at hSw); go_simp <;> (try first | rfl | assumption | omega)
         simp only [Act.put, sq1, sq2, sq3]
         refine wpAnyH_done (by kernel_rfl) ?_ _
         go_wp2_with fail
         go_roundw
         case rel => exact ⟨q + 1, by first | go_num | (push_cast; rfl), by omega, HX9.out, HP9.out⟩
         case measure => simp [intOf]; omega
        ·have hq1 : (0 : Int) < (q : Int) := by omega
         obtain ⟨g6, o6, y, e6, hyq, _, _, _, hry⟩ := (HP8.out.through HG9.out).at (i := q - 1) (by omega)
         injection e6 with e6
         injection e6 with e61 e62
         subst e61 e62
         have HY9 : Hid (w9.drew.cell? ⟨g5, o5 + (q - 1) * 33, none⟩ = some (.int .i64 y.sq)) := Lib.hid (by have h9 := hry 0 _ rfl; simpa using h9)
         have hge : ¬ x.sq ≤ y.sq := by have := ris_at HTr.out hyq HXq.out (by omega); omega
         have hixm := fun (W : World) => Try.ix_po W g5 o5 n5 c5 (q - 1) (by omega)
         have hs1 : IntKind.i64.wrap ((q : Int) - 1) = ((q - 1 : Nat) : Int) := by rw [IntWalk.i64_in _ (by omega)]; omega
         have hs2 : wrap64 ((q : Int) - 1) = ((q - 1 : Nat) : Int) := by rw [IntWalk.wrap64_in _ (by omega)]; omega
         clear hyq hry
         refine wp_region_held_drew (S := fun W => Blk W wr.heap.size tPo (Po.cells x) ∧ W.cell? ⟨g5, o5 + (q - 1) * 33, none⟩ = some (.int .i64 y.sq)) (by kernel_rfl) ⟨HB9.out.drew, HY9.out⟩ (fun hHeld => ?_)
         change wpAnyH _ _ _ _ _ _ #[false, false, false, false, false, false, false, false, false, false, false, false, false, false, false, false, false, false, false, false, false, false] _ _
         refine tkq (i := 0) (d := 66) (v := (.int .i64 (q : Int))) rfl rfl (Or.inl ⟨by kernel_rfl, fun w hSw => ?_⟩) (by assumption) ?_
         ·(try dsimp only at hSw); go_simp <;> (try first | rfl | assumption | omega)
         simp only [Act.put, sq1, sq2, sq3]
         refine tkq (i := 1) (d := 67) (v := (.bool true)) rfl rfl (Or.inl ⟨by kernel_rfl, fun w hSw => ?_⟩) (by assumption) ?_
         ·(try dsimp only at hSw); go_simp <;> (try first | rfl | assumption | omega)
         simp only [Act.put, sq1, sq2, sq3]
         refine tkq (i := 2) (d := 68) (v := (.bool true)) rfl rfl (Or.inl ⟨by kernel_rfl, fun w hSw => ?_⟩) (by assumption) ?_
         ·(try dsimp only at hSw); go_simp <;> (try first | rfl | assumption | omega)
         simp only [Act.put, sq1, sq2, sq3]
         refine tkq (i := 3) (d := 69) (v := (.slice (some ⟨g5, o5, none⟩) n5 c5)) rfl rfl (Or.inl ⟨by kernel_rfl, fun w hSw => ?_⟩) (by assumption) ?_
         ·(try dsimp only at hSw); go_simp <;> (try first | rfl | assumption | omega)
         simp only [Act.put, sq1, sq2, sq3]
         refine tkq (i := 4) (d := 70) (v := (.int .i64 (q : Int))) rfl rfl (Or.inl ⟨by kernel_rfl, fun w hSw => ?_⟩) (by assumption) ?_
         ·(try dsimp only at hSw); go_simp <;> (try first | rfl | assumption | omega)
         simp only [Act.put, sq1, sq2, sq3]
         refine tkq (i := 5) (d := 71) (v := (.int .i64 ((q - 1 : Nat) : Int))) rfl rfl (Or.inl ⟨by kernel_rfl, fun w hSw => ?_⟩) (by assumption) ?_
         ·(try dsimp only at hSw); go_simp <;> (try first | rfl | assumption | omega)
         simp only [Act.put, sq1, sq2, sq3]
         refine tkq (i := 6) (d := 72) (v := (.pointer (some ⟨g5, o5 + (q - 1) * 33, none⟩))) rfl rfl (Or.inl ⟨by kernel_rfl, fun w hSw => ?_⟩) (by assumption) ?_
         ·(try dsimp only at hSw); go_simp <;> (try first | rfl | assumption | omega)
         simp only [Act.put, sq1, sq2, sq3]
         refine tkq (i := 7) (d := 73) (v := (.pointer (some ⟨g5, o5 + (q - 1) * 33, none⟩))) rfl rfl (Or.inl ⟨by kernel_rfl, fun w hSw => ?_⟩) (by assumption) ?_
         ·(try dsimp only at hSw); go_simp <;> (try first | rfl | assumption | omega)
         simp only [Act.put, sq1, sq2, sq3]
         refine tkq (i := 8) (d := 74) (v := (.int .i64 y.sq)) rfl rfl (yields_load_at (by kernel_rfl) 2 (.tmp 73) rfl (.pointer (some ⟨g5, o5 + (q - 1) * 33, none⟩)) (by simp [Act.eval]) (.int .i64 y.sq) (fun W hW => load_one' (Try.agg_i6 W) hW.2)) (by assumption) ?_
         simp only [Act.put, sq1, sq2, sq3]
         refine tkq (i := 9) (d := 75) (v := (.pointer (some ⟨wr.heap.size, 0, none⟩))) rfl rfl (Or.inl ⟨by kernel_rfl, fun w hSw => ?_⟩) (by assumption) ?_
         ·(try dsimp only at hSw); go_simp <;> (try first | rfl | assumption | omega)
         simp only [Act.put, sq1, sq2, sq3]
         refine tkq (i := 10) (d := 76) (v := (.int .i64 x.sq)) rfl rfl (yields_load_at (by kernel_rfl) 2 (.tmp 75) rfl (.pointer (some ⟨wr.heap.size, 0, none⟩)) (by simp [Act.eval]) (.int .i64 x.sq) (fun W hW => load_one' (Try.agg_i6 W) (Blk.cellAt (i := 0) (hW.1) rfl))) (by assumption) ?_
         simp only [Act.put, sq1, sq2, sq3]
         refine tkq (i := 11) (d := 77) (v := (.bool false)) rfl rfl (Or.inl ⟨by kernel_rfl, fun w hSw => ?_⟩) (by assumption) ?_
         ·(try dsimp only at hSw); go_simp <;> (try first | rfl | assumption | omega)
         simp only [Act.put, sq1, sq2, sq3]
         refine tkq (i := 12) (d := 78) (v := (.bool false)) rfl rfl (Or.inl ⟨by kernel_rfl, fun w hSw => ?_⟩) (by assumption) ?_
         ·(try dsimp only at hSw); go_simp <;> (try first | rfl | assumption | omega)
         simp only [Act.put, sq1, sq2, sq3]
         refine tkq (i := 13) (d := 79) (v := (.bool false)) rfl rfl (Or.inl ⟨by kernel_rfl, fun w hSw => ?_⟩) (by assumption) ?_
         ·(try dsimp only at hSw); go_simp <;> (try first | rfl | assumption | omega)
         simp only [Act.put, sq1, sq2, sq3]
         refine tkq (i := 14) (d := 80) (v := (.pointer (some ⟨wr.heap.size, 1, none⟩))) rfl rfl (Or.inl ⟨by kernel_rfl, fun w hSw => ?_⟩) (by assumption) ?_
         ·(try dsimp only at hSw); go_simp <;> (try first | rfl | assumption | omega)
         simp only [Act.put, sq1, sq2, sq3]
         refine tkq (i := 15) (d := 81) (v := (.agg (vs (dT x.sq)).toArray)) rfl rfl (yieldsIf_load_mid (by kernel_rfl) 28 (.tmp 80) rfl wr.heap.size 1 rfl (vs (dT x.sq)) _ (fun W hW => HR9.out W (hW.1)) Try.underlying28 rfl (by rw [vs_length, dT_len]; kernel_rfl)) (by assumption) ?_
         simp only [Act.put, sq1, sq2, sq3]
         refine tkq (i := 16) (d := 82) (v := (.pointer (some ⟨wr.heap.size, 0, none⟩))) rfl rfl (Or.inl ⟨by kernel_rfl, fun w hSw => ?_⟩) (by assumption) ?_
         ·(try dsimp only at hSw); go_simp <;> (try first | rfl | assumption | omega)
         simp only [Act.put, sq1, sq2, sq3]
         refine tkq (i := 17) (d := 83) (v := (.int .i64 x.sq)) rfl rfl (yields_load_at (by kernel_rfl) 2 (.tmp 82) rfl (.pointer (some ⟨wr.heap.size, 0, none⟩)) (by simp [Act.eval]) (.int .i64 x.sq) (fun W hW => load_one' (Try.agg_i6 W) (Blk.cellAt (i := 0) (hW.1) rfl))) (by assumption) ?_
         simp only [Act.put, sq1, sq2, sq3]
         refine tkq (i := 18) (d := 84) (v := (u8 (bT x.sq))) rfl rfl (yields_conv (by kernel_rfl) 2 5 (.tmp 83) rfl (.int .i64 x.sq) (by simp [Act.eval]) (u8 (bT x.sq)) (fun W hW => conv_T x.sq W)) (by assumption) ?_
         simp only [Act.put, sq1, sq2, sq3]
         refine tkq (i := 19) (d := 85) (v := (.agg (vs (dT x.sq)).toArray)) rfl rfl (yields_build (by kernel_rfl) 28 #[(0, .tmp 84)] rfl #[(0, u8 (bT x.sq))] (by simp [Act.eval]) (.agg (vs (dT x.sq)).toArray) (fun W _ => Try.bld_dgT x.sq W)) (by assumption) ?_
         simp only [Act.put, sq1, sq2, sq3]
         refine tkq (i := 20) (d := 86) (v := (.bool false)) rfl rfl (Or.inl ⟨by kernel_rfl, fun w hSw => ?_⟩) (by assumption) ?_
         ·(try dsimp only at hSw); go_simp <;> (try first | rfl | assumption | omega)
         simp only [Act.put, sq1, sq2, sq3]
         refine tkq (i := 21) (d := 87) (v := (.bool false)) rfl rfl (Or.inl ⟨by kernel_rfl, fun w hSw => ?_⟩) (by assumption) ?_
         ·(try dsimp only at hSw); go_simp <;> (try first | rfl | assumption | omega)
         simp only [Act.put, sq1, sq2, sq3]
         refine wpAnyH_done (by kernel_rfl) ?_ _
         go_wp2_with fail
         go_roundw
         case rel => exact ⟨q + 1, by first | go_num | (push_cast; rfl), by omega, HX9.out, HP9.out⟩
         case measure => simp [intOf]; omega
       ·have hq6 : ¬ (q : Int) < (n5 : Int) := by omega
        obtain rfl : q = n5 := by omega
        have hn1 : 0 < q := by
         have h9 := HN5.out
         have h8 := (List.getElem?_eq_some_iff.1 HA0.out).1
         omega
        obtain ⟨g5, o5, a2, hA5, ha2, _, _, _, hra⟩ := HP8.out.at (i := 0) hn1
        subst hA5
        obtain ⟨g6, o6, z2, e6, hz2, _, _, _, hrz⟩ := HP8.out.at (i := q - 1) (by omega)
        injection e6 with e6
        injection e6 with e61 e62
        subst e61 e62
        have ka : wr.cell? ⟨g5, o5, none⟩ = some (.int .i64 lo) := by
         have h9 := hra 0 _ rfl
         rw [HA0.out] at ha2
         rw [← Option.some.inj ha2, HLoE.out] at h9
         simpa using h9
        have kz : wr.cell? ⟨g5, o5 + (q - 1) * 33, none⟩ = some (.int .i64 hi2) := by
         have h9 := hrz 0 _ rfl
         have h8 := HZ0.out
         rw [List.getLast?_eq_getElem?, HN5.out, hz2] at h8
         rw [Option.some.inj h8, HHiE.out] at h9
         simpa using h9
        have hixa : ∀ W, (Instr.indexAt tPos (.slice (some ⟨g5, o5, none⟩) q c5) (.int .i64 0)).run Try.prog W = .ok (.pointer (some ⟨g5, o5, none⟩)) W := fun W => by have h9 := Try.ix_po W g5 o5 q c5 0 hn1; simpa using h9
        have hixm := fun (W : World) => Try.ix_po W g5 o5 q c5 (q - 1) (by omega)
        have hs1 : IntKind.i64.wrap ((q : Int) - 1) = ((q - 1 : Nat) : Int) := by rw [IntWalk.i64_in _ (by omega)]; omega
        have hs2 : wrap64 ((q : Int) - 1) = ((q - 1 : Nat) : Int) := by rw [IntWalk.wrap64_in _ (by omega)]; omega
        have hc1 : (1 : Int) ≤ (q : Int) := by omega
        have hc4 : (q : Int) ≤ 4 := by omega
        clear ha2 hz2 hra hrz
        go_wp2_with fail
        go_ret
        exact ⟨by simp, HX8.out⟩

end Go.Proofs.Ytpolofehkckaoaa
