/-
  LedgerOrder, walked.
-/
import Derived.Test.YtkbeodlihmmdbaaPgL1
import Derived.Test.YtkbeodlihmmdbaaPgF2
namespace Go.Proofs.Ytkbeodlihmmdbaa
open Go.RowKit

theorem LgIn.stored {w w' : World} {A : Option Addr} {n : Nat} {B : Option Addr} {m : Nat} {l : Lg} {g : Nat} {t : TypeId} {i j : Int} {A2 : Option Addr} {n2 c2 : Nat} {B2 : Option Addr} {m2 d2 : Nat} (h : LgIn w A n B m l) (hb : Blk w g t [.int .i64 i, .int .i64 j, .slice A2 n2 c2, .slice B2 m2 d2]) (hg : w.grownBy w' (some g)) : LgIn w' A n B m l := by
  refine ⟨⟨h.1.1, fun hn => ?_⟩, ⟨h.2.1, fun hm => ?_⟩⟩
  · obtain ⟨g', o, e, hc⟩ := h.1.2 hn
    have hne : g' ≠ g := by
      rintro rfl
      obtain ⟨g2, o2, x, e2, _, _, _, hr⟩ := h.lt_at (i := 0) hn
      rw [e] at e2
      obtain ⟨rfl, rfl⟩ : g' = g2 ∧ o = o2 := by simpa using e2
      have h1 := hr 0 (.string (ba x.nm)) rfl
      rw [hb.cell] at h1
      have h2 := List.mem_of_getElem? h1
      simp at h2
    exact ⟨g', o, e, fun i cs hi => rangeAt.only (hc i cs hi) hg hne⟩
  · obtain ⟨g', o, e, hc⟩ := h.2.2 hm
    have hne : g' ≠ g := by
      rintro rfl
      obtain ⟨g2, o2, x, e2, _, _, _, hr⟩ := h.oc_at (i := 0) hm
      rw [e] at e2
      obtain ⟨rfl, rfl⟩ : g' = g2 ∧ o = o2 := by simpa using e2
      have h1 := hr 2 (.int .i64 x.rs) rfl
      rw [hb.cell] at h1
      have h3 : o + 0 * 3 + 2 < 4 := (List.getElem?_eq_some_iff.1 h1).1
      have h4 : o = 0 ∨ o = 1 := by omega
      rcases h4 with rfl | rfl <;> simp at h1
    exact ⟨g', o, e, fun i cs hi => rangeAt.only (hc i cs hi) hg hne⟩
theorem with_one {a : Lt} (h : isNm a.nm = true) : withL Lg.no a = (⟨0, 0, [a], []⟩, 0) := by simp [withL, h, Lg.no, putL, findL]
theorem two_lt {a b : Lt} (ha : isNm a.nm = true) (hb : isNm b.nm = true) (hne : a.nm ≠ b.nm) : ∃ s0 s1 : Lt, ltS s0.nm s1.nm = true ∧ withL ⟨0, 0, [a], []⟩ b = (⟨0, 0, [s0, s1], []⟩, 0) ∧ withL ⟨0, 0, [b], []⟩ a = (⟨0, 0, [s0, s1], []⟩, 0) := by
  have hne2 : b.nm ≠ a.nm := fun e => hne e.symm
  cases h : ltS a.nm b.nm with
  | true =>
    have h2 := ltS_asymm h
    exact ⟨a, b, h, by simp [withL, hb, findL, putL, hne, h2], by simp [withL, ha, findL, putL, hne2, h]⟩
  | false =>
    have h2 := ltS_total hne h
    exact ⟨b, a, h2, by simp [withL, hb, findL, putL, hne, h2], by simp [withL, ha, findL, putL, hne2, h]⟩
theorem told_one (S : List Lt) (o : Oc) : toldL ⟨0, 0, S, []⟩ o = ⟨0, 0, S, [o]⟩ := by simp [toldL, putO]
theorem two_oc {o p : Oc} (hne : o.cl ≠ p.cl) : ∃ q0 q1 : Oc, q0.cl < q1.cl ∧ (∀ S, toldL ⟨0, 0, S, [o]⟩ p = ⟨0, 0, S, [q0, q1]⟩) ∧ (∀ S, toldL ⟨0, 0, S, [p]⟩ o = ⟨0, 0, S, [q0, q1]⟩) := by
  have hne2 : p.cl ≠ o.cl := fun e => hne e.symm
  by_cases h : o.cl < p.cl
  · have h2 : ¬ p.cl < o.cl := by omega
    exact ⟨o, p, h, fun S => by simp [toldL, putO, lastL, hne, h2], fun S => by simp [toldL, putO, lastL, hne2, h]⟩
  · have h2 : p.cl < o.cl := by omega
    exact ⟨p, o, h2, fun S => by simp [toldL, putO, lastL, hne, h2], fun S => by simp [toldL, putO, lastL, hne2, h]⟩

set_option maxHeartbeats 32000000 in
set_option maxRecDepth 100000 in
theorem lorder_any (a b : Lt) (o p : Oc) (w : World) :
    Calls Try.prog 6 #[.agg #[.string (ba a.nm), .int .i64 a.st, .int .i64 a.am, .int .i64 a.du, .string (ba a.po), .string (ba a.pa)], .agg #[.string (ba b.nm), .int .i64 b.st, .int .i64 b.am, .int .i64 b.du, .string (ba b.po), .string (ba b.pa)], .agg #[.int .i64 o.cl, .int .i64 o.sp, .int .i64 o.rs], .agg #[.int .i64 p.cl, .int .i64 p.sp, .int .i64 p.rs]] w fun e w' => e = .returned (.bool true) ∧ Below w.heap.size w w' := by
  have hli := ba_list
  have hsz := ba_size
  have hb0 := Try.build_lg
  have HX0 : Hid (Below w.heap.size w ((((w.alloc (.cells #[.string (ba a.nm), .int .i64 a.st, .int .i64 a.am, .int .i64 a.du, .string (ba a.po), .string (ba a.pa)] 27)).alloc (.cells #[.string (ba b.nm), .int .i64 b.st, .int .i64 b.am, .int .i64 b.du, .string (ba b.po), .string (ba b.pa)] 27)).alloc (.cells #[.int .i64 o.cl, .int .i64 o.sp, .int .i64 o.rs] 30)).alloc (.cells #[.int .i64 p.cl, .int .i64 p.sp, .int .i64 p.rs] 30))) := Lib.hid ((below3 w _ _ _).alloc (by simp; omega) _)
  have K40 : Hid (Blk ((((w.alloc (.cells #[.string (ba a.nm), .int .i64 a.st, .int .i64 a.am, .int .i64 a.du, .string (ba a.po), .string (ba a.pa)] 27)).alloc (.cells #[.string (ba b.nm), .int .i64 b.st, .int .i64 b.am, .int .i64 b.du, .string (ba b.po), .string (ba b.pa)] 27)).alloc (.cells #[.int .i64 o.cl, .int .i64 o.sp, .int .i64 o.rs] 30)).alloc (.cells #[.int .i64 p.cl, .int .i64 p.sp, .int .i64 p.rs] 30)) (w.heap.size) 27 [.string (ba a.nm), .int .i64 a.st, .int .i64 a.am, .int .i64 a.du, .string (ba a.po), .string (ba a.pa)]) := Lib.hid ((((Blk.fresh rfl rfl).alloc _).alloc _).alloc _)
  have K50 : Hid (Blk ((((w.alloc (.cells #[.string (ba a.nm), .int .i64 a.st, .int .i64 a.am, .int .i64 a.du, .string (ba a.po), .string (ba a.pa)] 27)).alloc (.cells #[.string (ba b.nm), .int .i64 b.st, .int .i64 b.am, .int .i64 b.du, .string (ba b.po), .string (ba b.pa)] 27)).alloc (.cells #[.int .i64 o.cl, .int .i64 o.sp, .int .i64 o.rs] 30)).alloc (.cells #[.int .i64 p.cl, .int .i64 p.sp, .int .i64 p.rs] 30)) (w.heap.size + 1) 27 [.string (ba b.nm), .int .i64 b.st, .int .i64 b.am, .int .i64 b.du, .string (ba b.po), .string (ba b.pa)]) := Lib.hid (((Blk.fresh (by simp) rfl).alloc _).alloc _)
  have K60 : Hid (Blk ((((w.alloc (.cells #[.string (ba a.nm), .int .i64 a.st, .int .i64 a.am, .int .i64 a.du, .string (ba a.po), .string (ba a.pa)] 27)).alloc (.cells #[.string (ba b.nm), .int .i64 b.st, .int .i64 b.am, .int .i64 b.du, .string (ba b.po), .string (ba b.pa)] 27)).alloc (.cells #[.int .i64 o.cl, .int .i64 o.sp, .int .i64 o.rs] 30)).alloc (.cells #[.int .i64 p.cl, .int .i64 p.sp, .int .i64 p.rs] 30)) (w.heap.size + 2) 30 [.int .i64 o.cl, .int .i64 o.sp, .int .i64 o.rs]) := Lib.hid ((Blk.fresh (by simp) rfl).alloc _)
  have K70 : Hid (Blk ((((w.alloc (.cells #[.string (ba a.nm), .int .i64 a.st, .int .i64 a.am, .int .i64 a.du, .string (ba a.po), .string (ba a.pa)] 27)).alloc (.cells #[.string (ba b.nm), .int .i64 b.st, .int .i64 b.am, .int .i64 b.du, .string (ba b.po), .string (ba b.pa)] 27)).alloc (.cells #[.int .i64 o.cl, .int .i64 o.sp, .int .i64 o.rs] 30)).alloc (.cells #[.int .i64 p.cl, .int .i64 p.sp, .int .i64 p.rs] 30)) (w.heap.size + 3) 30 [.int .i64 p.cl, .int .i64 p.sp, .int .i64 p.rs]) := Lib.hid (Blk.fresh (by simp) rfl)
  by_cases h1 : a.nm.length ≤ 100
  case neg =>
    have d1 : decide ((100 : Int) < (a.nm.length : Int)) = true := by simp; omega
    clear h1
    go_enter Try.func6, Try.ntmps6
    go_wp2_with (first
      | (go_at_call 7; (with_reducible refine (fixed_any _).mono ?_); rintro e wa ⟨rfl, hba⟩; have HXa : Hid (Below w.heap.size w wa) := Lib.hid (below_step HX0.out hba); have K4a := Lib.hid (K40.out.through hba); have K5a := Lib.hid (K50.out.through hba); have K6a := Lib.hid (K60.out.through hba); have K7a := Lib.hid (K70.out.through hba); have c40 := K4a.out.cellAt (i := 0) rfl; have c50 := K5a.out.cellAt (i := 0) rfl; have c60 := K6a.out.cellAt (i := 0) rfl; have c70 := K7a.out.cellAt (i := 0) rfl; clear hba))
    go_ret
    exact ⟨rfl, HXa.out⟩
  case pos =>
  have d1 : decide ((100 : Int) < (a.nm.length : Int)) = false := by simp; omega
  by_cases h2 : b.nm.length ≤ 100
  case neg =>
    have d2 : decide ((100 : Int) < (b.nm.length : Int)) = true := by simp; omega
    clear h1 h2
    go_enter Try.func6, Try.ntmps6
    go_wp2_with (first
      | (go_at_call 7; (with_reducible refine (fixed_any _).mono ?_); rintro e wa ⟨rfl, hba⟩; have HXa : Hid (Below w.heap.size w wa) := Lib.hid (below_step HX0.out hba); have K4a := Lib.hid (K40.out.through hba); have K5a := Lib.hid (K50.out.through hba); have K6a := Lib.hid (K60.out.through hba); have K7a := Lib.hid (K70.out.through hba); have c40 := K4a.out.cellAt (i := 0) rfl; have c50 := K5a.out.cellAt (i := 0) rfl; have c60 := K6a.out.cellAt (i := 0) rfl; have c70 := K7a.out.cellAt (i := 0) rfl; clear hba))
    go_ret
    exact ⟨rfl, HXa.out⟩
  case pos =>
  have d2 : decide ((100 : Int) < (b.nm.length : Int)) = false := by simp; omega
  by_cases h3 : a.nm = b.nm
  case pos =>
    have d3 : (a.nm == b.nm) = true := by simpa using h3
    clear h1 h2 h3
    go_enter Try.func6, Try.ntmps6
    go_wp2_with (first
      | (go_at_call 7; (with_reducible refine (fixed_any _).mono ?_); rintro e wa ⟨rfl, hba⟩; have HXa : Hid (Below w.heap.size w wa) := Lib.hid (below_step HX0.out hba); have K4a := Lib.hid (K40.out.through hba); have K5a := Lib.hid (K50.out.through hba); have K6a := Lib.hid (K60.out.through hba); have K7a := Lib.hid (K70.out.through hba); have c40 := K4a.out.cellAt (i := 0) rfl; have c50 := K5a.out.cellAt (i := 0) rfl; have c60 := K6a.out.cellAt (i := 0) rfl; have c70 := K7a.out.cellAt (i := 0) rfl; clear hba))
    go_ret
    exact ⟨rfl, HXa.out⟩
  case neg =>
  have d3 : (a.nm == b.nm) = false := by simpa using h3
  by_cases h4 : o.cl = p.cl
  case pos =>
    have d4 : (o.cl == p.cl) = true := by simpa using h4
    clear h1 h2 h3 h4
    go_enter Try.func6, Try.ntmps6
    go_wp2_with (first
      | (go_at_call 7; (with_reducible refine (fixed_any _).mono ?_); rintro e wa ⟨rfl, hba⟩; have HXa : Hid (Below w.heap.size w wa) := Lib.hid (below_step HX0.out hba); have K4a := Lib.hid (K40.out.through hba); have K5a := Lib.hid (K50.out.through hba); have K6a := Lib.hid (K60.out.through hba); have K7a := Lib.hid (K70.out.through hba); have c40 := K4a.out.cellAt (i := 0) rfl; have c50 := K5a.out.cellAt (i := 0) rfl; have c60 := K6a.out.cellAt (i := 0) rfl; have c70 := K7a.out.cellAt (i := 0) rfl; clear hba))
    go_ret
    exact ⟨rfl, HXa.out⟩
  case neg =>
  have d4 : (o.cl == p.cl) = false := by simpa using h4
  have hna := fun W : World => isname_any a.nm W (by omega)
  have hnb := fun W : World => isname_any b.nm W (by omega)
  cases h5 : isNm a.nm with
  | false =>
    rw [h5] at hna
    have HNa := Lib.hid hna
    clear h1 h2 h3 h4 h5 hna hnb
    go_enter Try.func6, Try.ntmps6
    go_wp2_with (first
      | (go_at_call 7; (with_reducible refine (fixed_any _).mono ?_); rintro e wa ⟨rfl, hba⟩; have HXa : Hid (Below w.heap.size w wa) := Lib.hid (below_step HX0.out hba); have K4a := Lib.hid (K40.out.through hba); have K5a := Lib.hid (K50.out.through hba); have K6a := Lib.hid (K60.out.through hba); have K7a := Lib.hid (K70.out.through hba); have c40 := K4a.out.cellAt (i := 0) rfl; have c50 := K5a.out.cellAt (i := 0) rfl; have c60 := K6a.out.cellAt (i := 0) rfl; have c70 := K7a.out.cellAt (i := 0) rfl; clear hba)
      | (go_at_call 18; (with_reducible refine (HNa.out _).mono ?_); rintro e wb ⟨rfl, hbb⟩; have HXb : Hid (Below w.heap.size w wb) := Lib.hid (below_step HXa.out hbb); have K4b := Lib.hid (K4a.out.through hbb); have K5b := Lib.hid (K5a.out.through hbb); have K6b := Lib.hid (K6a.out.through hbb); have K7b := Lib.hid (K7a.out.through hbb); have b50 := K5b.out.cellAt (i := 0) rfl; clear hbb))
    go_ret
    exact ⟨rfl, HXb.out⟩
  | true =>
  rw [h5] at hna
  have HNa := Lib.hid hna
  cases h6 : isNm b.nm with
  | false =>
    rw [h6] at hnb
    have HNb := Lib.hid hnb
    clear h1 h2 h3 h4 h5 h6 hna hnb
    go_enter Try.func6, Try.ntmps6
    go_wp2_with (first
      | (go_at_call 7; (with_reducible refine (fixed_any _).mono ?_); rintro e wa ⟨rfl, hba⟩; have HXa : Hid (Below w.heap.size w wa) := Lib.hid (below_step HX0.out hba); have K4a := Lib.hid (K40.out.through hba); have K5a := Lib.hid (K50.out.through hba); have K6a := Lib.hid (K60.out.through hba); have K7a := Lib.hid (K70.out.through hba); have c40 := K4a.out.cellAt (i := 0) rfl; have c50 := K5a.out.cellAt (i := 0) rfl; have c60 := K6a.out.cellAt (i := 0) rfl; have c70 := K7a.out.cellAt (i := 0) rfl; clear hba)
      | (go_at_call 18; (with_reducible refine (HNa.out _).mono ?_); rintro e wb ⟨rfl, hbb⟩; have HXb : Hid (Below w.heap.size w wb) := Lib.hid (below_step HXa.out hbb); have K4b := Lib.hid (K4a.out.through hbb); have K5b := Lib.hid (K5a.out.through hbb); have K6b := Lib.hid (K6a.out.through hbb); have K7b := Lib.hid (K7a.out.through hbb); have b50 := K5b.out.cellAt (i := 0) rfl; clear hbb)
      | (go_at_call 18; (with_reducible refine (HNb.out _).mono ?_); rintro e wc ⟨rfl, hbc⟩; have HXc : Hid (Below w.heap.size w wc) := Lib.hid (below_step HXb.out hbc); have K4c := Lib.hid (K4b.out.through hbc); have K5c := Lib.hid (K5b.out.through hbc); have K6c := Lib.hid (K6b.out.through hbc); have K7c := Lib.hid (K7b.out.through hbc); have ZC : Hid (w.heap.size + 4 ≤ wc.heap.size) := Lib.hid (by have := K7c.out.lt; omega); clear hbc))
    go_ret
    exact ⟨rfl, HXc.out⟩
  | true =>
  rw [h6] at hnb
  have HNb := Lib.hid hnb
  obtain ⟨s0, s1, hs, hwab, hwba⟩ := two_lt h5 h6 h3
  obtain ⟨q0, q1, hq, hop, hpo⟩ := two_oc h4
  have hw1 : ∀ W, Calls Try.prog 9 #[.agg #[.int .i64 0, .int .i64 0, .slice none 0 0, .slice none 0 0], .agg #[.string (ba a.nm), .int .i64 a.st, .int .i64 a.am, .int .i64 a.du, .string (ba a.po), .string (ba a.pa)]] W (fun e w' => ∃ A n c B m d, e = .returned (.tuple #[.agg #[.int .i64 0, .int .i64 0, .slice A n c, .slice B m d], .int .i64 0]) ∧ LgIn w' A n B m ⟨0, 0, [a], []⟩ ∧ n ≤ c ∧ m ≤ d ∧ Below W.heap.size W w') := fun W => by
    have h9 := with_any Lg.no a none 0 0 none 0 0 W ⟨Sl.none_, Sl.none_⟩ (by omega) (by omega) (by omega) (by omega)
    rw [with_one h5] at h9
    exact h9
  have hw3 : ∀ W, Calls Try.prog 9 #[.agg #[.int .i64 0, .int .i64 0, .slice none 0 0, .slice none 0 0], .agg #[.string (ba b.nm), .int .i64 b.st, .int .i64 b.am, .int .i64 b.du, .string (ba b.po), .string (ba b.pa)]] W (fun e w' => ∃ A n c B m d, e = .returned (.tuple #[.agg #[.int .i64 0, .int .i64 0, .slice A n c, .slice B m d], .int .i64 0]) ∧ LgIn w' A n B m ⟨0, 0, [b], []⟩ ∧ n ≤ c ∧ m ≤ d ∧ Below W.heap.size W w') := fun W => by
    have h9 := with_any Lg.no b none 0 0 none 0 0 W ⟨Sl.none_, Sl.none_⟩ (by omega) (by omega) (by omega) (by omega)
    rw [with_one h6] at h9
    exact h9
  have hw2 : ∀ (W : World) (A : Option Addr) (c : Nat) (B : Option Addr) (d : Nat), LgIn W A 1 B 0 ⟨0, 0, [a], []⟩ → 1 ≤ c → Calls Try.prog 9 #[.agg #[.int .i64 0, .int .i64 0, .slice A 1 c, .slice B 0 d], .agg #[.string (ba b.nm), .int .i64 b.st, .int .i64 b.am, .int .i64 b.du, .string (ba b.po), .string (ba b.pa)]] W (fun e w' => ∃ A n c B m d, e = .returned (.tuple #[.agg #[.int .i64 0, .int .i64 0, .slice A n c, .slice B m d], .int .i64 0]) ∧ LgIn w' A n B m ⟨0, 0, [s0, s1], []⟩ ∧ n ≤ c ∧ m ≤ d ∧ Below W.heap.size W w') := fun W A c B d hI hc => by
    have h9 := with_any ⟨0, 0, [a], []⟩ b A 1 c B 0 d W hI (by omega) (by omega) hc (by omega)
    rw [hwab] at h9
    exact h9
  have hw4 : ∀ (W : World) (A : Option Addr) (c : Nat) (B : Option Addr) (d : Nat), LgIn W A 1 B 0 ⟨0, 0, [b], []⟩ → 1 ≤ c → Calls Try.prog 9 #[.agg #[.int .i64 0, .int .i64 0, .slice A 1 c, .slice B 0 d], .agg #[.string (ba a.nm), .int .i64 a.st, .int .i64 a.am, .int .i64 a.du, .string (ba a.po), .string (ba a.pa)]] W (fun e w' => ∃ A n c B m d, e = .returned (.tuple #[.agg #[.int .i64 0, .int .i64 0, .slice A n c, .slice B m d], .int .i64 0]) ∧ LgIn w' A n B m ⟨0, 0, [s0, s1], []⟩ ∧ n ≤ c ∧ m ≤ d ∧ Below W.heap.size W w') := fun W A c B d hI hc => by
    have h9 := with_any ⟨0, 0, [b], []⟩ a A 1 c B 0 d W hI (by omega) (by omega) hc (by omega)
    rw [hwba] at h9
    exact h9
  have ht1 : ∀ (W : World) (A : Option Addr) (c : Nat) (B : Option Addr) (d : Nat), LgIn W A 2 B 0 ⟨0, 0, [s0, s1], []⟩ → 0 ≤ d → Calls Try.prog 11 #[.agg #[.int .i64 0, .int .i64 0, .slice A 2 c, .slice B 0 d], .agg #[.int .i64 o.cl, .int .i64 o.sp, .int .i64 o.rs]] W (fun e w' => ∃ A n c B m d, e = .returned (.agg #[.int .i64 0, .int .i64 0, .slice A n c, .slice B m d]) ∧ LgIn w' A n B m ⟨0, 0, [s0, s1], [o]⟩ ∧ n ≤ c ∧ m ≤ d ∧ Below W.heap.size W w') := fun W A c B d hI hd => by
    have h9 := told_any ⟨0, 0, [s0, s1], []⟩ o A 2 c B 0 d W hI (by omega) (by omega) hd
    rw [told_one] at h9
    exact h9
  have ht3 : ∀ (W : World) (A : Option Addr) (c : Nat) (B : Option Addr) (d : Nat), LgIn W A 2 B 0 ⟨0, 0, [s0, s1], []⟩ → 0 ≤ d → Calls Try.prog 11 #[.agg #[.int .i64 0, .int .i64 0, .slice A 2 c, .slice B 0 d], .agg #[.int .i64 p.cl, .int .i64 p.sp, .int .i64 p.rs]] W (fun e w' => ∃ A n c B m d, e = .returned (.agg #[.int .i64 0, .int .i64 0, .slice A n c, .slice B m d]) ∧ LgIn w' A n B m ⟨0, 0, [s0, s1], [p]⟩ ∧ n ≤ c ∧ m ≤ d ∧ Below W.heap.size W w') := fun W A c B d hI hd => by
    have h9 := told_any ⟨0, 0, [s0, s1], []⟩ p A 2 c B 0 d W hI (by omega) (by omega) hd
    rw [told_one] at h9
    exact h9
  have ht2 : ∀ (W : World) (A : Option Addr) (c : Nat) (B : Option Addr) (d : Nat), LgIn W A 2 B 1 ⟨0, 0, [s0, s1], [o]⟩ → 1 ≤ d → Calls Try.prog 11 #[.agg #[.int .i64 0, .int .i64 0, .slice A 2 c, .slice B 1 d], .agg #[.int .i64 p.cl, .int .i64 p.sp, .int .i64 p.rs]] W (fun e w' => ∃ A n c B m d, e = .returned (.agg #[.int .i64 0, .int .i64 0, .slice A n c, .slice B m d]) ∧ LgIn w' A n B m ⟨0, 0, [s0, s1], [q0, q1]⟩ ∧ n ≤ c ∧ m ≤ d ∧ Below W.heap.size W w') := fun W A c B d hI hd => by
    have h9 := told_any ⟨0, 0, [s0, s1], [o]⟩ p A 2 c B 1 d W hI (by omega) (by omega) hd
    rw [hop] at h9
    exact h9
  have ht4 : ∀ (W : World) (A : Option Addr) (c : Nat) (B : Option Addr) (d : Nat), LgIn W A 2 B 1 ⟨0, 0, [s0, s1], [p]⟩ → 1 ≤ d → Calls Try.prog 11 #[.agg #[.int .i64 0, .int .i64 0, .slice A 2 c, .slice B 1 d], .agg #[.int .i64 o.cl, .int .i64 o.sp, .int .i64 o.rs]] W (fun e w' => ∃ A n c B m d, e = .returned (.agg #[.int .i64 0, .int .i64 0, .slice A n c, .slice B m d]) ∧ LgIn w' A n B m ⟨0, 0, [s0, s1], [q0, q1]⟩ ∧ n ≤ c ∧ m ≤ d ∧ Below W.heap.size W w') := fun W A c B d hI hd => by
    have h9 := told_any ⟨0, 0, [s0, s1], [p]⟩ o A 2 c B 1 d W hI (by omega) (by omega) hd
    rw [hpo] at h9
    exact h9
  have hsm : ∀ (W : World) (A : Option Addr) (c : Nat) (B : Option Addr) (d : Nat) (A' : Option Addr) (c' : Nat) (B' : Option Addr) (d' : Nat), LgIn W A 2 B 2 ⟨0, 0, [s0, s1], [q0, q1]⟩ → LgIn W A' 2 B' 2 ⟨0, 0, [s0, s1], [q0, q1]⟩ → Calls Try.prog 23 #[.agg #[.int .i64 0, .int .i64 0, .slice A 2 c, .slice B 2 d], .agg #[.int .i64 0, .int .i64 0, .slice A' 2 c', .slice B' 2 d']] W fun e w' => e = .returned (.bool true) ∧ Below W.heap.size W w' := fun W A c B d A' c' B' d' h1 h2 => by
    have h9 := same_any _ _ A 2 c B 2 d A' 2 c' B' 2 d' W h1 h2 (by omega) (by omega) (by omega) (by omega)
    rw [Lg.same_self] at h9
    exact h9
  have HW1 := Lib.hid hw1
  have HW2 := Lib.hid hw2
  have HW3 := Lib.hid hw3
  have HW4 := Lib.hid hw4
  have HT1 := Lib.hid ht1
  have HT2 := Lib.hid ht2
  have HT3 := Lib.hid ht3
  have HT4 := Lib.hid ht4
  have HSm := Lib.hid hsm
  have hs2 : Op.bytesLess s0.nm s1.nm = true := hs
  have hq2 : decide (q0.cl < q1.cl) = true := by simpa using hq
  clear h1 h2 h3 h4 h5 h6 hna hnb hw1 hw2 hw3 hw4 ht1 ht2 ht3 ht4 hsm hs hq hwab hwba hop hpo
  go_enter Try.func6, Try.ntmps6
  go_wp2_with (first
    | (go_at_call 7; (with_reducible refine (fixed_any _).mono ?_); rintro e wa ⟨rfl, hba⟩; have HXa : Hid (Below w.heap.size w wa) := Lib.hid (below_step HX0.out hba); have K4a := Lib.hid (K40.out.through hba); have K5a := Lib.hid (K50.out.through hba); have K6a := Lib.hid (K60.out.through hba); have K7a := Lib.hid (K70.out.through hba); have c40 := K4a.out.cellAt (i := 0) rfl; have c50 := K5a.out.cellAt (i := 0) rfl; have c60 := K6a.out.cellAt (i := 0) rfl; have c70 := K7a.out.cellAt (i := 0) rfl; clear hba)
    | (go_at_call 18; (with_reducible refine (HNa.out _).mono ?_); rintro e wb ⟨rfl, hbb⟩; have HXb : Hid (Below w.heap.size w wb) := Lib.hid (below_step HXa.out hbb); have K4b := Lib.hid (K4a.out.through hbb); have K5b := Lib.hid (K5a.out.through hbb); have K6b := Lib.hid (K6a.out.through hbb); have K7b := Lib.hid (K7a.out.through hbb); have b50 := K5b.out.cellAt (i := 0) rfl; clear hbb)
    | (go_at_call 18; (with_reducible refine (HNb.out _).mono ?_); rintro e wc ⟨rfl, hbc⟩; have HXc : Hid (Below w.heap.size w wc) := Lib.hid (below_step HXb.out hbc); have K4c := Lib.hid (K4b.out.through hbc); have K5c := Lib.hid (K5b.out.through hbc); have K6c := Lib.hid (K6b.out.through hbc); have K7c := Lib.hid (K7b.out.through hbc); have ZC : Hid (w.heap.size + 4 ≤ wc.heap.size) := Lib.hid (by have := K7c.out.lt; omega); clear hbc)
    | (refine wpList_load_blk rfl 27 (.tmp 4) rfl (w.heap.size) rfl 27 [.string (ba a.nm), .int .i64 a.st, .int .i64 a.am, .int .i64 a.du, .string (ba a.po), .string (ba a.pa)] _ K4c.out Try.underlying27 rfl (by kernel_rfl) ?_)
    | (go_at_call 9; (with_reducible refine (HW1.out _).mono ?_); rintro e v1 ⟨A1, n1, c1, B1, m1, d1, rfl, hi1, hc1, hd1, hb1⟩; obtain rfl : 1 = n1 := hi1.len.1; obtain rfl : 0 = m1 := hi1.len.2; have HC1 := Lib.hid (And.intro hc1 hd1); have HXd : Hid (Below w.heap.size w (v1.alloc (.cells #[.int .i64 0, .int .i64 0, .slice A1 1 c1, .slice B1 0 d1] 25))) := Lib.hid ((below_step HXc.out hb1).alloc (below_step HXc.out hb1).size (.cells #[.int .i64 0, .int .i64 0, .slice A1 1 c1, .slice B1 0 d1] 25)); have K4d0 := Lib.hid (K4c.out.through hb1); have K5d0 := Lib.hid (K5c.out.through hb1); have K6d0 := Lib.hid (K6c.out.through hb1); have K7d0 := Lib.hid (K7c.out.through hb1); have K4d := Lib.hid (K4d0.out.alloc (.cells #[.int .i64 0, .int .i64 0, .slice A1 1 c1, .slice B1 0 d1] 25)); have K5d := Lib.hid (K5d0.out.alloc (.cells #[.int .i64 0, .int .i64 0, .slice A1 1 c1, .slice B1 0 d1] 25)); have K6d := Lib.hid (K6d0.out.alloc (.cells #[.int .i64 0, .int .i64 0, .slice A1 1 c1, .slice B1 0 d1] 25)); have K7d := Lib.hid (K7d0.out.alloc (.cells #[.int .i64 0, .int .i64 0, .slice A1 1 c1, .slice B1 0 d1] 25)); have HI1 := Lib.hid (hi1.alloc (.cells #[.int .i64 0, .int .i64 0, .slice A1 1 c1, .slice B1 0 d1] 25)); have G9d : Hid (Blk (v1.alloc (.cells #[.int .i64 0, .int .i64 0, .slice A1 1 c1, .slice B1 0 d1] 25)) v1.heap.size 25 [.int .i64 0, .int .i64 0, .slice A1 1 c1, .slice B1 0 d1]) := Lib.hid (Blk.fresh rfl rfl); have Z9 : Hid (w.heap.size + 4 ≤ v1.heap.size) := Lib.hid (Nat.le_trans ZC.out hb1.size); clear hi1 hb1 hc1 hd1)
    | (refine wpList_load_blk rfl 25 (.tmp 9) rfl (v1.heap.size) rfl 25 [.int .i64 0, .int .i64 0, .slice A1 1 c1, .slice B1 0 d1] _ G9d.out Try.underlying25 rfl (by kernel_rfl) ?_)
    | (refine wpList_load_blk rfl 27 (.tmp 5) rfl (w.heap.size + 1) rfl 27 [.string (ba b.nm), .int .i64 b.st, .int .i64 b.am, .int .i64 b.du, .string (ba b.po), .string (ba b.pa)] _ K5d.out Try.underlying27 rfl (by kernel_rfl) ?_)
    | (go_at_call 9; (with_reducible refine (HW2.out _ _ _ _ _ HI1.out HC1.out.1).mono ?_); rintro e v2 ⟨A2, n2, c2, B2, m2, d2, rfl, hi2, hc2, hd2, hb2⟩; obtain rfl : 2 = n2 := hi2.len.1; obtain rfl : 0 = m2 := hi2.len.2; have HC2 := Lib.hid (And.intro hc2 hd2); have HXe : Hid (Below w.heap.size w v2) := Lib.hid (below_step HXd.out hb2); have K4e := Lib.hid (K4d.out.through hb2); have K5e := Lib.hid (K5d.out.through hb2); have K6e := Lib.hid (K6d.out.through hb2); have K7e := Lib.hid (K7d.out.through hb2); have G9e := Lib.hid (G9d.out.through hb2); have HI2 := Lib.hid hi2; clear hi2 hb2 hc2 hd2)
    | (refine wpList_store_blk rfl 25 (.tmp 9) (.tmp 63) rfl v1.heap.size [.int .i64 0, .int .i64 0, .slice A2 2 c2, .slice B2 0 d2] rfl rfl 25 [.int .i64 0, .int .i64 0, .slice A1 1 c1, .slice B1 0 d1] G9e.out (by kernel_rfl) rfl (one4 _ _ _ _ _ _ _ _) ?_; intro wf hbf hgf; have HXf : Hid (Below w.heap.size w wf) := Lib.hid (HXe.out.grown hgf HXe.out.size (fun k hk => by have := Option.some.inj hk; have := Z9.out; omega)); have K4f := Lib.hid (K4e.out.grown hgf (fun e9 => by have := Option.some.inj e9; have := Z9.out; omega)); have K5f := Lib.hid (K5e.out.grown hgf (fun e9 => by have := Option.some.inj e9; have := Z9.out; omega)); have K6f := Lib.hid (K6e.out.grown hgf (fun e9 => by have := Option.some.inj e9; have := Z9.out; omega)); have K7f := Lib.hid (K7e.out.grown hgf (fun e9 => by have := Option.some.inj e9; have := Z9.out; omega)); have G9f := Lib.hid hbf; have HI2f := Lib.hid (HI2.out.stored G9e.out hgf); clear hbf hgf)
    | (refine wpList_load_blk rfl 27 (.tmp 5) rfl (w.heap.size + 1) rfl 27 [.string (ba b.nm), .int .i64 b.st, .int .i64 b.am, .int .i64 b.du, .string (ba b.po), .string (ba b.pa)] _ K5f.out Try.underlying27 rfl (by kernel_rfl) ?_)
    | (go_at_call 9; (with_reducible refine (HW3.out _).mono ?_); rintro e v3 ⟨A3, n3, c3, B3, m3, d3, rfl, hi3, hc3, hd3, hb3⟩; obtain rfl : 1 = n3 := hi3.len.1; obtain rfl : 0 = m3 := hi3.len.2; have HC3 := Lib.hid (And.intro hc3 hd3); have HXg : Hid (Below w.heap.size w (v3.alloc (.cells #[.int .i64 0, .int .i64 0, .slice A3 1 c3, .slice B3 0 d3] 25))) := Lib.hid ((below_step HXf.out hb3).alloc (below_step HXf.out hb3).size (.cells #[.int .i64 0, .int .i64 0, .slice A3 1 c3, .slice B3 0 d3] 25)); have K4g0 := Lib.hid (K4f.out.through hb3); have K5g0 := Lib.hid (K5f.out.through hb3); have K6g0 := Lib.hid (K6f.out.through hb3); have K7g0 := Lib.hid (K7f.out.through hb3); have K4g := Lib.hid (K4g0.out.alloc (.cells #[.int .i64 0, .int .i64 0, .slice A3 1 c3, .slice B3 0 d3] 25)); have K5g := Lib.hid (K5g0.out.alloc (.cells #[.int .i64 0, .int .i64 0, .slice A3 1 c3, .slice B3 0 d3] 25)); have K6g := Lib.hid (K6g0.out.alloc (.cells #[.int .i64 0, .int .i64 0, .slice A3 1 c3, .slice B3 0 d3] 25)); have K7g := Lib.hid (K7g0.out.alloc (.cells #[.int .i64 0, .int .i64 0, .slice A3 1 c3, .slice B3 0 d3] 25)); have HI3 := Lib.hid (hi3.alloc (.cells #[.int .i64 0, .int .i64 0, .slice A3 1 c3, .slice B3 0 d3] 25)); have HI2g := Lib.hid ((HI2f.out.through hb3).alloc (.cells #[.int .i64 0, .int .i64 0, .slice A3 1 c3, .slice B3 0 d3] 25)); have G9g := Lib.hid ((G9f.out.through hb3).alloc (.cells #[.int .i64 0, .int .i64 0, .slice A3 1 c3, .slice B3 0 d3] 25)); have G12g : Hid (Blk (v3.alloc (.cells #[.int .i64 0, .int .i64 0, .slice A3 1 c3, .slice B3 0 d3] 25)) v3.heap.size 25 [.int .i64 0, .int .i64 0, .slice A3 1 c3, .slice B3 0 d3]) := Lib.hid (Blk.fresh rfl rfl); have Z12 : Hid (v1.heap.size + 1 ≤ v3.heap.size) := Lib.hid (by have := G9f.out.lt; have := hb3.size; omega); clear hi3 hb3 hc3 hd3)
    | (refine wpList_load_blk rfl 25 (.tmp 12) rfl (v3.heap.size) rfl 25 [.int .i64 0, .int .i64 0, .slice A3 1 c3, .slice B3 0 d3] _ G12g.out Try.underlying25 rfl (by kernel_rfl) ?_)
    | (refine wpList_load_blk rfl 27 (.tmp 4) rfl (w.heap.size) rfl 27 [.string (ba a.nm), .int .i64 a.st, .int .i64 a.am, .int .i64 a.du, .string (ba a.po), .string (ba a.pa)] _ K4g.out Try.underlying27 rfl (by kernel_rfl) ?_)
    | (go_at_call 9; (with_reducible refine (HW4.out _ _ _ _ _ HI3.out HC3.out.1).mono ?_); rintro e v4 ⟨A4, n4, c4, B4, m4, d4, rfl, hi4, hc4, hd4, hb4⟩; obtain rfl : 2 = n4 := hi4.len.1; obtain rfl : 0 = m4 := hi4.len.2; have HC4 := Lib.hid (And.intro hc4 hd4); have HXh : Hid (Below w.heap.size w v4) := Lib.hid (below_step HXg.out hb4); have K4h := Lib.hid (K4g.out.through hb4); have K5h := Lib.hid (K5g.out.through hb4); have K6h := Lib.hid (K6g.out.through hb4); have K7h := Lib.hid (K7g.out.through hb4); have G9h := Lib.hid (G9g.out.through hb4); have G12h := Lib.hid (G12g.out.through hb4); have HI2h := Lib.hid (HI2g.out.through hb4); have HI4 := Lib.hid hi4; clear hi4 hb4 hc4 hd4)
    | (refine wpList_store_blk rfl 25 (.tmp 12) (.tmp 75) rfl v3.heap.size [.int .i64 0, .int .i64 0, .slice A4 2 c4, .slice B4 0 d4] rfl rfl 25 [.int .i64 0, .int .i64 0, .slice A3 1 c3, .slice B3 0 d3] G12h.out (by kernel_rfl) rfl (one4 _ _ _ _ _ _ _ _) ?_; intro wi hbi hgi; have Z12b : Hid (w.heap.size + 4 ≤ v3.heap.size) := Lib.hid (by have := Z12.out; have := Z9.out; omega); have HXi : Hid (Below w.heap.size w wi) := Lib.hid (HXh.out.grown hgi HXh.out.size (fun k hk => by have := Option.some.inj hk; have := Z12b.out; omega)); have K4i := Lib.hid (K4h.out.grown hgi (fun e9 => by have := Option.some.inj e9; have := Z12b.out; omega)); have K5i := Lib.hid (K5h.out.grown hgi (fun e9 => by have := Option.some.inj e9; have := Z12b.out; omega)); have K6i := Lib.hid (K6h.out.grown hgi (fun e9 => by have := Option.some.inj e9; have := Z12b.out; omega)); have K7i := Lib.hid (K7h.out.grown hgi (fun e9 => by have := Option.some.inj e9; have := Z12b.out; omega)); have G9i := Lib.hid (G9h.out.grown hgi (fun e9 => by have := Option.some.inj e9; have := Z12.out; omega)); have G12i := Lib.hid hbi; have HI4i := Lib.hid (HI4.out.stored G12h.out hgi); have HI2i := Lib.hid (HI2h.out.stored G12h.out hgi); clear hbi hgi))
  try dsimp only [Act.put]
  have G9j := Lib.hid G9i.out.drew; have G12j := Lib.hid G12i.out.drew
  have HI2j : Hid (LgIn wi.drew A2 2 B2 0 ⟨0, 0, [s0, s1], []⟩) := HI2i
  have HI4j : Hid (LgIn wi.drew A4 2 B4 0 ⟨0, 0, [s0, s1], []⟩) := HI4i
  refine wp_region_held_drew (S := fun W => Below w.heap.size w W ∧ Blk W (w.heap.size + 2) 30 [.int .i64 o.cl, .int .i64 o.sp, .int .i64 o.rs] ∧ Blk W (w.heap.size + 3) 30 [.int .i64 p.cl, .int .i64 p.sp, .int .i64 p.rs]) (by kernel_rfl) ⟨HXi.out.drew, K6i.out.drew, K7i.out.drew⟩ (fun hHeld => ?_)
  change wpAnyH _ _ _ _ _ _ #[false, false, false, false, false, false, false, false, false, false, false, false] _ _
  refine wpAnyH_take (i := 1) (v := (.agg #[.int .i64 o.cl, .int .i64 o.sp, .int .i64 o.rs])) rfl (by kernel_rfl) (by kernel_rfl) (by kernel_rfl) (fun _ _ _ h => h) (yields_load_at (by kernel_rfl) 30 (.tmp 6) rfl (.pointer (some ⟨w.heap.size + 2, 0, none⟩)) rfl (.agg #[.int .i64 o.cl, .int .i64 o.sp, .int .i64 o.rs]) (fun W hW => (hW.2.1).loadAt 30 _ Try.underlying30 rfl (by kernel_rfl))) (by assumption) ?_
  change wpAnyH _ _ _ _ _ _ _ (Act.put _ (some (78 : Nat)) (.agg #[.int .i64 o.cl, .int .i64 o.sp, .int .i64 o.rs])) _
  simp only [Act.put, List.setIfInBounds_toArray, List.set_cons_zero, List.set_cons_succ]
  refine wpAnyH_take (i := 3) (v := (.agg #[.int .i64 p.cl, .int .i64 p.sp, .int .i64 p.rs])) rfl (by kernel_rfl) (by kernel_rfl) (by kernel_rfl) (fun _ _ _ h => h) (yields_load_at (by kernel_rfl) 30 (.tmp 7) rfl (.pointer (some ⟨w.heap.size + 3, 0, none⟩)) rfl (.agg #[.int .i64 p.cl, .int .i64 p.sp, .int .i64 p.rs]) (fun W hW => (hW.2.2).loadAt 30 _ Try.underlying30 rfl (by kernel_rfl))) (by assumption) ?_
  change wpAnyH _ _ _ _ _ _ _ (Act.put _ (some (80 : Nat)) (.agg #[.int .i64 p.cl, .int .i64 p.sp, .int .i64 p.rs])) _
  simp only [Act.put, List.setIfInBounds_toArray, List.set_cons_zero, List.set_cons_succ]
  refine wpAnyH_take (i := 6) (v := (.agg #[.int .i64 p.cl, .int .i64 p.sp, .int .i64 p.rs])) rfl (by kernel_rfl) (by kernel_rfl) (by kernel_rfl) (fun _ _ _ h => h) (yields_load_at (by kernel_rfl) 30 (.tmp 7) rfl (.pointer (some ⟨w.heap.size + 3, 0, none⟩)) rfl (.agg #[.int .i64 p.cl, .int .i64 p.sp, .int .i64 p.rs]) (fun W hW => (hW.2.2).loadAt 30 _ Try.underlying30 rfl (by kernel_rfl))) (by assumption) ?_
  change wpAnyH _ _ _ _ _ _ _ (Act.put _ (some (83 : Nat)) (.agg #[.int .i64 p.cl, .int .i64 p.sp, .int .i64 p.rs])) _
  simp only [Act.put, List.setIfInBounds_toArray, List.set_cons_zero, List.set_cons_succ]
  refine wpAnyH_take (i := 8) (v := (.agg #[.int .i64 o.cl, .int .i64 o.sp, .int .i64 o.rs])) rfl (by kernel_rfl) (by kernel_rfl) (by kernel_rfl) (fun _ _ _ h => h) (yields_load_at (by kernel_rfl) 30 (.tmp 6) rfl (.pointer (some ⟨w.heap.size + 2, 0, none⟩)) rfl (.agg #[.int .i64 o.cl, .int .i64 o.sp, .int .i64 o.rs]) (fun W hW => (hW.2.1).loadAt 30 _ Try.underlying30 rfl (by kernel_rfl))) (by assumption) ?_
  change wpAnyH _ _ _ _ _ _ _ (Act.put _ (some (85 : Nat)) (.agg #[.int .i64 o.cl, .int .i64 o.sp, .int .i64 o.rs])) _
  simp only [Act.put, List.setIfInBounds_toArray, List.set_cons_zero, List.set_cons_succ]
  refine wpAnyH_ready (rs := [0, 5]) (by kernel_rfl) (by simp) ?_
  refine AllReadyH.cons (o := ⟨some 77, .load 25 (.tmp 9), _, _, _, none⟩) rfl (fun K hK => ?_) (AllReadyH.cons (o := ⟨some 82, .load 25 (.tmp 12), _, _, _, none⟩) rfl (fun K hK => ?_) AllReadyH.nil)
  · as_aux_lemma =>
    refine step_load_at rfl 25 (.tmp 9) rfl (.pointer (some ⟨v1.heap.size, 0, none⟩)) rfl (.agg #[.int .i64 0, .int .i64 0, .slice A2 2 c2, .slice B2 0 d2]) (G9j.out.loadAt 25 _ Try.underlying25 rfl (by kernel_rfl)) ?_
    refine hK.out _ _ hHeld (fun hHeld1 => ?_)
    clear hHeld hK K
    have hHeld := hHeld1
    clear hHeld1
    change wpAnyH _ _ _ _ _ _ _ (Act.put _ (some (77 : Nat)) (.agg #[.int .i64 0, .int .i64 0, .slice A2 2 c2, .slice B2 0 d2])) _
    simp only [Act.put, List.setIfInBounds_toArray, List.set_cons_zero, List.set_cons_succ]
    refine wpAnyH_ready (rs := [2, 5]) (by kernel_rfl) (by simp) ?_
    refine AllReadyH.cons rfl (fun K hK => ?_) (AllReadyH.cons (o := ⟨some 82, .load 25 (.tmp 12), _, _, _, none⟩) rfl (fun K hK => ?_) AllReadyH.nil)
    · as_aux_lemma =>
      go_simp
      refine ((HT1.out _ _ _ _ _ HI2j.out HC2.out.2)).mono ?_
      rintro e v5 ⟨A5, n5, c5, B5, m5, d5, rfl, hi5, hc5, hd5, hb5⟩; obtain rfl : 2 = n5 := hi5.len.1; obtain rfl : 1 = m5 := hi5.len.2; have HC5 := Lib.hid (And.intro hc5 hd5); have HKp := Lib.hid hb5; have G9p := Lib.hid (G9j.out.through hb5); have G12p := Lib.hid (G12j.out.through hb5); have HI4p := Lib.hid (HI4j.out.through hb5); have HI5p := Lib.hid hi5; clear hi5 hb5 hc5 hd5
      go_wp2_with fail
      refine hK.out _ _ ⟨below_step hHeld.1 HKp.out, hHeld.2.1.through HKp.out, hHeld.2.2.through HKp.out⟩ (fun hHeld1 => ?_)
      clear hHeld hK K
      have hHeld := hHeld1
      clear hHeld1
      refine wpAnyH_ready (rs := [4, 5]) (by kernel_rfl) (by simp) ?_
      refine AllReadyH.cons rfl (fun K hK => ?_) (AllReadyH.cons (o := ⟨some 82, .load 25 (.tmp 12), _, _, _, none⟩) rfl (fun K hK => ?_) AllReadyH.nil)
      · as_aux_lemma =>
        go_simp
        refine ((HT2.out _ _ _ _ _ HI5p.out HC5.out.2)).mono ?_
        rintro e v6 ⟨A6, n6, c6, B6, m6, d6, rfl, hi6, hc6, hd6, hb6⟩; obtain rfl : 2 = n6 := hi6.len.1; obtain rfl : 2 = m6 := hi6.len.2; have HC6 := Lib.hid (And.intro hc6 hd6); have HKq := Lib.hid hb6; have G9q := Lib.hid (G9p.out.through hb6); have G12q := Lib.hid (G12p.out.through hb6); have HI4q := Lib.hid (HI4p.out.through hb6); have HI6q := Lib.hid hi6; clear hi6 hb6 hc6 hd6
        go_wp2_with fail
        refine hK.out _ _ ⟨below_step hHeld.1 HKq.out, hHeld.2.1.through HKq.out, hHeld.2.2.through HKq.out⟩ (fun hHeld1 => ?_)
        clear hHeld hK K
        have hHeld := hHeld1
        clear hHeld1
        refine wpAnyH_ready (rs := [5]) (by kernel_rfl) (by simp) ?_
        refine AllReadyH.cons (o := ⟨some 82, .load 25 (.tmp 12), _, _, _, none⟩) rfl (fun K hK => ?_) AllReadyH.nil
        refine step_load_at rfl 25 (.tmp 12) rfl (.pointer (some ⟨v3.heap.size, 0, none⟩)) rfl (.agg #[.int .i64 0, .int .i64 0, .slice A4 2 c4, .slice B4 0 d4]) (G12q.out.loadAt 25 _ Try.underlying25 rfl (by kernel_rfl)) ?_
        refine hK.out _ _ hHeld (fun hHeld1 => ?_)
        clear hHeld hK K
        have hHeld := hHeld1
        clear hHeld1
        change wpAnyH _ _ _ _ _ _ _ (Act.put _ (some (82 : Nat)) (.agg #[.int .i64 0, .int .i64 0, .slice A4 2 c4, .slice B4 0 d4])) _
        simp only [Act.put, List.setIfInBounds_toArray, List.set_cons_zero, List.set_cons_succ]
        refine wpAnyH_ready (rs := [7]) (by kernel_rfl) (by simp) ?_
        refine AllReadyH.cons rfl (fun K hK => ?_) AllReadyH.nil
        go_simp
        refine ((HT3.out _ _ _ _ _ HI4q.out HC4.out.2)).mono ?_
        rintro e v7 ⟨A7, n7, c7, B7, m7, d7, rfl, hi7, hc7, hd7, hb7⟩; obtain rfl : 2 = n7 := hi7.len.1; obtain rfl : 1 = m7 := hi7.len.2; have HC7 := Lib.hid (And.intro hc7 hd7); have HKr := Lib.hid hb7; have G9r := Lib.hid (G9q.out.through hb7); have G12r := Lib.hid (G12q.out.through hb7); have HI6r := Lib.hid (HI6q.out.through hb7); have HI7r := Lib.hid hi7; clear hi7 hb7 hc7 hd7
        go_wp2_with fail
        refine hK.out _ _ ⟨below_step hHeld.1 HKr.out, hHeld.2.1.through HKr.out, hHeld.2.2.through HKr.out⟩ (fun hHeld1 => ?_)
        clear hHeld hK K
        have hHeld := hHeld1
        clear hHeld1
        refine wpAnyH_ready (rs := [9]) (by kernel_rfl) (by simp) ?_
        refine AllReadyH.cons rfl (fun K hK => ?_) AllReadyH.nil
        go_simp
        refine ((HT4.out _ _ _ _ _ HI7r.out HC7.out.2)).mono ?_
        rintro e v8 ⟨A8, n8, c8, B8, m8, d8, rfl, hi8, hc8, hd8, hb8⟩; obtain rfl : 2 = n8 := hi8.len.1; obtain rfl : 2 = m8 := hi8.len.2; have HC8 := Lib.hid (And.intro hc8 hd8); have HKs := Lib.hid hb8; have G9s := Lib.hid (G9r.out.through hb8); have G12s := Lib.hid (G12r.out.through hb8); have HI6s := Lib.hid (HI6r.out.through hb8); have HI8s := Lib.hid hi8; clear hi8 hb8 hc8 hd8
        go_wp2_with fail
        refine hK.out _ _ ⟨below_step hHeld.1 HKs.out, hHeld.2.1.through HKs.out, hHeld.2.2.through HKs.out⟩ (fun hHeld1 => ?_)
        clear hHeld hK K
        have hHeld := hHeld1
        clear hHeld1
        refine wpAnyH_ready (rs := [10]) (by kernel_rfl) (by simp) ?_
        refine AllReadyH.cons (o := ⟨none, .store 25 (.tmp 9) (.tmp 81), _, _, _, none⟩) rfl (fun K hK => ?_) AllReadyH.nil
        refine step_store_blk rfl 25 (.tmp 9) (.tmp 81) rfl v1.heap.size [.int .i64 0, .int .i64 0, .slice A6 2 c6, .slice B6 2 d6] rfl rfl 25 [.int .i64 0, .int .i64 0, .slice A2 2 c2, .slice B2 0 d2] G9s.out (by kernel_rfl) rfl (one4 _ _ _ _ _ _ _ _) ?_; intro wt hbt hgt; have G9t := Lib.hid hbt; have HGt := Lib.hid hgt; have G12t := Lib.hid (G12s.out.grown hgt (fun e9 => by have := Option.some.inj e9; have := Z12.out; omega)); have HI6t := Lib.hid (HI6s.out.stored G9s.out hgt); have HI8t := Lib.hid (HI8s.out.stored G9s.out hgt); clear hbt hgt
        refine hK.out _ _ ⟨hHeld.1.grown HGt.out hHeld.1.size (fun k hk => by have := Option.some.inj hk; have := Z9.out; omega), hHeld.2.1.grown HGt.out (fun e9 => by have := Option.some.inj e9; have := Z9.out; omega), hHeld.2.2.grown HGt.out (fun e9 => by have := Option.some.inj e9; have := Z9.out; omega)⟩ (fun hHeld1 => ?_)
        clear hHeld hK K
        have hHeld := hHeld1
        clear hHeld1
        change wpAnyH _ _ _ _ _ _ _ (Act.put _ none undef) _
        simp only [Act.put]
        refine wpAnyH_ready (rs := [11]) (by kernel_rfl) (by simp) ?_
        refine AllReadyH.cons (o := ⟨none, .store 25 (.tmp 12) (.tmp 86), _, _, _, none⟩) rfl (fun K hK => ?_) AllReadyH.nil
        refine step_store_blk rfl 25 (.tmp 12) (.tmp 86) rfl v3.heap.size [.int .i64 0, .int .i64 0, .slice A8 2 c8, .slice B8 2 d8] rfl rfl 25 [.int .i64 0, .int .i64 0, .slice A4 2 c4, .slice B4 0 d4] G12t.out (by kernel_rfl) rfl (one4 _ _ _ _ _ _ _ _) ?_; intro wu hbu hgu; have G12u := Lib.hid hbu; have HGu := Lib.hid hgu; have G9u := Lib.hid (G9t.out.grown hgu (fun e9 => by have := Option.some.inj e9; have := Z12.out; omega)); have HI6u := Lib.hid (HI6t.out.stored G12t.out hgu); have HI8u := Lib.hid (HI8t.out.stored G12t.out hgu); clear hbu hgu
        refine hK.out _ _ ⟨hHeld.1.grown HGu.out hHeld.1.size (fun k hk => by have := Option.some.inj hk; have := Z12b.out; omega), hHeld.2.1.grown HGu.out (fun e9 => by have := Option.some.inj e9; have := Z12b.out; omega), hHeld.2.2.grown HGu.out (fun e9 => by have := Option.some.inj e9; have := Z12b.out; omega)⟩ (fun hHeld1 => ?_)
        clear hHeld hK K
        have hHeld := hHeld1
        clear hHeld1
        change wpAnyH _ _ _ _ _ _ _ (Act.put _ none undef) _
        simp only [Act.put]
        refine wpAnyH_done (by kernel_rfl) ?_ _
        have HXu := Lib.hid hHeld.1
        clear hHeld
        go_wp2
        try dsimp only [Act.put]
        obtain ⟨g, o1, x0, hA, hx0, _, _, hr0⟩ := HI6u.out.lt_at (i := 0) (by omega)
        obtain ⟨g1, o2, x1, hA1, hx1, _, _, hr1⟩ := HI6u.out.lt_at (i := 1) (by omega)
        subst hA
        obtain ⟨rfl, rfl⟩ : g = g1 ∧ o1 = o2 := by simpa using hA1
        obtain rfl : s0 = x0 := Option.some.inj hx0
        obtain rfl : s1 = x1 := Option.some.inj hx1
        obtain ⟨h_, p1, y0, hB, hy0, _, _, hq0⟩ := HI6u.out.oc_at (i := 0) (by omega)
        obtain ⟨h1_, p2, y1, hB1, hy1, _, _, hq1⟩ := HI6u.out.oc_at (i := 1) (by omega)
        subst hB
        obtain ⟨rfl, rfl⟩ : h_ = h1_ ∧ p1 = p2 := by simpa using hB1
        obtain rfl : q0 = y0 := Option.some.inj hy0
        obtain rfl : q1 = y1 := Option.some.inj hy1
        have HR0 : Hid (wu.cell? ⟨g, o1, none⟩ = some (.string (ba s0.nm))) := Lib.hid (by have h9 := hr0 0 _ rfl; simpa using h9)
        have HR1 : Hid (wu.cell? ⟨g, o1 + 6, none⟩ = some (.string (ba s1.nm))) := Lib.hid (by have h9 := hr1 0 _ rfl; simpa using h9)
        have HQ0 : Hid (wu.cell? ⟨h_, p1, none⟩ = some (.int .i64 q0.cl)) := Lib.hid (by have h9 := hq0 0 _ rfl; simpa using h9)
        have HQ1 : Hid (wu.cell? ⟨h_, p1 + 3, none⟩ = some (.int .i64 q1.cl)) := Lib.hid (by have h9 := hq1 0 _ rfl; simpa using h9)
        have hi0 := fun W : World => Try.ix_lt W g o1 2 c6 0 (by omega)
        have hi1 := fun W : World => Try.ix_lt W g o1 2 c6 1 (by omega)
        have hj0 := fun W : World => Try.ix_oc W h_ p1 2 d6 0 (by omega)
        have hj1 := fun W : World => Try.ix_oc W h_ p1 2 d6 1 (by omega)
        simp only [Nat.zero_mul, Nat.one_mul, Nat.add_zero, Int.cast_ofNat_Int] at hi0 hi1 hj0 hj1
        clear hr0 hr1 hq0 hq1 hx0 hx1 hy0 hy1 hA1 hB1
        refine wp_region_held_drew (S := fun W => Below wu.heap.size wu W) (by kernel_rfl) (Below.refl _ _).drew (fun hHeld => ?_)
        change wpAnyH _ _ _ _ _ _ #[false, false, false, false, false, false, false, false, false, false, false, false, false, false, false, false, false, false, false, false, false, false, false, false, false, false, false, false, false, false, false, false, false, false, false, false, false, false, false, false, false, false, false, false, false, false, false, false, false, false, false, false, false, false, false, false, false, false] _ _
        refine wpAnyH_take (i := 0) (v := (.int .i64 0)) rfl (by kernel_rfl) (by kernel_rfl) (by kernel_rfl) (fun _ _ _ h => h) (Or.inl ⟨by kernel_rfl, fun w hSw => ?_⟩) (by assumption) ?_
        · (try dsimp only at hSw); go_simp <;> (try rfl)
        change wpAnyH _ _ _ _ _ _ _ (Act.put _ (some (87 : Nat)) (.int .i64 0)) _
        simp only [Act.put, List.setIfInBounds_toArray, List.set_cons_zero, List.set_cons_succ]
        refine wpAnyH_take (i := 1) (v := (.bool true)) rfl (by kernel_rfl) (by kernel_rfl) (by kernel_rfl) (fun _ _ _ h => h) (Or.inl ⟨by kernel_rfl, fun w hSw => ?_⟩) (by assumption) ?_
        · (try dsimp only at hSw); go_simp <;> (try rfl)
        change wpAnyH _ _ _ _ _ _ _ (Act.put _ (some (88 : Nat)) (.bool true)) _
        simp only [Act.put, List.setIfInBounds_toArray, List.set_cons_zero, List.set_cons_succ]
        refine wpAnyH_take (i := 2) (v := (.bool true)) rfl (by kernel_rfl) (by kernel_rfl) (by kernel_rfl) (fun _ _ _ h => h) (Or.inl ⟨by kernel_rfl, fun w hSw => ?_⟩) (by assumption) ?_
        · (try dsimp only at hSw); go_simp <;> (try rfl)
        change wpAnyH _ _ _ _ _ _ _ (Act.put _ (some (89 : Nat)) (.bool true)) _
        simp only [Act.put, List.setIfInBounds_toArray, List.set_cons_zero, List.set_cons_succ]
        refine wpAnyH_take (i := 3) (v := (.int .i64 0)) rfl (by kernel_rfl) (by kernel_rfl) (by kernel_rfl) (fun _ _ _ h => h) (Or.inl ⟨by kernel_rfl, fun w hSw => ?_⟩) (by assumption) ?_
        · (try dsimp only at hSw); go_simp <;> (try rfl)
        change wpAnyH _ _ _ _ _ _ _ (Act.put _ (some (90 : Nat)) (.int .i64 0)) _
        simp only [Act.put, List.setIfInBounds_toArray, List.set_cons_zero, List.set_cons_succ]
        refine wpAnyH_take (i := 4) (v := (.bool true)) rfl (by kernel_rfl) (by kernel_rfl) (by kernel_rfl) (fun _ _ _ h => h) (Or.inl ⟨by kernel_rfl, fun w hSw => ?_⟩) (by assumption) ?_
        · (try dsimp only at hSw); go_simp <;> (try rfl)
        change wpAnyH _ _ _ _ _ _ _ (Act.put _ (some (91 : Nat)) (.bool true)) _
        simp only [Act.put, List.setIfInBounds_toArray, List.set_cons_zero, List.set_cons_succ]
        refine wpAnyH_take (i := 5) (v := (.bool true)) rfl (by kernel_rfl) (by kernel_rfl) (by kernel_rfl) (fun _ _ _ h => h) (Or.inl ⟨by kernel_rfl, fun w hSw => ?_⟩) (by assumption) ?_
        · (try dsimp only at hSw); go_simp <;> (try rfl)
        change wpAnyH _ _ _ _ _ _ _ (Act.put _ (some (92 : Nat)) (.bool true)) _
        simp only [Act.put, List.setIfInBounds_toArray, List.set_cons_zero, List.set_cons_succ]
        refine wpAnyH_take (i := 6) (v := (.bool true)) rfl (by kernel_rfl) (by kernel_rfl) (by kernel_rfl) (fun _ _ _ h => h) (Or.inl ⟨by kernel_rfl, fun w hSw => ?_⟩) (by assumption) ?_
        · (try dsimp only at hSw); go_simp <;> (try rfl)
        change wpAnyH _ _ _ _ _ _ _ (Act.put _ (some (93 : Nat)) (.bool true)) _
        simp only [Act.put, List.setIfInBounds_toArray, List.set_cons_zero, List.set_cons_succ]
        refine wpAnyH_take (i := 7) (v := (.int .i64 0)) rfl (by kernel_rfl) (by kernel_rfl) (by kernel_rfl) (fun _ _ _ h => h) (Or.inl ⟨by kernel_rfl, fun w hSw => ?_⟩) (by assumption) ?_
        · (try dsimp only at hSw); go_simp <;> (try rfl)
        change wpAnyH _ _ _ _ _ _ _ (Act.put _ (some (94 : Nat)) (.int .i64 0)) _
        simp only [Act.put, List.setIfInBounds_toArray, List.set_cons_zero, List.set_cons_succ]
        refine wpAnyH_take (i := 8) (v := (.bool true)) rfl (by kernel_rfl) (by kernel_rfl) (by kernel_rfl) (fun _ _ _ h => h) (Or.inl ⟨by kernel_rfl, fun w hSw => ?_⟩) (by assumption) ?_
        · (try dsimp only at hSw); go_simp <;> (try rfl)
        change wpAnyH _ _ _ _ _ _ _ (Act.put _ (some (95 : Nat)) (.bool true)) _
        simp only [Act.put, List.setIfInBounds_toArray, List.set_cons_zero, List.set_cons_succ]
        refine wpAnyH_take (i := 9) (v := (.bool true)) rfl (by kernel_rfl) (by kernel_rfl) (by kernel_rfl) (fun _ _ _ h => h) (Or.inl ⟨by kernel_rfl, fun w hSw => ?_⟩) (by assumption) ?_
        · (try dsimp only at hSw); go_simp <;> (try rfl)
        change wpAnyH _ _ _ _ _ _ _ (Act.put _ (some (96 : Nat)) (.bool true)) _
        simp only [Act.put, List.setIfInBounds_toArray, List.set_cons_zero, List.set_cons_succ]
        refine wpAnyH_take (i := 10) (v := (.bool true)) rfl (by kernel_rfl) (by kernel_rfl) (by kernel_rfl) (fun _ _ _ h => h) (Or.inl ⟨by kernel_rfl, fun w hSw => ?_⟩) (by assumption) ?_
        · (try dsimp only at hSw); go_simp <;> (try rfl)
        change wpAnyH _ _ _ _ _ _ _ (Act.put _ (some (97 : Nat)) (.bool true)) _
        simp only [Act.put, List.setIfInBounds_toArray, List.set_cons_zero, List.set_cons_succ]
        refine wpAnyH_take (i := 11) (v := (.int .i64 0)) rfl (by kernel_rfl) (by kernel_rfl) (by kernel_rfl) (fun _ _ _ h => h) (Or.inl ⟨by kernel_rfl, fun w hSw => ?_⟩) (by assumption) ?_
        · (try dsimp only at hSw); go_simp <;> (try rfl)
        change wpAnyH _ _ _ _ _ _ _ (Act.put _ (some (98 : Nat)) (.int .i64 0)) _
        simp only [Act.put, List.setIfInBounds_toArray, List.set_cons_zero, List.set_cons_succ]
        refine wpAnyH_take (i := 12) (v := (.bool true)) rfl (by kernel_rfl) (by kernel_rfl) (by kernel_rfl) (fun _ _ _ h => h) (Or.inl ⟨by kernel_rfl, fun w hSw => ?_⟩) (by assumption) ?_
        · (try dsimp only at hSw); go_simp <;> (try rfl)
        change wpAnyH _ _ _ _ _ _ _ (Act.put _ (some (99 : Nat)) (.bool true)) _
        simp only [Act.put, List.setIfInBounds_toArray, List.set_cons_zero, List.set_cons_succ]
        refine wpAnyH_take (i := 13) (v := (.bool true)) rfl (by kernel_rfl) (by kernel_rfl) (by kernel_rfl) (fun _ _ _ h => h) (Or.inl ⟨by kernel_rfl, fun w hSw => ?_⟩) (by assumption) ?_
        · (try dsimp only at hSw); go_simp <;> (try rfl)
        change wpAnyH _ _ _ _ _ _ _ (Act.put _ (some (100 : Nat)) (.bool true)) _
        simp only [Act.put, List.setIfInBounds_toArray, List.set_cons_zero, List.set_cons_succ]
        refine wpAnyH_take (i := 14) (v := (.bool true)) rfl (by kernel_rfl) (by kernel_rfl) (by kernel_rfl) (fun _ _ _ h => h) (Or.inl ⟨by kernel_rfl, fun w hSw => ?_⟩) (by assumption) ?_
        · (try dsimp only at hSw); go_simp <;> (try rfl)
        change wpAnyH _ _ _ _ _ _ _ (Act.put _ (some (101 : Nat)) (.bool true)) _
        simp only [Act.put, List.setIfInBounds_toArray, List.set_cons_zero, List.set_cons_succ]
        refine wpAnyH_take (i := 15) (v := (.agg #[.int .i64 0, .int .i64 0, .slice (some ⟨g, o1, none⟩) 2 c6, .slice (some ⟨h_, p1, none⟩) 2 d6])) rfl (by kernel_rfl) (by kernel_rfl) (by kernel_rfl) (fun _ _ _ h => h) (yields_load_at (by kernel_rfl) 25 (.tmp 9) rfl (.pointer (some ⟨v1.heap.size, 0, none⟩)) rfl (.agg #[.int .i64 0, .int .i64 0, .slice (some ⟨g, o1, none⟩) 2 c6, .slice (some ⟨h_, p1, none⟩) 2 d6]) (fun W hW => (G9u.out.through hW).loadAt 25 _ Try.underlying25 rfl (by kernel_rfl))) (by assumption) ?_
        change wpAnyH _ _ _ _ _ _ _ (Act.put _ (some (102 : Nat)) (.agg #[.int .i64 0, .int .i64 0, .slice (some ⟨g, o1, none⟩) 2 c6, .slice (some ⟨h_, p1, none⟩) 2 d6])) _
        simp only [Act.put, List.setIfInBounds_toArray, List.set_cons_zero, List.set_cons_succ]
        refine wpAnyH_take (i := 16) (v := (.agg #[.int .i64 0, .int .i64 0, .slice A8 2 c8, .slice B8 2 d8])) rfl (by kernel_rfl) (by kernel_rfl) (by kernel_rfl) (fun _ _ _ h => h) (yields_load_at (by kernel_rfl) 25 (.tmp 12) rfl (.pointer (some ⟨v3.heap.size, 0, none⟩)) rfl (.agg #[.int .i64 0, .int .i64 0, .slice A8 2 c8, .slice B8 2 d8]) (fun W hW => (G12u.out.through hW).loadAt 25 _ Try.underlying25 rfl (by kernel_rfl))) (by assumption) ?_
        change wpAnyH _ _ _ _ _ _ _ (Act.put _ (some (103 : Nat)) (.agg #[.int .i64 0, .int .i64 0, .slice A8 2 c8, .slice B8 2 d8])) _
        simp only [Act.put, List.setIfInBounds_toArray, List.set_cons_zero, List.set_cons_succ]
        refine wpAnyH_ready (rs := [17]) (by kernel_rfl) (by simp) ?_
        refine AllReadyH.cons rfl (fun K hK => ?_) AllReadyH.nil
        go_simp
        refine ((HSm.out _ _ _ _ _ _ _ _ _ (HI6u.out.through hHeld) (HI8u.out.through hHeld))).mono ?_
        rintro e wx ⟨rfl, hbx⟩; have HKx := Lib.hid hbx; clear hbx
        go_wp2_with fail
        refine hK.out _ _ (below_step hHeld HKx.out) (fun hHeld1 => ?_)
        clear hHeld hK K
        have hHeld := hHeld1
        clear hHeld1
        refine wpAnyH_take (i := 18) (v := (.bool true)) rfl (by kernel_rfl) (by kernel_rfl) (by kernel_rfl) (fun _ _ _ h => h) (Or.inl ⟨by kernel_rfl, fun w hSw => ?_⟩) (by assumption) ?_
        · (try dsimp only at hSw); go_simp <;> (try rfl)
        change wpAnyH _ _ _ _ _ _ _ (Act.put _ (some (105 : Nat)) (.bool true)) _
        simp only [Act.put, List.setIfInBounds_toArray, List.set_cons_zero, List.set_cons_succ]
        refine wpAnyH_take (i := 19) (v := (.bool true)) rfl (by kernel_rfl) (by kernel_rfl) (by kernel_rfl) (fun _ _ _ h => h) (Or.inl ⟨by kernel_rfl, fun w hSw => ?_⟩) (by assumption) ?_
        · (try dsimp only at hSw); go_simp <;> (try rfl)
        change wpAnyH _ _ _ _ _ _ _ (Act.put _ (some (106 : Nat)) (.bool true)) _
        simp only [Act.put, List.setIfInBounds_toArray, List.set_cons_zero, List.set_cons_succ]
        refine wpAnyH_take (i := 20) (v := (.pointer (some ⟨v1.heap.size, 2, none⟩))) rfl (by kernel_rfl) (by kernel_rfl) (by kernel_rfl) (fun _ _ _ h => h) (Or.inl ⟨by kernel_rfl, fun w hSw => ?_⟩) (by assumption) ?_
        · (try dsimp only at hSw); go_simp <;> (try rfl)
        change wpAnyH _ _ _ _ _ _ _ (Act.put _ (some (107 : Nat)) (.pointer (some ⟨v1.heap.size, 2, none⟩))) _
        simp only [Act.put, List.setIfInBounds_toArray, List.set_cons_zero, List.set_cons_succ]
        refine wpAnyH_take (i := 21) (v := (.slice (some ⟨g, o1, none⟩) 2 c6)) rfl (by kernel_rfl) (by kernel_rfl) (by kernel_rfl) (fun _ _ _ h => h) (yields_load_at (by kernel_rfl) 22 (.tmp 107) rfl (.pointer (some ⟨v1.heap.size, 2, none⟩)) rfl (.slice (some ⟨g, o1, none⟩) 2 c6) (fun W hW => load_one' (by kernel_rfl) ((G9u.out.through hW).cellAt (i := 2) rfl))) (by assumption) ?_
        change wpAnyH _ _ _ _ _ _ _ (Act.put _ (some (108 : Nat)) (.slice (some ⟨g, o1, none⟩) 2 c6)) _
        simp only [Act.put, List.setIfInBounds_toArray, List.set_cons_zero, List.set_cons_succ]
        refine wpAnyH_take (i := 22) (v := (.int .i64 2)) rfl (by kernel_rfl) (by kernel_rfl) (by kernel_rfl) (fun _ _ _ h => h) (Or.inl ⟨by kernel_rfl, fun w hSw => ?_⟩) (by assumption) ?_
        · (try dsimp only at hSw); go_simp <;> (try rfl)
        change wpAnyH _ _ _ _ _ _ _ (Act.put _ (some (109 : Nat)) (.int .i64 2)) _
        simp only [Act.put, List.setIfInBounds_toArray, List.set_cons_zero, List.set_cons_succ]
        refine wpAnyH_take (i := 23) (v := (.bool true)) rfl (by kernel_rfl) (by kernel_rfl) (by kernel_rfl) (fun _ _ _ h => h) (Or.inl ⟨by kernel_rfl, fun w hSw => ?_⟩) (by assumption) ?_
        · (try dsimp only at hSw); go_simp <;> (try rfl)
        change wpAnyH _ _ _ _ _ _ _ (Act.put _ (some (110 : Nat)) (.bool true)) _
        simp only [Act.put, List.setIfInBounds_toArray, List.set_cons_zero, List.set_cons_succ]
        refine wpAnyH_take (i := 24) (v := (.bool true)) rfl (by kernel_rfl) (by kernel_rfl) (by kernel_rfl) (fun _ _ _ h => h) (Or.inl ⟨by kernel_rfl, fun w hSw => ?_⟩) (by assumption) ?_
        · (try dsimp only at hSw); go_simp <;> (try rfl)
        change wpAnyH _ _ _ _ _ _ _ (Act.put _ (some (111 : Nat)) (.bool true)) _
        simp only [Act.put, List.setIfInBounds_toArray, List.set_cons_zero, List.set_cons_succ]
        refine wpAnyH_take (i := 25) (v := (.bool true)) rfl (by kernel_rfl) (by kernel_rfl) (by kernel_rfl) (fun _ _ _ h => h) (Or.inl ⟨by kernel_rfl, fun w hSw => ?_⟩) (by assumption) ?_
        · (try dsimp only at hSw); go_simp <;> (try rfl)
        change wpAnyH _ _ _ _ _ _ _ (Act.put _ (some (112 : Nat)) (.bool true)) _
        simp only [Act.put, List.setIfInBounds_toArray, List.set_cons_zero, List.set_cons_succ]
        refine wpAnyH_take (i := 26) (v := (.pointer (some ⟨v1.heap.size, 3, none⟩))) rfl (by kernel_rfl) (by kernel_rfl) (by kernel_rfl) (fun _ _ _ h => h) (Or.inl ⟨by kernel_rfl, fun w hSw => ?_⟩) (by assumption) ?_
        · (try dsimp only at hSw); go_simp <;> (try rfl)
        change wpAnyH _ _ _ _ _ _ _ (Act.put _ (some (113 : Nat)) (.pointer (some ⟨v1.heap.size, 3, none⟩))) _
        simp only [Act.put, List.setIfInBounds_toArray, List.set_cons_zero, List.set_cons_succ]
        refine wpAnyH_take (i := 27) (v := (.slice (some ⟨h_, p1, none⟩) 2 d6)) rfl (by kernel_rfl) (by kernel_rfl) (by kernel_rfl) (fun _ _ _ h => h) (yields_load_at (by kernel_rfl) 23 (.tmp 113) rfl (.pointer (some ⟨v1.heap.size, 3, none⟩)) rfl (.slice (some ⟨h_, p1, none⟩) 2 d6) (fun W hW => load_one' (by kernel_rfl) ((G9u.out.through hW).cellAt (i := 3) rfl))) (by assumption) ?_
        change wpAnyH _ _ _ _ _ _ _ (Act.put _ (some (114 : Nat)) (.slice (some ⟨h_, p1, none⟩) 2 d6)) _
        simp only [Act.put, List.setIfInBounds_toArray, List.set_cons_zero, List.set_cons_succ]
        refine wpAnyH_take (i := 28) (v := (.int .i64 2)) rfl (by kernel_rfl) (by kernel_rfl) (by kernel_rfl) (fun _ _ _ h => h) (Or.inl ⟨by kernel_rfl, fun w hSw => ?_⟩) (by assumption) ?_
        · (try dsimp only at hSw); go_simp <;> (try rfl)
        change wpAnyH _ _ _ _ _ _ _ (Act.put _ (some (115 : Nat)) (.int .i64 2)) _
        simp only [Act.put, List.setIfInBounds_toArray, List.set_cons_zero, List.set_cons_succ]
        refine wpAnyH_take (i := 29) (v := (.bool true)) rfl (by kernel_rfl) (by kernel_rfl) (by kernel_rfl) (fun _ _ _ h => h) (Or.inl ⟨by kernel_rfl, fun w hSw => ?_⟩) (by assumption) ?_
        · (try dsimp only at hSw); go_simp <;> (try rfl)
        change wpAnyH _ _ _ _ _ _ _ (Act.put _ (some (116 : Nat)) (.bool true)) _
        simp only [Act.put, List.setIfInBounds_toArray, List.set_cons_zero, List.set_cons_succ]
        refine wpAnyH_take (i := 30) (v := (.bool true)) rfl (by kernel_rfl) (by kernel_rfl) (by kernel_rfl) (fun _ _ _ h => h) (Or.inl ⟨by kernel_rfl, fun w hSw => ?_⟩) (by assumption) ?_
        · (try dsimp only at hSw); go_simp <;> (try rfl)
        change wpAnyH _ _ _ _ _ _ _ (Act.put _ (some (117 : Nat)) (.bool true)) _
        simp only [Act.put, List.setIfInBounds_toArray, List.set_cons_zero, List.set_cons_succ]
        refine wpAnyH_take (i := 31) (v := (.bool true)) rfl (by kernel_rfl) (by kernel_rfl) (by kernel_rfl) (fun _ _ _ h => h) (Or.inl ⟨by kernel_rfl, fun w hSw => ?_⟩) (by assumption) ?_
        · (try dsimp only at hSw); go_simp <;> (try rfl)
        change wpAnyH _ _ _ _ _ _ _ (Act.put _ (some (118 : Nat)) (.bool true)) _
        simp only [Act.put, List.setIfInBounds_toArray, List.set_cons_zero, List.set_cons_succ]
        refine wpAnyH_take (i := 32) (v := (.pointer (some ⟨v1.heap.size, 2, none⟩))) rfl (by kernel_rfl) (by kernel_rfl) (by kernel_rfl) (fun _ _ _ h => h) (Or.inl ⟨by kernel_rfl, fun w hSw => ?_⟩) (by assumption) ?_
        · (try dsimp only at hSw); go_simp <;> (try rfl)
        change wpAnyH _ _ _ _ _ _ _ (Act.put _ (some (119 : Nat)) (.pointer (some ⟨v1.heap.size, 2, none⟩))) _
        simp only [Act.put, List.setIfInBounds_toArray, List.set_cons_zero, List.set_cons_succ]
        refine wpAnyH_take (i := 33) (v := (.slice (some ⟨g, o1, none⟩) 2 c6)) rfl (by kernel_rfl) (by kernel_rfl) (by kernel_rfl) (fun _ _ _ h => h) (yields_load_at (by kernel_rfl) 22 (.tmp 119) rfl (.pointer (some ⟨v1.heap.size, 2, none⟩)) rfl (.slice (some ⟨g, o1, none⟩) 2 c6) (fun W hW => load_one' (by kernel_rfl) ((G9u.out.through hW).cellAt (i := 2) rfl))) (by assumption) ?_
        change wpAnyH _ _ _ _ _ _ _ (Act.put _ (some (120 : Nat)) (.slice (some ⟨g, o1, none⟩) 2 c6)) _
        simp only [Act.put, List.setIfInBounds_toArray, List.set_cons_zero, List.set_cons_succ]
        refine wpAnyH_take (i := 34) (v := (.pointer (some ⟨g, o1, none⟩))) rfl (by kernel_rfl) (by kernel_rfl) (by kernel_rfl) (fun _ _ _ h => h) (Or.inl ⟨by kernel_rfl, fun w hSw => ?_⟩) (by assumption) ?_
        · (try dsimp only at hSw); go_simp <;> (try rfl)
        change wpAnyH _ _ _ _ _ _ _ (Act.put _ (some (121 : Nat)) (.pointer (some ⟨g, o1, none⟩))) _
        simp only [Act.put, List.setIfInBounds_toArray, List.set_cons_zero, List.set_cons_succ]
        refine wpAnyH_take (i := 35) (v := (.pointer (some ⟨g, o1, none⟩))) rfl (by kernel_rfl) (by kernel_rfl) (by kernel_rfl) (fun _ _ _ h => h) (Or.inl ⟨by kernel_rfl, fun w hSw => ?_⟩) (by assumption) ?_
        · (try dsimp only at hSw); go_simp <;> (try rfl)
        change wpAnyH _ _ _ _ _ _ _ (Act.put _ (some (122 : Nat)) (.pointer (some ⟨g, o1, none⟩))) _
        simp only [Act.put, List.setIfInBounds_toArray, List.set_cons_zero, List.set_cons_succ]
        refine wpAnyH_take (i := 36) (v := (.string (ba s0.nm))) rfl (by kernel_rfl) (by kernel_rfl) (by kernel_rfl) (fun _ _ _ h => h) (yields_load_at (by kernel_rfl) 9 (.tmp 122) rfl (.pointer (some ⟨g, o1, none⟩)) rfl (.string (ba s0.nm)) (fun W hW => load_one' (by kernel_rfl) ((hW.cell (World.block_lt_of_cell? wu _ HR0.out)).trans HR0.out))) (by assumption) ?_
        change wpAnyH _ _ _ _ _ _ _ (Act.put _ (some (123 : Nat)) (.string (ba s0.nm))) _
        simp only [Act.put, List.setIfInBounds_toArray, List.set_cons_zero, List.set_cons_succ]
        refine wpAnyH_take (i := 37) (v := (.pointer (some ⟨v1.heap.size, 2, none⟩))) rfl (by kernel_rfl) (by kernel_rfl) (by kernel_rfl) (fun _ _ _ h => h) (Or.inl ⟨by kernel_rfl, fun w hSw => ?_⟩) (by assumption) ?_
        · (try dsimp only at hSw); go_simp <;> (try rfl)
        change wpAnyH _ _ _ _ _ _ _ (Act.put _ (some (124 : Nat)) (.pointer (some ⟨v1.heap.size, 2, none⟩))) _
        simp only [Act.put, List.setIfInBounds_toArray, List.set_cons_zero, List.set_cons_succ]
        refine wpAnyH_take (i := 38) (v := (.slice (some ⟨g, o1, none⟩) 2 c6)) rfl (by kernel_rfl) (by kernel_rfl) (by kernel_rfl) (fun _ _ _ h => h) (yields_load_at (by kernel_rfl) 22 (.tmp 124) rfl (.pointer (some ⟨v1.heap.size, 2, none⟩)) rfl (.slice (some ⟨g, o1, none⟩) 2 c6) (fun W hW => load_one' (by kernel_rfl) ((G9u.out.through hW).cellAt (i := 2) rfl))) (by assumption) ?_
        change wpAnyH _ _ _ _ _ _ _ (Act.put _ (some (125 : Nat)) (.slice (some ⟨g, o1, none⟩) 2 c6)) _
        simp only [Act.put, List.setIfInBounds_toArray, List.set_cons_zero, List.set_cons_succ]
        refine wpAnyH_take (i := 39) (v := (.pointer (some ⟨g, o1 + 6, none⟩))) rfl (by kernel_rfl) (by kernel_rfl) (by kernel_rfl) (fun _ _ _ h => h) (Or.inl ⟨by kernel_rfl, fun w hSw => ?_⟩) (by assumption) ?_
        · (try dsimp only at hSw); go_simp <;> (try rfl)
        change wpAnyH _ _ _ _ _ _ _ (Act.put _ (some (126 : Nat)) (.pointer (some ⟨g, o1 + 6, none⟩))) _
        simp only [Act.put, List.setIfInBounds_toArray, List.set_cons_zero, List.set_cons_succ]
        refine wpAnyH_take (i := 40) (v := (.pointer (some ⟨g, o1 + 6, none⟩))) rfl (by kernel_rfl) (by kernel_rfl) (by kernel_rfl) (fun _ _ _ h => h) (Or.inl ⟨by kernel_rfl, fun w hSw => ?_⟩) (by assumption) ?_
        · (try dsimp only at hSw); go_simp <;> (try rfl)
        change wpAnyH _ _ _ _ _ _ _ (Act.put _ (some (127 : Nat)) (.pointer (some ⟨g, o1 + 6, none⟩))) _
        simp only [Act.put, List.setIfInBounds_toArray, List.set_cons_zero, List.set_cons_succ]
        refine wpAnyH_take (i := 41) (v := (.string (ba s1.nm))) rfl (by kernel_rfl) (by kernel_rfl) (by kernel_rfl) (fun _ _ _ h => h) (yields_load_at (by kernel_rfl) 9 (.tmp 127) rfl (.pointer (some ⟨g, o1 + 6, none⟩)) rfl (.string (ba s1.nm)) (fun W hW => load_one' (by kernel_rfl) ((hW.cell (World.block_lt_of_cell? wu _ HR1.out)).trans HR1.out))) (by assumption) ?_
        change wpAnyH _ _ _ _ _ _ _ (Act.put _ (some (128 : Nat)) (.string (ba s1.nm))) _
        simp only [Act.put, List.setIfInBounds_toArray, List.set_cons_zero, List.set_cons_succ]
        refine wpAnyH_take (i := 42) (v := (.bool true)) rfl (by kernel_rfl) (by kernel_rfl) (by kernel_rfl) (fun _ _ _ h => h) (Or.inl ⟨by kernel_rfl, fun w hSw => ?_⟩) (by assumption) ?_
        · (try dsimp only at hSw); go_simp <;> (try rfl)
        change wpAnyH _ _ _ _ _ _ _ (Act.put _ (some (129 : Nat)) (.bool true)) _
        simp only [Act.put, List.setIfInBounds_toArray, List.set_cons_zero, List.set_cons_succ]
        refine wpAnyH_take (i := 43) (v := (.bool true)) rfl (by kernel_rfl) (by kernel_rfl) (by kernel_rfl) (fun _ _ _ h => h) (Or.inl ⟨by kernel_rfl, fun w hSw => ?_⟩) (by assumption) ?_
        · (try dsimp only at hSw); go_simp <;> (try rfl)
        change wpAnyH _ _ _ _ _ _ _ (Act.put _ (some (130 : Nat)) (.bool true)) _
        simp only [Act.put, List.setIfInBounds_toArray, List.set_cons_zero, List.set_cons_succ]
        refine wpAnyH_take (i := 44) (v := (.bool true)) rfl (by kernel_rfl) (by kernel_rfl) (by kernel_rfl) (fun _ _ _ h => h) (Or.inl ⟨by kernel_rfl, fun w hSw => ?_⟩) (by assumption) ?_
        · (try dsimp only at hSw); go_simp <;> (try rfl)
        change wpAnyH _ _ _ _ _ _ _ (Act.put _ (some (131 : Nat)) (.bool true)) _
        simp only [Act.put, List.setIfInBounds_toArray, List.set_cons_zero, List.set_cons_succ]
        refine wpAnyH_take (i := 45) (v := (.pointer (some ⟨v1.heap.size, 3, none⟩))) rfl (by kernel_rfl) (by kernel_rfl) (by kernel_rfl) (fun _ _ _ h => h) (Or.inl ⟨by kernel_rfl, fun w hSw => ?_⟩) (by assumption) ?_
        · (try dsimp only at hSw); go_simp <;> (try rfl)
        change wpAnyH _ _ _ _ _ _ _ (Act.put _ (some (132 : Nat)) (.pointer (some ⟨v1.heap.size, 3, none⟩))) _
        simp only [Act.put, List.setIfInBounds_toArray, List.set_cons_zero, List.set_cons_succ]
        refine wpAnyH_take (i := 46) (v := (.slice (some ⟨h_, p1, none⟩) 2 d6)) rfl (by kernel_rfl) (by kernel_rfl) (by kernel_rfl) (fun _ _ _ h => h) (yields_load_at (by kernel_rfl) 23 (.tmp 132) rfl (.pointer (some ⟨v1.heap.size, 3, none⟩)) rfl (.slice (some ⟨h_, p1, none⟩) 2 d6) (fun W hW => load_one' (by kernel_rfl) ((G9u.out.through hW).cellAt (i := 3) rfl))) (by assumption) ?_
        change wpAnyH _ _ _ _ _ _ _ (Act.put _ (some (133 : Nat)) (.slice (some ⟨h_, p1, none⟩) 2 d6)) _
        simp only [Act.put, List.setIfInBounds_toArray, List.set_cons_zero, List.set_cons_succ]
        refine wpAnyH_take (i := 47) (v := (.pointer (some ⟨h_, p1, none⟩))) rfl (by kernel_rfl) (by kernel_rfl) (by kernel_rfl) (fun _ _ _ h => h) (Or.inl ⟨by kernel_rfl, fun w hSw => ?_⟩) (by assumption) ?_
        · (try dsimp only at hSw); go_simp <;> (try rfl)
        change wpAnyH _ _ _ _ _ _ _ (Act.put _ (some (134 : Nat)) (.pointer (some ⟨h_, p1, none⟩))) _
        simp only [Act.put, List.setIfInBounds_toArray, List.set_cons_zero, List.set_cons_succ]
        refine wpAnyH_take (i := 48) (v := (.pointer (some ⟨h_, p1, none⟩))) rfl (by kernel_rfl) (by kernel_rfl) (by kernel_rfl) (fun _ _ _ h => h) (Or.inl ⟨by kernel_rfl, fun w hSw => ?_⟩) (by assumption) ?_
        · (try dsimp only at hSw); go_simp <;> (try rfl)
        change wpAnyH _ _ _ _ _ _ _ (Act.put _ (some (135 : Nat)) (.pointer (some ⟨h_, p1, none⟩))) _
        simp only [Act.put, List.setIfInBounds_toArray, List.set_cons_zero, List.set_cons_succ]
        refine wpAnyH_take (i := 49) (v := (.int .i64 q0.cl)) rfl (by kernel_rfl) (by kernel_rfl) (by kernel_rfl) (fun _ _ _ h => h) (yields_load_at (by kernel_rfl) 3 (.tmp 135) rfl (.pointer (some ⟨h_, p1, none⟩)) rfl (.int .i64 q0.cl) (fun W hW => load_one' (by kernel_rfl) ((hW.cell (World.block_lt_of_cell? wu _ HQ0.out)).trans HQ0.out))) (by assumption) ?_
        change wpAnyH _ _ _ _ _ _ _ (Act.put _ (some (136 : Nat)) (.int .i64 q0.cl)) _
        simp only [Act.put, List.setIfInBounds_toArray, List.set_cons_zero, List.set_cons_succ]
        refine wpAnyH_take (i := 50) (v := (.pointer (some ⟨v1.heap.size, 3, none⟩))) rfl (by kernel_rfl) (by kernel_rfl) (by kernel_rfl) (fun _ _ _ h => h) (Or.inl ⟨by kernel_rfl, fun w hSw => ?_⟩) (by assumption) ?_
        · (try dsimp only at hSw); go_simp <;> (try rfl)
        change wpAnyH _ _ _ _ _ _ _ (Act.put _ (some (137 : Nat)) (.pointer (some ⟨v1.heap.size, 3, none⟩))) _
        simp only [Act.put, List.setIfInBounds_toArray, List.set_cons_zero, List.set_cons_succ]
        refine wpAnyH_take (i := 51) (v := (.slice (some ⟨h_, p1, none⟩) 2 d6)) rfl (by kernel_rfl) (by kernel_rfl) (by kernel_rfl) (fun _ _ _ h => h) (yields_load_at (by kernel_rfl) 23 (.tmp 137) rfl (.pointer (some ⟨v1.heap.size, 3, none⟩)) rfl (.slice (some ⟨h_, p1, none⟩) 2 d6) (fun W hW => load_one' (by kernel_rfl) ((G9u.out.through hW).cellAt (i := 3) rfl))) (by assumption) ?_
        change wpAnyH _ _ _ _ _ _ _ (Act.put _ (some (138 : Nat)) (.slice (some ⟨h_, p1, none⟩) 2 d6)) _
        simp only [Act.put, List.setIfInBounds_toArray, List.set_cons_zero, List.set_cons_succ]
        refine wpAnyH_take (i := 52) (v := (.pointer (some ⟨h_, p1 + 3, none⟩))) rfl (by kernel_rfl) (by kernel_rfl) (by kernel_rfl) (fun _ _ _ h => h) (Or.inl ⟨by kernel_rfl, fun w hSw => ?_⟩) (by assumption) ?_
        · (try dsimp only at hSw); go_simp <;> (try rfl)
        change wpAnyH _ _ _ _ _ _ _ (Act.put _ (some (139 : Nat)) (.pointer (some ⟨h_, p1 + 3, none⟩))) _
        simp only [Act.put, List.setIfInBounds_toArray, List.set_cons_zero, List.set_cons_succ]
        refine wpAnyH_take (i := 53) (v := (.pointer (some ⟨h_, p1 + 3, none⟩))) rfl (by kernel_rfl) (by kernel_rfl) (by kernel_rfl) (fun _ _ _ h => h) (Or.inl ⟨by kernel_rfl, fun w hSw => ?_⟩) (by assumption) ?_
        · (try dsimp only at hSw); go_simp <;> (try rfl)
        change wpAnyH _ _ _ _ _ _ _ (Act.put _ (some (140 : Nat)) (.pointer (some ⟨h_, p1 + 3, none⟩))) _
        simp only [Act.put, List.setIfInBounds_toArray, List.set_cons_zero, List.set_cons_succ]
        refine wpAnyH_take (i := 54) (v := (.int .i64 q1.cl)) rfl (by kernel_rfl) (by kernel_rfl) (by kernel_rfl) (fun _ _ _ h => h) (yields_load_at (by kernel_rfl) 3 (.tmp 140) rfl (.pointer (some ⟨h_, p1 + 3, none⟩)) rfl (.int .i64 q1.cl) (fun W hW => load_one' (by kernel_rfl) ((hW.cell (World.block_lt_of_cell? wu _ HQ1.out)).trans HQ1.out))) (by assumption) ?_
        change wpAnyH _ _ _ _ _ _ _ (Act.put _ (some (141 : Nat)) (.int .i64 q1.cl)) _
        simp only [Act.put, List.setIfInBounds_toArray, List.set_cons_zero, List.set_cons_succ]
        refine wpAnyH_take (i := 55) (v := (.bool true)) rfl (by kernel_rfl) (by kernel_rfl) (by kernel_rfl) (fun _ _ _ h => h) (Or.inl ⟨by kernel_rfl, fun w hSw => ?_⟩) (by assumption) ?_
        · (try dsimp only at hSw); go_simp <;> (try rfl)
        change wpAnyH _ _ _ _ _ _ _ (Act.put _ (some (142 : Nat)) (.bool true)) _
        simp only [Act.put, List.setIfInBounds_toArray, List.set_cons_zero, List.set_cons_succ]
        refine wpAnyH_take (i := 56) (v := (.bool true)) rfl (by kernel_rfl) (by kernel_rfl) (by kernel_rfl) (fun _ _ _ h => h) (Or.inl ⟨by kernel_rfl, fun w hSw => ?_⟩) (by assumption) ?_
        · (try dsimp only at hSw); go_simp <;> (try rfl)
        change wpAnyH _ _ _ _ _ _ _ (Act.put _ (some (143 : Nat)) (.bool true)) _
        simp only [Act.put, List.setIfInBounds_toArray, List.set_cons_zero, List.set_cons_succ]
        refine wpAnyH_take (i := 57) (v := (.bool true)) rfl (by kernel_rfl) (by kernel_rfl) (by kernel_rfl) (fun _ _ _ h => h) (Or.inl ⟨by kernel_rfl, fun w hSw => ?_⟩) (by assumption) ?_
        · (try dsimp only at hSw); go_simp <;> (try rfl)
        change wpAnyH _ _ _ _ _ _ _ (Act.put _ (some (8 : Nat)) (.bool true)) _
        simp only [Act.put, List.setIfInBounds_toArray, List.set_cons_zero, List.set_cons_succ]
        refine wpAnyH_done (by kernel_rfl) ?_ _
        have HXz := Lib.hid (below_step HXu.out hHeld)
        clear hHeld
        go_wp2
        go_ret
        exact ⟨rfl, HXz.out⟩
      · as_aux_lemma =>
        refine step_load_at rfl 25 (.tmp 12) rfl (.pointer (some ⟨v3.heap.size, 0, none⟩)) rfl (.agg #[.int .i64 0, .int .i64 0, .slice A4 2 c4, .slice B4 0 d4]) (G12p.out.loadAt 25 _ Try.underlying25 rfl (by kernel_rfl)) ?_
        refine hK.out _ _ hHeld (fun hHeld1 => ?_)
        clear hHeld hK K
        have hHeld := hHeld1
        clear hHeld1
        change wpAnyH _ _ _ _ _ _ _ (Act.put _ (some (82 : Nat)) (.agg #[.int .i64 0, .int .i64 0, .slice A4 2 c4, .slice B4 0 d4])) _
        simp only [Act.put, List.setIfInBounds_toArray, List.set_cons_zero, List.set_cons_succ]
        refine wpAnyH_ready (rs := [4]) (by kernel_rfl) (by simp) ?_
        refine AllReadyH.cons rfl (fun K hK => ?_) AllReadyH.nil
        go_simp
        refine ((HT2.out _ _ _ _ _ HI5p.out HC5.out.2)).mono ?_
        rintro e v6 ⟨A6, n6, c6, B6, m6, d6, rfl, hi6, hc6, hd6, hb6⟩; obtain rfl : 2 = n6 := hi6.len.1; obtain rfl : 2 = m6 := hi6.len.2; have HC6 := Lib.hid (And.intro hc6 hd6); have HKq := Lib.hid hb6; have G9q := Lib.hid (G9p.out.through hb6); have G12q := Lib.hid (G12p.out.through hb6); have HI4q := Lib.hid (HI4p.out.through hb6); have HI6q := Lib.hid hi6; clear hi6 hb6 hc6 hd6
        go_wp2_with fail
        refine hK.out _ _ ⟨below_step hHeld.1 HKq.out, hHeld.2.1.through HKq.out, hHeld.2.2.through HKq.out⟩ (fun hHeld1 => ?_)
        clear hHeld hK K
        have hHeld := hHeld1
        clear hHeld1
        refine wpAnyH_ready (rs := [7]) (by kernel_rfl) (by simp) ?_
        refine AllReadyH.cons rfl (fun K hK => ?_) AllReadyH.nil
        go_simp
        refine ((HT3.out _ _ _ _ _ HI4q.out HC4.out.2)).mono ?_
        rintro e v7 ⟨A7, n7, c7, B7, m7, d7, rfl, hi7, hc7, hd7, hb7⟩; obtain rfl : 2 = n7 := hi7.len.1; obtain rfl : 1 = m7 := hi7.len.2; have HC7 := Lib.hid (And.intro hc7 hd7); have HKr := Lib.hid hb7; have G9r := Lib.hid (G9q.out.through hb7); have G12r := Lib.hid (G12q.out.through hb7); have HI6r := Lib.hid (HI6q.out.through hb7); have HI7r := Lib.hid hi7; clear hi7 hb7 hc7 hd7
        go_wp2_with fail
        refine hK.out _ _ ⟨below_step hHeld.1 HKr.out, hHeld.2.1.through HKr.out, hHeld.2.2.through HKr.out⟩ (fun hHeld1 => ?_)
        clear hHeld hK K
        have hHeld := hHeld1
        clear hHeld1
        refine wpAnyH_ready (rs := [9]) (by kernel_rfl) (by simp) ?_
        refine AllReadyH.cons rfl (fun K hK => ?_) AllReadyH.nil
        go_simp
        refine ((HT4.out _ _ _ _ _ HI7r.out HC7.out.2)).mono ?_
        rintro e v8 ⟨A8, n8, c8, B8, m8, d8, rfl, hi8, hc8, hd8, hb8⟩; obtain rfl : 2 = n8 := hi8.len.1; obtain rfl : 2 = m8 := hi8.len.2; have HC8 := Lib.hid (And.intro hc8 hd8); have HKs := Lib.hid hb8; have G9s := Lib.hid (G9r.out.through hb8); have G12s := Lib.hid (G12r.out.through hb8); have HI6s := Lib.hid (HI6r.out.through hb8); have HI8s := Lib.hid hi8; clear hi8 hb8 hc8 hd8
        go_wp2_with fail
        refine hK.out _ _ ⟨below_step hHeld.1 HKs.out, hHeld.2.1.through HKs.out, hHeld.2.2.through HKs.out⟩ (fun hHeld1 => ?_)
        clear hHeld hK K
        have hHeld := hHeld1
        clear hHeld1
        refine wpAnyH_ready (rs := [10]) (by kernel_rfl) (by simp) ?_
        refine AllReadyH.cons (o := ⟨none, .store 25 (.tmp 9) (.tmp 81), _, _, _, none⟩) rfl (fun K hK => ?_) AllReadyH.nil
        refine step_store_blk rfl 25 (.tmp 9) (.tmp 81) rfl v1.heap.size [.int .i64 0, .int .i64 0, .slice A6 2 c6, .slice B6 2 d6] rfl rfl 25 [.int .i64 0, .int .i64 0, .slice A2 2 c2, .slice B2 0 d2] G9s.out (by kernel_rfl) rfl (one4 _ _ _ _ _ _ _ _) ?_; intro wt hbt hgt; have G9t := Lib.hid hbt; have HGt := Lib.hid hgt; have G12t := Lib.hid (G12s.out.grown hgt (fun e9 => by have := Option.some.inj e9; have := Z12.out; omega)); have HI6t := Lib.hid (HI6s.out.stored G9s.out hgt); have HI8t := Lib.hid (HI8s.out.stored G9s.out hgt); clear hbt hgt
        refine hK.out _ _ ⟨hHeld.1.grown HGt.out hHeld.1.size (fun k hk => by have := Option.some.inj hk; have := Z9.out; omega), hHeld.2.1.grown HGt.out (fun e9 => by have := Option.some.inj e9; have := Z9.out; omega), hHeld.2.2.grown HGt.out (fun e9 => by have := Option.some.inj e9; have := Z9.out; omega)⟩ (fun hHeld1 => ?_)
        clear hHeld hK K
        have hHeld := hHeld1
        clear hHeld1
        change wpAnyH _ _ _ _ _ _ _ (Act.put _ none undef) _
        simp only [Act.put]
        refine wpAnyH_ready (rs := [11]) (by kernel_rfl) (by simp) ?_
        refine AllReadyH.cons (o := ⟨none, .store 25 (.tmp 12) (.tmp 86), _, _, _, none⟩) rfl (fun K hK => ?_) AllReadyH.nil
        refine step_store_blk rfl 25 (.tmp 12) (.tmp 86) rfl v3.heap.size [.int .i64 0, .int .i64 0, .slice A8 2 c8, .slice B8 2 d8] rfl rfl 25 [.int .i64 0, .int .i64 0, .slice A4 2 c4, .slice B4 0 d4] G12t.out (by kernel_rfl) rfl (one4 _ _ _ _ _ _ _ _) ?_; intro wu hbu hgu; have G12u := Lib.hid hbu; have HGu := Lib.hid hgu; have G9u := Lib.hid (G9t.out.grown hgu (fun e9 => by have := Option.some.inj e9; have := Z12.out; omega)); have HI6u := Lib.hid (HI6t.out.stored G12t.out hgu); have HI8u := Lib.hid (HI8t.out.stored G12t.out hgu); clear hbu hgu
        refine hK.out _ _ ⟨hHeld.1.grown HGu.out hHeld.1.size (fun k hk => by have := Option.some.inj hk; have := Z12b.out; omega), hHeld.2.1.grown HGu.out (fun e9 => by have := Option.some.inj e9; have := Z12b.out; omega), hHeld.2.2.grown HGu.out (fun e9 => by have := Option.some.inj e9; have := Z12b.out; omega)⟩ (fun hHeld1 => ?_)
        clear hHeld hK K
        have hHeld := hHeld1
        clear hHeld1
        change wpAnyH _ _ _ _ _ _ _ (Act.put _ none undef) _
        simp only [Act.put]
        refine wpAnyH_done (by kernel_rfl) ?_ _
        have HXu := Lib.hid hHeld.1
        clear hHeld
        go_wp2
        try dsimp only [Act.put]
        obtain ⟨g, o1, x0, hA, hx0, _, _, hr0⟩ := HI6u.out.lt_at (i := 0) (by omega)
        obtain ⟨g1, o2, x1, hA1, hx1, _, _, hr1⟩ := HI6u.out.lt_at (i := 1) (by omega)
        subst hA
        obtain ⟨rfl, rfl⟩ : g = g1 ∧ o1 = o2 := by simpa using hA1
        obtain rfl : s0 = x0 := Option.some.inj hx0
        obtain rfl : s1 = x1 := Option.some.inj hx1
        obtain ⟨h_, p1, y0, hB, hy0, _, _, hq0⟩ := HI6u.out.oc_at (i := 0) (by omega)
        obtain ⟨h1_, p2, y1, hB1, hy1, _, _, hq1⟩ := HI6u.out.oc_at (i := 1) (by omega)
        subst hB
        obtain ⟨rfl, rfl⟩ : h_ = h1_ ∧ p1 = p2 := by simpa using hB1
        obtain rfl : q0 = y0 := Option.some.inj hy0
        obtain rfl : q1 = y1 := Option.some.inj hy1
        have HR0 : Hid (wu.cell? ⟨g, o1, none⟩ = some (.string (ba s0.nm))) := Lib.hid (by have h9 := hr0 0 _ rfl; simpa using h9)
        have HR1 : Hid (wu.cell? ⟨g, o1 + 6, none⟩ = some (.string (ba s1.nm))) := Lib.hid (by have h9 := hr1 0 _ rfl; simpa using h9)
        have HQ0 : Hid (wu.cell? ⟨h_, p1, none⟩ = some (.int .i64 q0.cl)) := Lib.hid (by have h9 := hq0 0 _ rfl; simpa using h9)
        have HQ1 : Hid (wu.cell? ⟨h_, p1 + 3, none⟩ = some (.int .i64 q1.cl)) := Lib.hid (by have h9 := hq1 0 _ rfl; simpa using h9)
        have hi0 := fun W : World => Try.ix_lt W g o1 2 c6 0 (by omega)
        have hi1 := fun W : World => Try.ix_lt W g o1 2 c6 1 (by omega)
        have hj0 := fun W : World => Try.ix_oc W h_ p1 2 d6 0 (by omega)
        have hj1 := fun W : World => Try.ix_oc W h_ p1 2 d6 1 (by omega)
        simp only [Nat.zero_mul, Nat.one_mul, Nat.add_zero, Int.cast_ofNat_Int] at hi0 hi1 hj0 hj1
        clear hr0 hr1 hq0 hq1 hx0 hx1 hy0 hy1 hA1 hB1
        refine wp_region_held_drew (S := fun W => Below wu.heap.size wu W) (by kernel_rfl) (Below.refl _ _).drew (fun hHeld => ?_)
        change wpAnyH _ _ _ _ _ _ #[false, false, false, false, false, false, false, false, false, false, false, false, false, false, false, false, false, false, false, false, false, false, false, false, false, false, false, false, false, false, false, false, false, false, false, false, false, false, false, false, false, false, false, false, false, false, false, false, false, false, false, false, false, false, false, false, false, false] _ _
        refine wpAnyH_take (i := 0) (v := (.int .i64 0)) rfl (by kernel_rfl) (by kernel_rfl) (by kernel_rfl) (fun _ _ _ h => h) (Or.inl ⟨by kernel_rfl, fun w hSw => ?_⟩) (by assumption) ?_
        · (try dsimp only at hSw); go_simp <;> (try rfl)
        change wpAnyH _ _ _ _ _ _ _ (Act.put _ (some (87 : Nat)) (.int .i64 0)) _
        simp only [Act.put, List.setIfInBounds_toArray, List.set_cons_zero, List.set_cons_succ]
        refine wpAnyH_take (i := 1) (v := (.bool true)) rfl (by kernel_rfl) (by kernel_rfl) (by kernel_rfl) (fun _ _ _ h => h) (Or.inl ⟨by kernel_rfl, fun w hSw => ?_⟩) (by assumption) ?_
        · (try dsimp only at hSw); go_simp <;> (try rfl)
        change wpAnyH _ _ _ _ _ _ _ (Act.put _ (some (88 : Nat)) (.bool true)) _
        simp only [Act.put, List.setIfInBounds_toArray, List.set_cons_zero, List.set_cons_succ]
        refine wpAnyH_take (i := 2) (v := (.bool true)) rfl (by kernel_rfl) (by kernel_rfl) (by kernel_rfl) (fun _ _ _ h => h) (Or.inl ⟨by kernel_rfl, fun w hSw => ?_⟩) (by assumption) ?_
        · (try dsimp only at hSw); go_simp <;> (try rfl)
        change wpAnyH _ _ _ _ _ _ _ (Act.put _ (some (89 : Nat)) (.bool true)) _
        simp only [Act.put, List.setIfInBounds_toArray, List.set_cons_zero, List.set_cons_succ]
        refine wpAnyH_take (i := 3) (v := (.int .i64 0)) rfl (by kernel_rfl) (by kernel_rfl) (by kernel_rfl) (fun _ _ _ h => h) (Or.inl ⟨by kernel_rfl, fun w hSw => ?_⟩) (by assumption) ?_
        · (try dsimp only at hSw); go_simp <;> (try rfl)
        change wpAnyH _ _ _ _ _ _ _ (Act.put _ (some (90 : Nat)) (.int .i64 0)) _
        simp only [Act.put, List.setIfInBounds_toArray, List.set_cons_zero, List.set_cons_succ]
        refine wpAnyH_take (i := 4) (v := (.bool true)) rfl (by kernel_rfl) (by kernel_rfl) (by kernel_rfl) (fun _ _ _ h => h) (Or.inl ⟨by kernel_rfl, fun w hSw => ?_⟩) (by assumption) ?_
        · (try dsimp only at hSw); go_simp <;> (try rfl)
        change wpAnyH _ _ _ _ _ _ _ (Act.put _ (some (91 : Nat)) (.bool true)) _
        simp only [Act.put, List.setIfInBounds_toArray, List.set_cons_zero, List.set_cons_succ]
        refine wpAnyH_take (i := 5) (v := (.bool true)) rfl (by kernel_rfl) (by kernel_rfl) (by kernel_rfl) (fun _ _ _ h => h) (Or.inl ⟨by kernel_rfl, fun w hSw => ?_⟩) (by assumption) ?_
        · (try dsimp only at hSw); go_simp <;> (try rfl)
        change wpAnyH _ _ _ _ _ _ _ (Act.put _ (some (92 : Nat)) (.bool true)) _
        simp only [Act.put, List.setIfInBounds_toArray, List.set_cons_zero, List.set_cons_succ]
        refine wpAnyH_take (i := 6) (v := (.bool true)) rfl (by kernel_rfl) (by kernel_rfl) (by kernel_rfl) (fun _ _ _ h => h) (Or.inl ⟨by kernel_rfl, fun w hSw => ?_⟩) (by assumption) ?_
        · (try dsimp only at hSw); go_simp <;> (try rfl)
        change wpAnyH _ _ _ _ _ _ _ (Act.put _ (some (93 : Nat)) (.bool true)) _
        simp only [Act.put, List.setIfInBounds_toArray, List.set_cons_zero, List.set_cons_succ]
        refine wpAnyH_take (i := 7) (v := (.int .i64 0)) rfl (by kernel_rfl) (by kernel_rfl) (by kernel_rfl) (fun _ _ _ h => h) (Or.inl ⟨by kernel_rfl, fun w hSw => ?_⟩) (by assumption) ?_
        · (try dsimp only at hSw); go_simp <;> (try rfl)
        change wpAnyH _ _ _ _ _ _ _ (Act.put _ (some (94 : Nat)) (.int .i64 0)) _
        simp only [Act.put, List.setIfInBounds_toArray, List.set_cons_zero, List.set_cons_succ]
        refine wpAnyH_take (i := 8) (v := (.bool true)) rfl (by kernel_rfl) (by kernel_rfl) (by kernel_rfl) (fun _ _ _ h => h) (Or.inl ⟨by kernel_rfl, fun w hSw => ?_⟩) (by assumption) ?_
        · (try dsimp only at hSw); go_simp <;> (try rfl)
        change wpAnyH _ _ _ _ _ _ _ (Act.put _ (some (95 : Nat)) (.bool true)) _
        simp only [Act.put, List.setIfInBounds_toArray, List.set_cons_zero, List.set_cons_succ]
        refine wpAnyH_take (i := 9) (v := (.bool true)) rfl (by kernel_rfl) (by kernel_rfl) (by kernel_rfl) (fun _ _ _ h => h) (Or.inl ⟨by kernel_rfl, fun w hSw => ?_⟩) (by assumption) ?_
        · (try dsimp only at hSw); go_simp <;> (try rfl)
        change wpAnyH _ _ _ _ _ _ _ (Act.put _ (some (96 : Nat)) (.bool true)) _
        simp only [Act.put, List.setIfInBounds_toArray, List.set_cons_zero, List.set_cons_succ]
        refine wpAnyH_take (i := 10) (v := (.bool true)) rfl (by kernel_rfl) (by kernel_rfl) (by kernel_rfl) (fun _ _ _ h => h) (Or.inl ⟨by kernel_rfl, fun w hSw => ?_⟩) (by assumption) ?_
        · (try dsimp only at hSw); go_simp <;> (try rfl)
        change wpAnyH _ _ _ _ _ _ _ (Act.put _ (some (97 : Nat)) (.bool true)) _
        simp only [Act.put, List.setIfInBounds_toArray, List.set_cons_zero, List.set_cons_succ]
        refine wpAnyH_take (i := 11) (v := (.int .i64 0)) rfl (by kernel_rfl) (by kernel_rfl) (by kernel_rfl) (fun _ _ _ h => h) (Or.inl ⟨by kernel_rfl, fun w hSw => ?_⟩) (by assumption) ?_
        · (try dsimp only at hSw); go_simp <;> (try rfl)
        change wpAnyH _ _ _ _ _ _ _ (Act.put _ (some (98 : Nat)) (.int .i64 0)) _
        simp only [Act.put, List.setIfInBounds_toArray, List.set_cons_zero, List.set_cons_succ]
        refine wpAnyH_take (i := 12) (v := (.bool true)) rfl (by kernel_rfl) (by kernel_rfl) (by kernel_rfl) (fun _ _ _ h => h) (Or.inl ⟨by kernel_rfl, fun w hSw => ?_⟩) (by assumption) ?_
        · (try dsimp only at hSw); go_simp <;> (try rfl)
        change wpAnyH _ _ _ _ _ _ _ (Act.put _ (some (99 : Nat)) (.bool true)) _
        simp only [Act.put, List.setIfInBounds_toArray, List.set_cons_zero, List.set_cons_succ]
        refine wpAnyH_take (i := 13) (v := (.bool true)) rfl (by kernel_rfl) (by kernel_rfl) (by kernel_rfl) (fun _ _ _ h => h) (Or.inl ⟨by kernel_rfl, fun w hSw => ?_⟩) (by assumption) ?_
        · (try dsimp only at hSw); go_simp <;> (try rfl)
        change wpAnyH _ _ _ _ _ _ _ (Act.put _ (some (100 : Nat)) (.bool true)) _
        simp only [Act.put, List.setIfInBounds_toArray, List.set_cons_zero, List.set_cons_succ]
        refine wpAnyH_take (i := 14) (v := (.bool true)) rfl (by kernel_rfl) (by kernel_rfl) (by kernel_rfl) (fun _ _ _ h => h) (Or.inl ⟨by kernel_rfl, fun w hSw => ?_⟩) (by assumption) ?_
        · (try dsimp only at hSw); go_simp <;> (try rfl)
        change wpAnyH _ _ _ _ _ _ _ (Act.put _ (some (101 : Nat)) (.bool true)) _
        simp only [Act.put, List.setIfInBounds_toArray, List.set_cons_zero, List.set_cons_succ]
        refine wpAnyH_take (i := 15) (v := (.agg #[.int .i64 0, .int .i64 0, .slice (some ⟨g, o1, none⟩) 2 c6, .slice (some ⟨h_, p1, none⟩) 2 d6])) rfl (by kernel_rfl) (by kernel_rfl) (by kernel_rfl) (fun _ _ _ h => h) (yields_load_at (by kernel_rfl) 25 (.tmp 9) rfl (.pointer (some ⟨v1.heap.size, 0, none⟩)) rfl (.agg #[.int .i64 0, .int .i64 0, .slice (some ⟨g, o1, none⟩) 2 c6, .slice (some ⟨h_, p1, none⟩) 2 d6]) (fun W hW => (G9u.out.through hW).loadAt 25 _ Try.underlying25 rfl (by kernel_rfl))) (by assumption) ?_
        change wpAnyH _ _ _ _ _ _ _ (Act.put _ (some (102 : Nat)) (.agg #[.int .i64 0, .int .i64 0, .slice (some ⟨g, o1, none⟩) 2 c6, .slice (some ⟨h_, p1, none⟩) 2 d6])) _
        simp only [Act.put, List.setIfInBounds_toArray, List.set_cons_zero, List.set_cons_succ]
        refine wpAnyH_take (i := 16) (v := (.agg #[.int .i64 0, .int .i64 0, .slice A8 2 c8, .slice B8 2 d8])) rfl (by kernel_rfl) (by kernel_rfl) (by kernel_rfl) (fun _ _ _ h => h) (yields_load_at (by kernel_rfl) 25 (.tmp 12) rfl (.pointer (some ⟨v3.heap.size, 0, none⟩)) rfl (.agg #[.int .i64 0, .int .i64 0, .slice A8 2 c8, .slice B8 2 d8]) (fun W hW => (G12u.out.through hW).loadAt 25 _ Try.underlying25 rfl (by kernel_rfl))) (by assumption) ?_
        change wpAnyH _ _ _ _ _ _ _ (Act.put _ (some (103 : Nat)) (.agg #[.int .i64 0, .int .i64 0, .slice A8 2 c8, .slice B8 2 d8])) _
        simp only [Act.put, List.setIfInBounds_toArray, List.set_cons_zero, List.set_cons_succ]
        refine wpAnyH_ready (rs := [17]) (by kernel_rfl) (by simp) ?_
        refine AllReadyH.cons rfl (fun K hK => ?_) AllReadyH.nil
        go_simp
        refine ((HSm.out _ _ _ _ _ _ _ _ _ (HI6u.out.through hHeld) (HI8u.out.through hHeld))).mono ?_
        rintro e wx ⟨rfl, hbx⟩; have HKx := Lib.hid hbx; clear hbx
        go_wp2_with fail
        refine hK.out _ _ (below_step hHeld HKx.out) (fun hHeld1 => ?_)
        clear hHeld hK K
        have hHeld := hHeld1
        clear hHeld1
        refine wpAnyH_take (i := 18) (v := (.bool true)) rfl (by kernel_rfl) (by kernel_rfl) (by kernel_rfl) (fun _ _ _ h => h) (Or.inl ⟨by kernel_rfl, fun w hSw => ?_⟩) (by assumption) ?_
        · (try dsimp only at hSw); go_simp <;> (try rfl)
        change wpAnyH _ _ _ _ _ _ _ (Act.put _ (some (105 : Nat)) (.bool true)) _
        simp only [Act.put, List.setIfInBounds_toArray, List.set_cons_zero, List.set_cons_succ]
        refine wpAnyH_take (i := 19) (v := (.bool true)) rfl (by kernel_rfl) (by kernel_rfl) (by kernel_rfl) (fun _ _ _ h => h) (Or.inl ⟨by kernel_rfl, fun w hSw => ?_⟩) (by assumption) ?_
        · (try dsimp only at hSw); go_simp <;> (try rfl)
        change wpAnyH _ _ _ _ _ _ _ (Act.put _ (some (106 : Nat)) (.bool true)) _
        simp only [Act.put, List.setIfInBounds_toArray, List.set_cons_zero, List.set_cons_succ]
        refine wpAnyH_take (i := 20) (v := (.pointer (some ⟨v1.heap.size, 2, none⟩))) rfl (by kernel_rfl) (by kernel_rfl) (by kernel_rfl) (fun _ _ _ h => h) (Or.inl ⟨by kernel_rfl, fun w hSw => ?_⟩) (by assumption) ?_
        · (try dsimp only at hSw); go_simp <;> (try rfl)
        change wpAnyH _ _ _ _ _ _ _ (Act.put _ (some (107 : Nat)) (.pointer (some ⟨v1.heap.size, 2, none⟩))) _
        simp only [Act.put, List.setIfInBounds_toArray, List.set_cons_zero, List.set_cons_succ]
        refine wpAnyH_take (i := 21) (v := (.slice (some ⟨g, o1, none⟩) 2 c6)) rfl (by kernel_rfl) (by kernel_rfl) (by kernel_rfl) (fun _ _ _ h => h) (yields_load_at (by kernel_rfl) 22 (.tmp 107) rfl (.pointer (some ⟨v1.heap.size, 2, none⟩)) rfl (.slice (some ⟨g, o1, none⟩) 2 c6) (fun W hW => load_one' (by kernel_rfl) ((G9u.out.through hW).cellAt (i := 2) rfl))) (by assumption) ?_
        change wpAnyH _ _ _ _ _ _ _ (Act.put _ (some (108 : Nat)) (.slice (some ⟨g, o1, none⟩) 2 c6)) _
        simp only [Act.put, List.setIfInBounds_toArray, List.set_cons_zero, List.set_cons_succ]
        refine wpAnyH_take (i := 22) (v := (.int .i64 2)) rfl (by kernel_rfl) (by kernel_rfl) (by kernel_rfl) (fun _ _ _ h => h) (Or.inl ⟨by kernel_rfl, fun w hSw => ?_⟩) (by assumption) ?_
        · (try dsimp only at hSw); go_simp <;> (try rfl)
        change wpAnyH _ _ _ _ _ _ _ (Act.put _ (some (109 : Nat)) (.int .i64 2)) _
        simp only [Act.put, List.setIfInBounds_toArray, List.set_cons_zero, List.set_cons_succ]
        refine wpAnyH_take (i := 23) (v := (.bool true)) rfl (by kernel_rfl) (by kernel_rfl) (by kernel_rfl) (fun _ _ _ h => h) (Or.inl ⟨by kernel_rfl, fun w hSw => ?_⟩) (by assumption) ?_
        · (try dsimp only at hSw); go_simp <;> (try rfl)
        change wpAnyH _ _ _ _ _ _ _ (Act.put _ (some (110 : Nat)) (.bool true)) _
        simp only [Act.put, List.setIfInBounds_toArray, List.set_cons_zero, List.set_cons_succ]
        refine wpAnyH_take (i := 24) (v := (.bool true)) rfl (by kernel_rfl) (by kernel_rfl) (by kernel_rfl) (fun _ _ _ h => h) (Or.inl ⟨by kernel_rfl, fun w hSw => ?_⟩) (by assumption) ?_
        · (try dsimp only at hSw); go_simp <;> (try rfl)
        change wpAnyH _ _ _ _ _ _ _ (Act.put _ (some (111 : Nat)) (.bool true)) _
        simp only [Act.put, List.setIfInBounds_toArray, List.set_cons_zero, List.set_cons_succ]
        refine wpAnyH_take (i := 25) (v := (.bool true)) rfl (by kernel_rfl) (by kernel_rfl) (by kernel_rfl) (fun _ _ _ h => h) (Or.inl ⟨by kernel_rfl, fun w hSw => ?_⟩) (by assumption) ?_
        · (try dsimp only at hSw); go_simp <;> (try rfl)
        change wpAnyH _ _ _ _ _ _ _ (Act.put _ (some (112 : Nat)) (.bool true)) _
        simp only [Act.put, List.setIfInBounds_toArray, List.set_cons_zero, List.set_cons_succ]
        refine wpAnyH_take (i := 26) (v := (.pointer (some ⟨v1.heap.size, 3, none⟩))) rfl (by kernel_rfl) (by kernel_rfl) (by kernel_rfl) (fun _ _ _ h => h) (Or.inl ⟨by kernel_rfl, fun w hSw => ?_⟩) (by assumption) ?_
        · (try dsimp only at hSw); go_simp <;> (try rfl)
        change wpAnyH _ _ _ _ _ _ _ (Act.put _ (some (113 : Nat)) (.pointer (some ⟨v1.heap.size, 3, none⟩))) _
        simp only [Act.put, List.setIfInBounds_toArray, List.set_cons_zero, List.set_cons_succ]
        refine wpAnyH_take (i := 27) (v := (.slice (some ⟨h_, p1, none⟩) 2 d6)) rfl (by kernel_rfl) (by kernel_rfl) (by kernel_rfl) (fun _ _ _ h => h) (yields_load_at (by kernel_rfl) 23 (.tmp 113) rfl (.pointer (some ⟨v1.heap.size, 3, none⟩)) rfl (.slice (some ⟨h_, p1, none⟩) 2 d6) (fun W hW => load_one' (by kernel_rfl) ((G9u.out.through hW).cellAt (i := 3) rfl))) (by assumption) ?_
        change wpAnyH _ _ _ _ _ _ _ (Act.put _ (some (114 : Nat)) (.slice (some ⟨h_, p1, none⟩) 2 d6)) _
        simp only [Act.put, List.setIfInBounds_toArray, List.set_cons_zero, List.set_cons_succ]
        refine wpAnyH_take (i := 28) (v := (.int .i64 2)) rfl (by kernel_rfl) (by kernel_rfl) (by kernel_rfl) (fun _ _ _ h => h) (Or.inl ⟨by kernel_rfl, fun w hSw => ?_⟩) (by assumption) ?_
        · (try dsimp only at hSw); go_simp <;> (try rfl)
        change wpAnyH _ _ _ _ _ _ _ (Act.put _ (some (115 : Nat)) (.int .i64 2)) _
        simp only [Act.put, List.setIfInBounds_toArray, List.set_cons_zero, List.set_cons_succ]
        refine wpAnyH_take (i := 29) (v := (.bool true)) rfl (by kernel_rfl) (by kernel_rfl) (by kernel_rfl) (fun _ _ _ h => h) (Or.inl ⟨by kernel_rfl, fun w hSw => ?_⟩) (by assumption) ?_
        · (try dsimp only at hSw); go_simp <;> (try rfl)
        change wpAnyH _ _ _ _ _ _ _ (Act.put _ (some (116 : Nat)) (.bool true)) _
        simp only [Act.put, List.setIfInBounds_toArray, List.set_cons_zero, List.set_cons_succ]
        refine wpAnyH_take (i := 30) (v := (.bool true)) rfl (by kernel_rfl) (by kernel_rfl) (by kernel_rfl) (fun _ _ _ h => h) (Or.inl ⟨by kernel_rfl, fun w hSw => ?_⟩) (by assumption) ?_
        · (try dsimp only at hSw); go_simp <;> (try rfl)
        change wpAnyH _ _ _ _ _ _ _ (Act.put _ (some (117 : Nat)) (.bool true)) _
        simp only [Act.put, List.setIfInBounds_toArray, List.set_cons_zero, List.set_cons_succ]
        refine wpAnyH_take (i := 31) (v := (.bool true)) rfl (by kernel_rfl) (by kernel_rfl) (by kernel_rfl) (fun _ _ _ h => h) (Or.inl ⟨by kernel_rfl, fun w hSw => ?_⟩) (by assumption) ?_
        · (try dsimp only at hSw); go_simp <;> (try rfl)
        change wpAnyH _ _ _ _ _ _ _ (Act.put _ (some (118 : Nat)) (.bool true)) _
        simp only [Act.put, List.setIfInBounds_toArray, List.set_cons_zero, List.set_cons_succ]
        refine wpAnyH_take (i := 32) (v := (.pointer (some ⟨v1.heap.size, 2, none⟩))) rfl (by kernel_rfl) (by kernel_rfl) (by kernel_rfl) (fun _ _ _ h => h) (Or.inl ⟨by kernel_rfl, fun w hSw => ?_⟩) (by assumption) ?_
        · (try dsimp only at hSw); go_simp <;> (try rfl)
        change wpAnyH _ _ _ _ _ _ _ (Act.put _ (some (119 : Nat)) (.pointer (some ⟨v1.heap.size, 2, none⟩))) _
        simp only [Act.put, List.setIfInBounds_toArray, List.set_cons_zero, List.set_cons_succ]
        refine wpAnyH_take (i := 33) (v := (.slice (some ⟨g, o1, none⟩) 2 c6)) rfl (by kernel_rfl) (by kernel_rfl) (by kernel_rfl) (fun _ _ _ h => h) (yields_load_at (by kernel_rfl) 22 (.tmp 119) rfl (.pointer (some ⟨v1.heap.size, 2, none⟩)) rfl (.slice (some ⟨g, o1, none⟩) 2 c6) (fun W hW => load_one' (by kernel_rfl) ((G9u.out.through hW).cellAt (i := 2) rfl))) (by assumption) ?_
        change wpAnyH _ _ _ _ _ _ _ (Act.put _ (some (120 : Nat)) (.slice (some ⟨g, o1, none⟩) 2 c6)) _
        simp only [Act.put, List.setIfInBounds_toArray, List.set_cons_zero, List.set_cons_succ]
        refine wpAnyH_take (i := 34) (v := (.pointer (some ⟨g, o1, none⟩))) rfl (by kernel_rfl) (by kernel_rfl) (by kernel_rfl) (fun _ _ _ h => h) (Or.inl ⟨by kernel_rfl, fun w hSw => ?_⟩) (by assumption) ?_
        · (try dsimp only at hSw); go_simp <;> (try rfl)
        change wpAnyH _ _ _ _ _ _ _ (Act.put _ (some (121 : Nat)) (.pointer (some ⟨g, o1, none⟩))) _
        simp only [Act.put, List.setIfInBounds_toArray, List.set_cons_zero, List.set_cons_succ]
        refine wpAnyH_take (i := 35) (v := (.pointer (some ⟨g, o1, none⟩))) rfl (by kernel_rfl) (by kernel_rfl) (by kernel_rfl) (fun _ _ _ h => h) (Or.inl ⟨by kernel_rfl, fun w hSw => ?_⟩) (by assumption) ?_
        · (try dsimp only at hSw); go_simp <;> (try rfl)
        change wpAnyH _ _ _ _ _ _ _ (Act.put _ (some (122 : Nat)) (.pointer (some ⟨g, o1, none⟩))) _
        simp only [Act.put, List.setIfInBounds_toArray, List.set_cons_zero, List.set_cons_succ]
        refine wpAnyH_take (i := 36) (v := (.string (ba s0.nm))) rfl (by kernel_rfl) (by kernel_rfl) (by kernel_rfl) (fun _ _ _ h => h) (yields_load_at (by kernel_rfl) 9 (.tmp 122) rfl (.pointer (some ⟨g, o1, none⟩)) rfl (.string (ba s0.nm)) (fun W hW => load_one' (by kernel_rfl) ((hW.cell (World.block_lt_of_cell? wu _ HR0.out)).trans HR0.out))) (by assumption) ?_
        change wpAnyH _ _ _ _ _ _ _ (Act.put _ (some (123 : Nat)) (.string (ba s0.nm))) _
        simp only [Act.put, List.setIfInBounds_toArray, List.set_cons_zero, List.set_cons_succ]
        refine wpAnyH_take (i := 37) (v := (.pointer (some ⟨v1.heap.size, 2, none⟩))) rfl (by kernel_rfl) (by kernel_rfl) (by kernel_rfl) (fun _ _ _ h => h) (Or.inl ⟨by kernel_rfl, fun w hSw => ?_⟩) (by assumption) ?_
        · (try dsimp only at hSw); go_simp <;> (try rfl)
        change wpAnyH _ _ _ _ _ _ _ (Act.put _ (some (124 : Nat)) (.pointer (some ⟨v1.heap.size, 2, none⟩))) _
        simp only [Act.put, List.setIfInBounds_toArray, List.set_cons_zero, List.set_cons_succ]
        refine wpAnyH_take (i := 38) (v := (.slice (some ⟨g, o1, none⟩) 2 c6)) rfl (by kernel_rfl) (by kernel_rfl) (by kernel_rfl) (fun _ _ _ h => h) (yields_load_at (by kernel_rfl) 22 (.tmp 124) rfl (.pointer (some ⟨v1.heap.size, 2, none⟩)) rfl (.slice (some ⟨g, o1, none⟩) 2 c6) (fun W hW => load_one' (by kernel_rfl) ((G9u.out.through hW).cellAt (i := 2) rfl))) (by assumption) ?_
        change wpAnyH _ _ _ _ _ _ _ (Act.put _ (some (125 : Nat)) (.slice (some ⟨g, o1, none⟩) 2 c6)) _
        simp only [Act.put, List.setIfInBounds_toArray, List.set_cons_zero, List.set_cons_succ]
        refine wpAnyH_take (i := 39) (v := (.pointer (some ⟨g, o1 + 6, none⟩))) rfl (by kernel_rfl) (by kernel_rfl) (by kernel_rfl) (fun _ _ _ h => h) (Or.inl ⟨by kernel_rfl, fun w hSw => ?_⟩) (by assumption) ?_
        · (try dsimp only at hSw); go_simp <;> (try rfl)
        change wpAnyH _ _ _ _ _ _ _ (Act.put _ (some (126 : Nat)) (.pointer (some ⟨g, o1 + 6, none⟩))) _
        simp only [Act.put, List.setIfInBounds_toArray, List.set_cons_zero, List.set_cons_succ]
        refine wpAnyH_take (i := 40) (v := (.pointer (some ⟨g, o1 + 6, none⟩))) rfl (by kernel_rfl) (by kernel_rfl) (by kernel_rfl) (fun _ _ _ h => h) (Or.inl ⟨by kernel_rfl, fun w hSw => ?_⟩) (by assumption) ?_
        · (try dsimp only at hSw); go_simp <;> (try rfl)
        change wpAnyH _ _ _ _ _ _ _ (Act.put _ (some (127 : Nat)) (.pointer (some ⟨g, o1 + 6, none⟩))) _
        simp only [Act.put, List.setIfInBounds_toArray, List.set_cons_zero, List.set_cons_succ]
        refine wpAnyH_take (i := 41) (v := (.string (ba s1.nm))) rfl (by kernel_rfl) (by kernel_rfl) (by kernel_rfl) (fun _ _ _ h => h) (yields_load_at (by kernel_rfl) 9 (.tmp 127) rfl (.pointer (some ⟨g, o1 + 6, none⟩)) rfl (.string (ba s1.nm)) (fun W hW => load_one' (by kernel_rfl) ((hW.cell (World.block_lt_of_cell? wu _ HR1.out)).trans HR1.out))) (by assumption) ?_
        change wpAnyH _ _ _ _ _ _ _ (Act.put _ (some (128 : Nat)) (.string (ba s1.nm))) _
        simp only [Act.put, List.setIfInBounds_toArray, List.set_cons_zero, List.set_cons_succ]
        refine wpAnyH_take (i := 42) (v := (.bool true)) rfl (by kernel_rfl) (by kernel_rfl) (by kernel_rfl) (fun _ _ _ h => h) (Or.inl ⟨by kernel_rfl, fun w hSw => ?_⟩) (by assumption) ?_
        · (try dsimp only at hSw); go_simp <;> (try rfl)
        change wpAnyH _ _ _ _ _ _ _ (Act.put _ (some (129 : Nat)) (.bool true)) _
        simp only [Act.put, List.setIfInBounds_toArray, List.set_cons_zero, List.set_cons_succ]
        refine wpAnyH_take (i := 43) (v := (.bool true)) rfl (by kernel_rfl) (by kernel_rfl) (by kernel_rfl) (fun _ _ _ h => h) (Or.inl ⟨by kernel_rfl, fun w hSw => ?_⟩) (by assumption) ?_
        · (try dsimp only at hSw); go_simp <;> (try rfl)
        change wpAnyH _ _ _ _ _ _ _ (Act.put _ (some (130 : Nat)) (.bool true)) _
        simp only [Act.put, List.setIfInBounds_toArray, List.set_cons_zero, List.set_cons_succ]
        refine wpAnyH_take (i := 44) (v := (.bool true)) rfl (by kernel_rfl) (by kernel_rfl) (by kernel_rfl) (fun _ _ _ h => h) (Or.inl ⟨by kernel_rfl, fun w hSw => ?_⟩) (by assumption) ?_
        · (try dsimp only at hSw); go_simp <;> (try rfl)
        change wpAnyH _ _ _ _ _ _ _ (Act.put _ (some (131 : Nat)) (.bool true)) _
        simp only [Act.put, List.setIfInBounds_toArray, List.set_cons_zero, List.set_cons_succ]
        refine wpAnyH_take (i := 45) (v := (.pointer (some ⟨v1.heap.size, 3, none⟩))) rfl (by kernel_rfl) (by kernel_rfl) (by kernel_rfl) (fun _ _ _ h => h) (Or.inl ⟨by kernel_rfl, fun w hSw => ?_⟩) (by assumption) ?_
        · (try dsimp only at hSw); go_simp <;> (try rfl)
        change wpAnyH _ _ _ _ _ _ _ (Act.put _ (some (132 : Nat)) (.pointer (some ⟨v1.heap.size, 3, none⟩))) _
        simp only [Act.put, List.setIfInBounds_toArray, List.set_cons_zero, List.set_cons_succ]
        refine wpAnyH_take (i := 46) (v := (.slice (some ⟨h_, p1, none⟩) 2 d6)) rfl (by kernel_rfl) (by kernel_rfl) (by kernel_rfl) (fun _ _ _ h => h) (yields_load_at (by kernel_rfl) 23 (.tmp 132) rfl (.pointer (some ⟨v1.heap.size, 3, none⟩)) rfl (.slice (some ⟨h_, p1, none⟩) 2 d6) (fun W hW => load_one' (by kernel_rfl) ((G9u.out.through hW).cellAt (i := 3) rfl))) (by assumption) ?_
        change wpAnyH _ _ _ _ _ _ _ (Act.put _ (some (133 : Nat)) (.slice (some ⟨h_, p1, none⟩) 2 d6)) _
        simp only [Act.put, List.setIfInBounds_toArray, List.set_cons_zero, List.set_cons_succ]
        refine wpAnyH_take (i := 47) (v := (.pointer (some ⟨h_, p1, none⟩))) rfl (by kernel_rfl) (by kernel_rfl) (by kernel_rfl) (fun _ _ _ h => h) (Or.inl ⟨by kernel_rfl, fun w hSw => ?_⟩) (by assumption) ?_
        · (try dsimp only at hSw); go_simp <;> (try rfl)
        change wpAnyH _ _ _ _ _ _ _ (Act.put _ (some (134 : Nat)) (.pointer (some ⟨h_, p1, none⟩))) _
        simp only [Act.put, List.setIfInBounds_toArray, List.set_cons_zero, List.set_cons_succ]
        refine wpAnyH_take (i := 48) (v := (.pointer (some ⟨h_, p1, none⟩))) rfl (by kernel_rfl) (by kernel_rfl) (by kernel_rfl) (fun _ _ _ h => h) (Or.inl ⟨by kernel_rfl, fun w hSw => ?_⟩) (by assumption) ?_
        · (try dsimp only at hSw); go_simp <;> (try rfl)
        change wpAnyH _ _ _ _ _ _ _ (Act.put _ (some (135 : Nat)) (.pointer (some ⟨h_, p1, none⟩))) _
        simp only [Act.put, List.setIfInBounds_toArray, List.set_cons_zero, List.set_cons_succ]
        refine wpAnyH_take (i := 49) (v := (.int .i64 q0.cl)) rfl (by kernel_rfl) (by kernel_rfl) (by kernel_rfl) (fun _ _ _ h => h) (yields_load_at (by kernel_rfl) 3 (.tmp 135) rfl (.pointer (some ⟨h_, p1, none⟩)) rfl (.int .i64 q0.cl) (fun W hW => load_one' (by kernel_rfl) ((hW.cell (World.block_lt_of_cell? wu _ HQ0.out)).trans HQ0.out))) (by assumption) ?_
        change wpAnyH _ _ _ _ _ _ _ (Act.put _ (some (136 : Nat)) (.int .i64 q0.cl)) _
        simp only [Act.put, List.setIfInBounds_toArray, List.set_cons_zero, List.set_cons_succ]
        refine wpAnyH_take (i := 50) (v := (.pointer (some ⟨v1.heap.size, 3, none⟩))) rfl (by kernel_rfl) (by kernel_rfl) (by kernel_rfl) (fun _ _ _ h => h) (Or.inl ⟨by kernel_rfl, fun w hSw => ?_⟩) (by assumption) ?_
        · (try dsimp only at hSw); go_simp <;> (try rfl)
        change wpAnyH _ _ _ _ _ _ _ (Act.put _ (some (137 : Nat)) (.pointer (some ⟨v1.heap.size, 3, none⟩))) _
        simp only [Act.put, List.setIfInBounds_toArray, List.set_cons_zero, List.set_cons_succ]
        refine wpAnyH_take (i := 51) (v := (.slice (some ⟨h_, p1, none⟩) 2 d6)) rfl (by kernel_rfl) (by kernel_rfl) (by kernel_rfl) (fun _ _ _ h => h) (yields_load_at (by kernel_rfl) 23 (.tmp 137) rfl (.pointer (some ⟨v1.heap.size, 3, none⟩)) rfl (.slice (some ⟨h_, p1, none⟩) 2 d6) (fun W hW => load_one' (by kernel_rfl) ((G9u.out.through hW).cellAt (i := 3) rfl))) (by assumption) ?_
        change wpAnyH _ _ _ _ _ _ _ (Act.put _ (some (138 : Nat)) (.slice (some ⟨h_, p1, none⟩) 2 d6)) _
        simp only [Act.put, List.setIfInBounds_toArray, List.set_cons_zero, List.set_cons_succ]
        refine wpAnyH_take (i := 52) (v := (.pointer (some ⟨h_, p1 + 3, none⟩))) rfl (by kernel_rfl) (by kernel_rfl) (by kernel_rfl) (fun _ _ _ h => h) (Or.inl ⟨by kernel_rfl, fun w hSw => ?_⟩) (by assumption) ?_
        · (try dsimp only at hSw); go_simp <;> (try rfl)
        change wpAnyH _ _ _ _ _ _ _ (Act.put _ (some (139 : Nat)) (.pointer (some ⟨h_, p1 + 3, none⟩))) _
        simp only [Act.put, List.setIfInBounds_toArray, List.set_cons_zero, List.set_cons_succ]
        refine wpAnyH_take (i := 53) (v := (.pointer (some ⟨h_, p1 + 3, none⟩))) rfl (by kernel_rfl) (by kernel_rfl) (by kernel_rfl) (fun _ _ _ h => h) (Or.inl ⟨by kernel_rfl, fun w hSw => ?_⟩) (by assumption) ?_
        · (try dsimp only at hSw); go_simp <;> (try rfl)
        change wpAnyH _ _ _ _ _ _ _ (Act.put _ (some (140 : Nat)) (.pointer (some ⟨h_, p1 + 3, none⟩))) _
        simp only [Act.put, List.setIfInBounds_toArray, List.set_cons_zero, List.set_cons_succ]
        refine wpAnyH_take (i := 54) (v := (.int .i64 q1.cl)) rfl (by kernel_rfl) (by kernel_rfl) (by kernel_rfl) (fun _ _ _ h => h) (yields_load_at (by kernel_rfl) 3 (.tmp 140) rfl (.pointer (some ⟨h_, p1 + 3, none⟩)) rfl (.int .i64 q1.cl) (fun W hW => load_one' (by kernel_rfl) ((hW.cell (World.block_lt_of_cell? wu _ HQ1.out)).trans HQ1.out))) (by assumption) ?_
        change wpAnyH _ _ _ _ _ _ _ (Act.put _ (some (141 : Nat)) (.int .i64 q1.cl)) _
        simp only [Act.put, List.setIfInBounds_toArray, List.set_cons_zero, List.set_cons_succ]
        refine wpAnyH_take (i := 55) (v := (.bool true)) rfl (by kernel_rfl) (by kernel_rfl) (by kernel_rfl) (fun _ _ _ h => h) (Or.inl ⟨by kernel_rfl, fun w hSw => ?_⟩) (by assumption) ?_
        · (try dsimp only at hSw); go_simp <;> (try rfl)
        change wpAnyH _ _ _ _ _ _ _ (Act.put _ (some (142 : Nat)) (.bool true)) _
        simp only [Act.put, List.setIfInBounds_toArray, List.set_cons_zero, List.set_cons_succ]
        refine wpAnyH_take (i := 56) (v := (.bool true)) rfl (by kernel_rfl) (by kernel_rfl) (by kernel_rfl) (fun _ _ _ h => h) (Or.inl ⟨by kernel_rfl, fun w hSw => ?_⟩) (by assumption) ?_
        · (try dsimp only at hSw); go_simp <;> (try rfl)
        change wpAnyH _ _ _ _ _ _ _ (Act.put _ (some (143 : Nat)) (.bool true)) _
        simp only [Act.put, List.setIfInBounds_toArray, List.set_cons_zero, List.set_cons_succ]
        refine wpAnyH_take (i := 57) (v := (.bool true)) rfl (by kernel_rfl) (by kernel_rfl) (by kernel_rfl) (fun _ _ _ h => h) (Or.inl ⟨by kernel_rfl, fun w hSw => ?_⟩) (by assumption) ?_
        · (try dsimp only at hSw); go_simp <;> (try rfl)
        change wpAnyH _ _ _ _ _ _ _ (Act.put _ (some (8 : Nat)) (.bool true)) _
        simp only [Act.put, List.setIfInBounds_toArray, List.set_cons_zero, List.set_cons_succ]
        refine wpAnyH_done (by kernel_rfl) ?_ _
        have HXz := Lib.hid (below_step HXu.out hHeld)
        clear hHeld
        go_wp2
        go_ret
        exact ⟨rfl, HXz.out⟩
    · as_aux_lemma =>
      refine step_load_at rfl 25 (.tmp 12) rfl (.pointer (some ⟨v3.heap.size, 0, none⟩)) rfl (.agg #[.int .i64 0, .int .i64 0, .slice A4 2 c4, .slice B4 0 d4]) (G12j.out.loadAt 25 _ Try.underlying25 rfl (by kernel_rfl)) ?_
      refine hK.out _ _ hHeld (fun hHeld1 => ?_)
      clear hHeld hK K
      have hHeld := hHeld1
      clear hHeld1
      change wpAnyH _ _ _ _ _ _ _ (Act.put _ (some (82 : Nat)) (.agg #[.int .i64 0, .int .i64 0, .slice A4 2 c4, .slice B4 0 d4])) _
      simp only [Act.put, List.setIfInBounds_toArray, List.set_cons_zero, List.set_cons_succ]
      refine wpAnyH_ready (rs := [2]) (by kernel_rfl) (by simp) ?_
      refine AllReadyH.cons rfl (fun K hK => ?_) AllReadyH.nil
      go_simp
      refine ((HT1.out _ _ _ _ _ HI2j.out HC2.out.2)).mono ?_
      rintro e v5 ⟨A5, n5, c5, B5, m5, d5, rfl, hi5, hc5, hd5, hb5⟩; obtain rfl : 2 = n5 := hi5.len.1; obtain rfl : 1 = m5 := hi5.len.2; have HC5 := Lib.hid (And.intro hc5 hd5); have HKp := Lib.hid hb5; have G9p := Lib.hid (G9j.out.through hb5); have G12p := Lib.hid (G12j.out.through hb5); have HI4p := Lib.hid (HI4j.out.through hb5); have HI5p := Lib.hid hi5; clear hi5 hb5 hc5 hd5
      go_wp2_with fail
      refine hK.out _ _ ⟨below_step hHeld.1 HKp.out, hHeld.2.1.through HKp.out, hHeld.2.2.through HKp.out⟩ (fun hHeld1 => ?_)
      clear hHeld hK K
      have hHeld := hHeld1
      clear hHeld1
      refine wpAnyH_ready (rs := [4]) (by kernel_rfl) (by simp) ?_
      refine AllReadyH.cons rfl (fun K hK => ?_) AllReadyH.nil
      go_simp
      refine ((HT2.out _ _ _ _ _ HI5p.out HC5.out.2)).mono ?_
      rintro e v6 ⟨A6, n6, c6, B6, m6, d6, rfl, hi6, hc6, hd6, hb6⟩; obtain rfl : 2 = n6 := hi6.len.1; obtain rfl : 2 = m6 := hi6.len.2; have HC6 := Lib.hid (And.intro hc6 hd6); have HKq := Lib.hid hb6; have G9q := Lib.hid (G9p.out.through hb6); have G12q := Lib.hid (G12p.out.through hb6); have HI4q := Lib.hid (HI4p.out.through hb6); have HI6q := Lib.hid hi6; clear hi6 hb6 hc6 hd6
      go_wp2_with fail
      refine hK.out _ _ ⟨below_step hHeld.1 HKq.out, hHeld.2.1.through HKq.out, hHeld.2.2.through HKq.out⟩ (fun hHeld1 => ?_)
      clear hHeld hK K
      have hHeld := hHeld1
      clear hHeld1
      refine wpAnyH_ready (rs := [7]) (by kernel_rfl) (by simp) ?_
      refine AllReadyH.cons rfl (fun K hK => ?_) AllReadyH.nil
      go_simp
      refine ((HT3.out _ _ _ _ _ HI4q.out HC4.out.2)).mono ?_
      rintro e v7 ⟨A7, n7, c7, B7, m7, d7, rfl, hi7, hc7, hd7, hb7⟩; obtain rfl : 2 = n7 := hi7.len.1; obtain rfl : 1 = m7 := hi7.len.2; have HC7 := Lib.hid (And.intro hc7 hd7); have HKr := Lib.hid hb7; have G9r := Lib.hid (G9q.out.through hb7); have G12r := Lib.hid (G12q.out.through hb7); have HI6r := Lib.hid (HI6q.out.through hb7); have HI7r := Lib.hid hi7; clear hi7 hb7 hc7 hd7
      go_wp2_with fail
      refine hK.out _ _ ⟨below_step hHeld.1 HKr.out, hHeld.2.1.through HKr.out, hHeld.2.2.through HKr.out⟩ (fun hHeld1 => ?_)
      clear hHeld hK K
      have hHeld := hHeld1
      clear hHeld1
      refine wpAnyH_ready (rs := [9]) (by kernel_rfl) (by simp) ?_
      refine AllReadyH.cons rfl (fun K hK => ?_) AllReadyH.nil
      go_simp
      refine ((HT4.out _ _ _ _ _ HI7r.out HC7.out.2)).mono ?_
      rintro e v8 ⟨A8, n8, c8, B8, m8, d8, rfl, hi8, hc8, hd8, hb8⟩; obtain rfl : 2 = n8 := hi8.len.1; obtain rfl : 2 = m8 := hi8.len.2; have HC8 := Lib.hid (And.intro hc8 hd8); have HKs := Lib.hid hb8; have G9s := Lib.hid (G9r.out.through hb8); have G12s := Lib.hid (G12r.out.through hb8); have HI6s := Lib.hid (HI6r.out.through hb8); have HI8s := Lib.hid hi8; clear hi8 hb8 hc8 hd8
      go_wp2_with fail
      refine hK.out _ _ ⟨below_step hHeld.1 HKs.out, hHeld.2.1.through HKs.out, hHeld.2.2.through HKs.out⟩ (fun hHeld1 => ?_)
      clear hHeld hK K
      have hHeld := hHeld1
      clear hHeld1
      refine wpAnyH_ready (rs := [10]) (by kernel_rfl) (by simp) ?_
      refine AllReadyH.cons (o := ⟨none, .store 25 (.tmp 9) (.tmp 81), _, _, _, none⟩) rfl (fun K hK => ?_) AllReadyH.nil
      refine step_store_blk rfl 25 (.tmp 9) (.tmp 81) rfl v1.heap.size [.int .i64 0, .int .i64 0, .slice A6 2 c6, .slice B6 2 d6] rfl rfl 25 [.int .i64 0, .int .i64 0, .slice A2 2 c2, .slice B2 0 d2] G9s.out (by kernel_rfl) rfl (one4 _ _ _ _ _ _ _ _) ?_; intro wt hbt hgt; have G9t := Lib.hid hbt; have HGt := Lib.hid hgt; have G12t := Lib.hid (G12s.out.grown hgt (fun e9 => by have := Option.some.inj e9; have := Z12.out; omega)); have HI6t := Lib.hid (HI6s.out.stored G9s.out hgt); have HI8t := Lib.hid (HI8s.out.stored G9s.out hgt); clear hbt hgt
      refine hK.out _ _ ⟨hHeld.1.grown HGt.out hHeld.1.size (fun k hk => by have := Option.some.inj hk; have := Z9.out; omega), hHeld.2.1.grown HGt.out (fun e9 => by have := Option.some.inj e9; have := Z9.out; omega), hHeld.2.2.grown HGt.out (fun e9 => by have := Option.some.inj e9; have := Z9.out; omega)⟩ (fun hHeld1 => ?_)
      clear hHeld hK K
      have hHeld := hHeld1
      clear hHeld1
      change wpAnyH _ _ _ _ _ _ _ (Act.put _ none undef) _
      simp only [Act.put]
      refine wpAnyH_ready (rs := [11]) (by kernel_rfl) (by simp) ?_
      refine AllReadyH.cons (o := ⟨none, .store 25 (.tmp 12) (.tmp 86), _, _, _, none⟩) rfl (fun K hK => ?_) AllReadyH.nil
      refine step_store_blk rfl 25 (.tmp 12) (.tmp 86) rfl v3.heap.size [.int .i64 0, .int .i64 0, .slice A8 2 c8, .slice B8 2 d8] rfl rfl 25 [.int .i64 0, .int .i64 0, .slice A4 2 c4, .slice B4 0 d4] G12t.out (by kernel_rfl) rfl (one4 _ _ _ _ _ _ _ _) ?_; intro wu hbu hgu; have G12u := Lib.hid hbu; have HGu := Lib.hid hgu; have G9u := Lib.hid (G9t.out.grown hgu (fun e9 => by have := Option.some.inj e9; have := Z12.out; omega)); have HI6u := Lib.hid (HI6t.out.stored G12t.out hgu); have HI8u := Lib.hid (HI8t.out.stored G12t.out hgu); clear hbu hgu
      refine hK.out _ _ ⟨hHeld.1.grown HGu.out hHeld.1.size (fun k hk => by have := Option.some.inj hk; have := Z12b.out; omega), hHeld.2.1.grown HGu.out (fun e9 => by have := Option.some.inj e9; have := Z12b.out; omega), hHeld.2.2.grown HGu.out (fun e9 => by have := Option.some.inj e9; have := Z12b.out; omega)⟩ (fun hHeld1 => ?_)
      clear hHeld hK K
      have hHeld := hHeld1
      clear hHeld1
      change wpAnyH _ _ _ _ _ _ _ (Act.put _ none undef) _
      simp only [Act.put]
      refine wpAnyH_done (by kernel_rfl) ?_ _
      have HXu := Lib.hid hHeld.1
      clear hHeld
      go_wp2
      try dsimp only [Act.put]
      obtain ⟨g, o1, x0, hA, hx0, _, _, hr0⟩ := HI6u.out.lt_at (i := 0) (by omega)
      obtain ⟨g1, o2, x1, hA1, hx1, _, _, hr1⟩ := HI6u.out.lt_at (i := 1) (by omega)
      subst hA
      obtain ⟨rfl, rfl⟩ : g = g1 ∧ o1 = o2 := by simpa using hA1
      obtain rfl : s0 = x0 := Option.some.inj hx0
      obtain rfl : s1 = x1 := Option.some.inj hx1
      obtain ⟨h_, p1, y0, hB, hy0, _, _, hq0⟩ := HI6u.out.oc_at (i := 0) (by omega)
      obtain ⟨h1_, p2, y1, hB1, hy1, _, _, hq1⟩ := HI6u.out.oc_at (i := 1) (by omega)
      subst hB
      obtain ⟨rfl, rfl⟩ : h_ = h1_ ∧ p1 = p2 := by simpa using hB1
      obtain rfl : q0 = y0 := Option.some.inj hy0
      obtain rfl : q1 = y1 := Option.some.inj hy1
      have HR0 : Hid (wu.cell? ⟨g, o1, none⟩ = some (.string (ba s0.nm))) := Lib.hid (by have h9 := hr0 0 _ rfl; simpa using h9)
      have HR1 : Hid (wu.cell? ⟨g, o1 + 6, none⟩ = some (.string (ba s1.nm))) := Lib.hid (by have h9 := hr1 0 _ rfl; simpa using h9)
      have HQ0 : Hid (wu.cell? ⟨h_, p1, none⟩ = some (.int .i64 q0.cl)) := Lib.hid (by have h9 := hq0 0 _ rfl; simpa using h9)
      have HQ1 : Hid (wu.cell? ⟨h_, p1 + 3, none⟩ = some (.int .i64 q1.cl)) := Lib.hid (by have h9 := hq1 0 _ rfl; simpa using h9)
      have hi0 := fun W : World => Try.ix_lt W g o1 2 c6 0 (by omega)
      have hi1 := fun W : World => Try.ix_lt W g o1 2 c6 1 (by omega)
      have hj0 := fun W : World => Try.ix_oc W h_ p1 2 d6 0 (by omega)
      have hj1 := fun W : World => Try.ix_oc W h_ p1 2 d6 1 (by omega)
      simp only [Nat.zero_mul, Nat.one_mul, Nat.add_zero, Int.cast_ofNat_Int] at hi0 hi1 hj0 hj1
      clear hr0 hr1 hq0 hq1 hx0 hx1 hy0 hy1 hA1 hB1
      refine wp_region_held_drew (S := fun W => Below wu.heap.size wu W) (by kernel_rfl) (Below.refl _ _).drew (fun hHeld => ?_)
      change wpAnyH _ _ _ _ _ _ #[false, false, false, false, false, false, false, false, false, false, false, false, false, false, false, false, false, false, false, false, false, false, false, false, false, false, false, false, false, false, false, false, false, false, false, false, false, false, false, false, false, false, false, false, false, false, false, false, false, false, false, false, false, false, false, false, false, false] _ _
      refine wpAnyH_take (i := 0) (v := (.int .i64 0)) rfl (by kernel_rfl) (by kernel_rfl) (by kernel_rfl) (fun _ _ _ h => h) (Or.inl ⟨by kernel_rfl, fun w hSw => ?_⟩) (by assumption) ?_
      · (try dsimp only at hSw); go_simp <;> (try rfl)
      change wpAnyH _ _ _ _ _ _ _ (Act.put _ (some (87 : Nat)) (.int .i64 0)) _
      simp only [Act.put, List.setIfInBounds_toArray, List.set_cons_zero, List.set_cons_succ]
      refine wpAnyH_take (i := 1) (v := (.bool true)) rfl (by kernel_rfl) (by kernel_rfl) (by kernel_rfl) (fun _ _ _ h => h) (Or.inl ⟨by kernel_rfl, fun w hSw => ?_⟩) (by assumption) ?_
      · (try dsimp only at hSw); go_simp <;> (try rfl)
      change wpAnyH _ _ _ _ _ _ _ (Act.put _ (some (88 : Nat)) (.bool true)) _
      simp only [Act.put, List.setIfInBounds_toArray, List.set_cons_zero, List.set_cons_succ]
      refine wpAnyH_take (i := 2) (v := (.bool true)) rfl (by kernel_rfl) (by kernel_rfl) (by kernel_rfl) (fun _ _ _ h => h) (Or.inl ⟨by kernel_rfl, fun w hSw => ?_⟩) (by assumption) ?_
      · (try dsimp only at hSw); go_simp <;> (try rfl)
      change wpAnyH _ _ _ _ _ _ _ (Act.put _ (some (89 : Nat)) (.bool true)) _
      simp only [Act.put, List.setIfInBounds_toArray, List.set_cons_zero, List.set_cons_succ]
      refine wpAnyH_take (i := 3) (v := (.int .i64 0)) rfl (by kernel_rfl) (by kernel_rfl) (by kernel_rfl) (fun _ _ _ h => h) (Or.inl ⟨by kernel_rfl, fun w hSw => ?_⟩) (by assumption) ?_
      · (try dsimp only at hSw); go_simp <;> (try rfl)
      change wpAnyH _ _ _ _ _ _ _ (Act.put _ (some (90 : Nat)) (.int .i64 0)) _
      simp only [Act.put, List.setIfInBounds_toArray, List.set_cons_zero, List.set_cons_succ]
      refine wpAnyH_take (i := 4) (v := (.bool true)) rfl (by kernel_rfl) (by kernel_rfl) (by kernel_rfl) (fun _ _ _ h => h) (Or.inl ⟨by kernel_rfl, fun w hSw => ?_⟩) (by assumption) ?_
      · (try dsimp only at hSw); go_simp <;> (try rfl)
      change wpAnyH _ _ _ _ _ _ _ (Act.put _ (some (91 : Nat)) (.bool true)) _
      simp only [Act.put, List.setIfInBounds_toArray, List.set_cons_zero, List.set_cons_succ]
      refine wpAnyH_take (i := 5) (v := (.bool true)) rfl (by kernel_rfl) (by kernel_rfl) (by kernel_rfl) (fun _ _ _ h => h) (Or.inl ⟨by kernel_rfl, fun w hSw => ?_⟩) (by assumption) ?_
      · (try dsimp only at hSw); go_simp <;> (try rfl)
      change wpAnyH _ _ _ _ _ _ _ (Act.put _ (some (92 : Nat)) (.bool true)) _
      simp only [Act.put, List.setIfInBounds_toArray, List.set_cons_zero, List.set_cons_succ]
      refine wpAnyH_take (i := 6) (v := (.bool true)) rfl (by kernel_rfl) (by kernel_rfl) (by kernel_rfl) (fun _ _ _ h => h) (Or.inl ⟨by kernel_rfl, fun w hSw => ?_⟩) (by assumption) ?_
      · (try dsimp only at hSw); go_simp <;> (try rfl)
      change wpAnyH _ _ _ _ _ _ _ (Act.put _ (some (93 : Nat)) (.bool true)) _
      simp only [Act.put, List.setIfInBounds_toArray, List.set_cons_zero, List.set_cons_succ]
      refine wpAnyH_take (i := 7) (v := (.int .i64 0)) rfl (by kernel_rfl) (by kernel_rfl) (by kernel_rfl) (fun _ _ _ h => h) (Or.inl ⟨by kernel_rfl, fun w hSw => ?_⟩) (by assumption) ?_
      · (try dsimp only at hSw); go_simp <;> (try rfl)
      change wpAnyH _ _ _ _ _ _ _ (Act.put _ (some (94 : Nat)) (.int .i64 0)) _
      simp only [Act.put, List.setIfInBounds_toArray, List.set_cons_zero, List.set_cons_succ]
      refine wpAnyH_take (i := 8) (v := (.bool true)) rfl (by kernel_rfl) (by kernel_rfl) (by kernel_rfl) (fun _ _ _ h => h) (Or.inl ⟨by kernel_rfl, fun w hSw => ?_⟩) (by assumption) ?_
      · (try dsimp only at hSw); go_simp <;> (try rfl)
      change wpAnyH _ _ _ _ _ _ _ (Act.put _ (some (95 : Nat)) (.bool true)) _
      simp only [Act.put, List.setIfInBounds_toArray, List.set_cons_zero, List.set_cons_succ]
      refine wpAnyH_take (i := 9) (v := (.bool true)) rfl (by kernel_rfl) (by kernel_rfl) (by kernel_rfl) (fun _ _ _ h => h) (Or.inl ⟨by kernel_rfl, fun w hSw => ?_⟩) (by assumption) ?_
      · (try dsimp only at hSw); go_simp <;> (try rfl)
      change wpAnyH _ _ _ _ _ _ _ (Act.put _ (some (96 : Nat)) (.bool true)) _
      simp only [Act.put, List.setIfInBounds_toArray, List.set_cons_zero, List.set_cons_succ]
      refine wpAnyH_take (i := 10) (v := (.bool true)) rfl (by kernel_rfl) (by kernel_rfl) (by kernel_rfl) (fun _ _ _ h => h) (Or.inl ⟨by kernel_rfl, fun w hSw => ?_⟩) (by assumption) ?_
      · (try dsimp only at hSw); go_simp <;> (try rfl)
      change wpAnyH _ _ _ _ _ _ _ (Act.put _ (some (97 : Nat)) (.bool true)) _
      simp only [Act.put, List.setIfInBounds_toArray, List.set_cons_zero, List.set_cons_succ]
      refine wpAnyH_take (i := 11) (v := (.int .i64 0)) rfl (by kernel_rfl) (by kernel_rfl) (by kernel_rfl) (fun _ _ _ h => h) (Or.inl ⟨by kernel_rfl, fun w hSw => ?_⟩) (by assumption) ?_
      · (try dsimp only at hSw); go_simp <;> (try rfl)
      change wpAnyH _ _ _ _ _ _ _ (Act.put _ (some (98 : Nat)) (.int .i64 0)) _
      simp only [Act.put, List.setIfInBounds_toArray, List.set_cons_zero, List.set_cons_succ]
      refine wpAnyH_take (i := 12) (v := (.bool true)) rfl (by kernel_rfl) (by kernel_rfl) (by kernel_rfl) (fun _ _ _ h => h) (Or.inl ⟨by kernel_rfl, fun w hSw => ?_⟩) (by assumption) ?_
      · (try dsimp only at hSw); go_simp <;> (try rfl)
      change wpAnyH _ _ _ _ _ _ _ (Act.put _ (some (99 : Nat)) (.bool true)) _
      simp only [Act.put, List.setIfInBounds_toArray, List.set_cons_zero, List.set_cons_succ]
      refine wpAnyH_take (i := 13) (v := (.bool true)) rfl (by kernel_rfl) (by kernel_rfl) (by kernel_rfl) (fun _ _ _ h => h) (Or.inl ⟨by kernel_rfl, fun w hSw => ?_⟩) (by assumption) ?_
      · (try dsimp only at hSw); go_simp <;> (try rfl)
      change wpAnyH _ _ _ _ _ _ _ (Act.put _ (some (100 : Nat)) (.bool true)) _
      simp only [Act.put, List.setIfInBounds_toArray, List.set_cons_zero, List.set_cons_succ]
      refine wpAnyH_take (i := 14) (v := (.bool true)) rfl (by kernel_rfl) (by kernel_rfl) (by kernel_rfl) (fun _ _ _ h => h) (Or.inl ⟨by kernel_rfl, fun w hSw => ?_⟩) (by assumption) ?_
      · (try dsimp only at hSw); go_simp <;> (try rfl)
      change wpAnyH _ _ _ _ _ _ _ (Act.put _ (some (101 : Nat)) (.bool true)) _
      simp only [Act.put, List.setIfInBounds_toArray, List.set_cons_zero, List.set_cons_succ]
      refine wpAnyH_take (i := 15) (v := (.agg #[.int .i64 0, .int .i64 0, .slice (some ⟨g, o1, none⟩) 2 c6, .slice (some ⟨h_, p1, none⟩) 2 d6])) rfl (by kernel_rfl) (by kernel_rfl) (by kernel_rfl) (fun _ _ _ h => h) (yields_load_at (by kernel_rfl) 25 (.tmp 9) rfl (.pointer (some ⟨v1.heap.size, 0, none⟩)) rfl (.agg #[.int .i64 0, .int .i64 0, .slice (some ⟨g, o1, none⟩) 2 c6, .slice (some ⟨h_, p1, none⟩) 2 d6]) (fun W hW => (G9u.out.through hW).loadAt 25 _ Try.underlying25 rfl (by kernel_rfl))) (by assumption) ?_
      change wpAnyH _ _ _ _ _ _ _ (Act.put _ (some (102 : Nat)) (.agg #[.int .i64 0, .int .i64 0, .slice (some ⟨g, o1, none⟩) 2 c6, .slice (some ⟨h_, p1, none⟩) 2 d6])) _
      simp only [Act.put, List.setIfInBounds_toArray, List.set_cons_zero, List.set_cons_succ]
      refine wpAnyH_take (i := 16) (v := (.agg #[.int .i64 0, .int .i64 0, .slice A8 2 c8, .slice B8 2 d8])) rfl (by kernel_rfl) (by kernel_rfl) (by kernel_rfl) (fun _ _ _ h => h) (yields_load_at (by kernel_rfl) 25 (.tmp 12) rfl (.pointer (some ⟨v3.heap.size, 0, none⟩)) rfl (.agg #[.int .i64 0, .int .i64 0, .slice A8 2 c8, .slice B8 2 d8]) (fun W hW => (G12u.out.through hW).loadAt 25 _ Try.underlying25 rfl (by kernel_rfl))) (by assumption) ?_
      change wpAnyH _ _ _ _ _ _ _ (Act.put _ (some (103 : Nat)) (.agg #[.int .i64 0, .int .i64 0, .slice A8 2 c8, .slice B8 2 d8])) _
      simp only [Act.put, List.setIfInBounds_toArray, List.set_cons_zero, List.set_cons_succ]
      refine wpAnyH_ready (rs := [17]) (by kernel_rfl) (by simp) ?_
      refine AllReadyH.cons rfl (fun K hK => ?_) AllReadyH.nil
      go_simp
      refine ((HSm.out _ _ _ _ _ _ _ _ _ (HI6u.out.through hHeld) (HI8u.out.through hHeld))).mono ?_
      rintro e wx ⟨rfl, hbx⟩; have HKx := Lib.hid hbx; clear hbx
      go_wp2_with fail
      refine hK.out _ _ (below_step hHeld HKx.out) (fun hHeld1 => ?_)
      clear hHeld hK K
      have hHeld := hHeld1
      clear hHeld1
      refine wpAnyH_take (i := 18) (v := (.bool true)) rfl (by kernel_rfl) (by kernel_rfl) (by kernel_rfl) (fun _ _ _ h => h) (Or.inl ⟨by kernel_rfl, fun w hSw => ?_⟩) (by assumption) ?_
      · (try dsimp only at hSw); go_simp <;> (try rfl)
      change wpAnyH _ _ _ _ _ _ _ (Act.put _ (some (105 : Nat)) (.bool true)) _
      simp only [Act.put, List.setIfInBounds_toArray, List.set_cons_zero, List.set_cons_succ]
      refine wpAnyH_take (i := 19) (v := (.bool true)) rfl (by kernel_rfl) (by kernel_rfl) (by kernel_rfl) (fun _ _ _ h => h) (Or.inl ⟨by kernel_rfl, fun w hSw => ?_⟩) (by assumption) ?_
      · (try dsimp only at hSw); go_simp <;> (try rfl)
      change wpAnyH _ _ _ _ _ _ _ (Act.put _ (some (106 : Nat)) (.bool true)) _
      simp only [Act.put, List.setIfInBounds_toArray, List.set_cons_zero, List.set_cons_succ]
      refine wpAnyH_take (i := 20) (v := (.pointer (some ⟨v1.heap.size, 2, none⟩))) rfl (by kernel_rfl) (by kernel_rfl) (by kernel_rfl) (fun _ _ _ h => h) (Or.inl ⟨by kernel_rfl, fun w hSw => ?_⟩) (by assumption) ?_
      · (try dsimp only at hSw); go_simp <;> (try rfl)
      change wpAnyH _ _ _ _ _ _ _ (Act.put _ (some (107 : Nat)) (.pointer (some ⟨v1.heap.size, 2, none⟩))) _
      simp only [Act.put, List.setIfInBounds_toArray, List.set_cons_zero, List.set_cons_succ]
      refine wpAnyH_take (i := 21) (v := (.slice (some ⟨g, o1, none⟩) 2 c6)) rfl (by kernel_rfl) (by kernel_rfl) (by kernel_rfl) (fun _ _ _ h => h) (yields_load_at (by kernel_rfl) 22 (.tmp 107) rfl (.pointer (some ⟨v1.heap.size, 2, none⟩)) rfl (.slice (some ⟨g, o1, none⟩) 2 c6) (fun W hW => load_one' (by kernel_rfl) ((G9u.out.through hW).cellAt (i := 2) rfl))) (by assumption) ?_
      change wpAnyH _ _ _ _ _ _ _ (Act.put _ (some (108 : Nat)) (.slice (some ⟨g, o1, none⟩) 2 c6)) _
      simp only [Act.put, List.setIfInBounds_toArray, List.set_cons_zero, List.set_cons_succ]
      refine wpAnyH_take (i := 22) (v := (.int .i64 2)) rfl (by kernel_rfl) (by kernel_rfl) (by kernel_rfl) (fun _ _ _ h => h) (Or.inl ⟨by kernel_rfl, fun w hSw => ?_⟩) (by assumption) ?_
      · (try dsimp only at hSw); go_simp <;> (try rfl)
      change wpAnyH _ _ _ _ _ _ _ (Act.put _ (some (109 : Nat)) (.int .i64 2)) _
      simp only [Act.put, List.setIfInBounds_toArray, List.set_cons_zero, List.set_cons_succ]
      refine wpAnyH_take (i := 23) (v := (.bool true)) rfl (by kernel_rfl) (by kernel_rfl) (by kernel_rfl) (fun _ _ _ h => h) (Or.inl ⟨by kernel_rfl, fun w hSw => ?_⟩) (by assumption) ?_
      · (try dsimp only at hSw); go_simp <;> (try rfl)
      change wpAnyH _ _ _ _ _ _ _ (Act.put _ (some (110 : Nat)) (.bool true)) _
      simp only [Act.put, List.setIfInBounds_toArray, List.set_cons_zero, List.set_cons_succ]
      refine wpAnyH_take (i := 24) (v := (.bool true)) rfl (by kernel_rfl) (by kernel_rfl) (by kernel_rfl) (fun _ _ _ h => h) (Or.inl ⟨by kernel_rfl, fun w hSw => ?_⟩) (by assumption) ?_
      · (try dsimp only at hSw); go_simp <;> (try rfl)
      change wpAnyH _ _ _ _ _ _ _ (Act.put _ (some (111 : Nat)) (.bool true)) _
      simp only [Act.put, List.setIfInBounds_toArray, List.set_cons_zero, List.set_cons_succ]
      refine wpAnyH_take (i := 25) (v := (.bool true)) rfl (by kernel_rfl) (by kernel_rfl) (by kernel_rfl) (fun _ _ _ h => h) (Or.inl ⟨by kernel_rfl, fun w hSw => ?_⟩) (by assumption) ?_
      · (try dsimp only at hSw); go_simp <;> (try rfl)
      change wpAnyH _ _ _ _ _ _ _ (Act.put _ (some (112 : Nat)) (.bool true)) _
      simp only [Act.put, List.setIfInBounds_toArray, List.set_cons_zero, List.set_cons_succ]
      refine wpAnyH_take (i := 26) (v := (.pointer (some ⟨v1.heap.size, 3, none⟩))) rfl (by kernel_rfl) (by kernel_rfl) (by kernel_rfl) (fun _ _ _ h => h) (Or.inl ⟨by kernel_rfl, fun w hSw => ?_⟩) (by assumption) ?_
      · (try dsimp only at hSw); go_simp <;> (try rfl)
      change wpAnyH _ _ _ _ _ _ _ (Act.put _ (some (113 : Nat)) (.pointer (some ⟨v1.heap.size, 3, none⟩))) _
      simp only [Act.put, List.setIfInBounds_toArray, List.set_cons_zero, List.set_cons_succ]
      refine wpAnyH_take (i := 27) (v := (.slice (some ⟨h_, p1, none⟩) 2 d6)) rfl (by kernel_rfl) (by kernel_rfl) (by kernel_rfl) (fun _ _ _ h => h) (yields_load_at (by kernel_rfl) 23 (.tmp 113) rfl (.pointer (some ⟨v1.heap.size, 3, none⟩)) rfl (.slice (some ⟨h_, p1, none⟩) 2 d6) (fun W hW => load_one' (by kernel_rfl) ((G9u.out.through hW).cellAt (i := 3) rfl))) (by assumption) ?_
      change wpAnyH _ _ _ _ _ _ _ (Act.put _ (some (114 : Nat)) (.slice (some ⟨h_, p1, none⟩) 2 d6)) _
      simp only [Act.put, List.setIfInBounds_toArray, List.set_cons_zero, List.set_cons_succ]
      refine wpAnyH_take (i := 28) (v := (.int .i64 2)) rfl (by kernel_rfl) (by kernel_rfl) (by kernel_rfl) (fun _ _ _ h => h) (Or.inl ⟨by kernel_rfl, fun w hSw => ?_⟩) (by assumption) ?_
      · (try dsimp only at hSw); go_simp <;> (try rfl)
      change wpAnyH _ _ _ _ _ _ _ (Act.put _ (some (115 : Nat)) (.int .i64 2)) _
      simp only [Act.put, List.setIfInBounds_toArray, List.set_cons_zero, List.set_cons_succ]
      refine wpAnyH_take (i := 29) (v := (.bool true)) rfl (by kernel_rfl) (by kernel_rfl) (by kernel_rfl) (fun _ _ _ h => h) (Or.inl ⟨by kernel_rfl, fun w hSw => ?_⟩) (by assumption) ?_
      · (try dsimp only at hSw); go_simp <;> (try rfl)
      change wpAnyH _ _ _ _ _ _ _ (Act.put _ (some (116 : Nat)) (.bool true)) _
      simp only [Act.put, List.setIfInBounds_toArray, List.set_cons_zero, List.set_cons_succ]
      refine wpAnyH_take (i := 30) (v := (.bool true)) rfl (by kernel_rfl) (by kernel_rfl) (by kernel_rfl) (fun _ _ _ h => h) (Or.inl ⟨by kernel_rfl, fun w hSw => ?_⟩) (by assumption) ?_
      · (try dsimp only at hSw); go_simp <;> (try rfl)
      change wpAnyH _ _ _ _ _ _ _ (Act.put _ (some (117 : Nat)) (.bool true)) _
      simp only [Act.put, List.setIfInBounds_toArray, List.set_cons_zero, List.set_cons_succ]
      refine wpAnyH_take (i := 31) (v := (.bool true)) rfl (by kernel_rfl) (by kernel_rfl) (by kernel_rfl) (fun _ _ _ h => h) (Or.inl ⟨by kernel_rfl, fun w hSw => ?_⟩) (by assumption) ?_
      · (try dsimp only at hSw); go_simp <;> (try rfl)
      change wpAnyH _ _ _ _ _ _ _ (Act.put _ (some (118 : Nat)) (.bool true)) _
      simp only [Act.put, List.setIfInBounds_toArray, List.set_cons_zero, List.set_cons_succ]
      refine wpAnyH_take (i := 32) (v := (.pointer (some ⟨v1.heap.size, 2, none⟩))) rfl (by kernel_rfl) (by kernel_rfl) (by kernel_rfl) (fun _ _ _ h => h) (Or.inl ⟨by kernel_rfl, fun w hSw => ?_⟩) (by assumption) ?_
      · (try dsimp only at hSw); go_simp <;> (try rfl)
      change wpAnyH _ _ _ _ _ _ _ (Act.put _ (some (119 : Nat)) (.pointer (some ⟨v1.heap.size, 2, none⟩))) _
      simp only [Act.put, List.setIfInBounds_toArray, List.set_cons_zero, List.set_cons_succ]
      refine wpAnyH_take (i := 33) (v := (.slice (some ⟨g, o1, none⟩) 2 c6)) rfl (by kernel_rfl) (by kernel_rfl) (by kernel_rfl) (fun _ _ _ h => h) (yields_load_at (by kernel_rfl) 22 (.tmp 119) rfl (.pointer (some ⟨v1.heap.size, 2, none⟩)) rfl (.slice (some ⟨g, o1, none⟩) 2 c6) (fun W hW => load_one' (by kernel_rfl) ((G9u.out.through hW).cellAt (i := 2) rfl))) (by assumption) ?_
      change wpAnyH _ _ _ _ _ _ _ (Act.put _ (some (120 : Nat)) (.slice (some ⟨g, o1, none⟩) 2 c6)) _
      simp only [Act.put, List.setIfInBounds_toArray, List.set_cons_zero, List.set_cons_succ]
      refine wpAnyH_take (i := 34) (v := (.pointer (some ⟨g, o1, none⟩))) rfl (by kernel_rfl) (by kernel_rfl) (by kernel_rfl) (fun _ _ _ h => h) (Or.inl ⟨by kernel_rfl, fun w hSw => ?_⟩) (by assumption) ?_
      · (try dsimp only at hSw); go_simp <;> (try rfl)
      change wpAnyH _ _ _ _ _ _ _ (Act.put _ (some (121 : Nat)) (.pointer (some ⟨g, o1, none⟩))) _
      simp only [Act.put, List.setIfInBounds_toArray, List.set_cons_zero, List.set_cons_succ]
      refine wpAnyH_take (i := 35) (v := (.pointer (some ⟨g, o1, none⟩))) rfl (by kernel_rfl) (by kernel_rfl) (by kernel_rfl) (fun _ _ _ h => h) (Or.inl ⟨by kernel_rfl, fun w hSw => ?_⟩) (by assumption) ?_
      · (try dsimp only at hSw); go_simp <;> (try rfl)
      change wpAnyH _ _ _ _ _ _ _ (Act.put _ (some (122 : Nat)) (.pointer (some ⟨g, o1, none⟩))) _
      simp only [Act.put, List.setIfInBounds_toArray, List.set_cons_zero, List.set_cons_succ]
      refine wpAnyH_take (i := 36) (v := (.string (ba s0.nm))) rfl (by kernel_rfl) (by kernel_rfl) (by kernel_rfl) (fun _ _ _ h => h) (yields_load_at (by kernel_rfl) 9 (.tmp 122) rfl (.pointer (some ⟨g, o1, none⟩)) rfl (.string (ba s0.nm)) (fun W hW => load_one' (by kernel_rfl) ((hW.cell (World.block_lt_of_cell? wu _ HR0.out)).trans HR0.out))) (by assumption) ?_
      change wpAnyH _ _ _ _ _ _ _ (Act.put _ (some (123 : Nat)) (.string (ba s0.nm))) _
      simp only [Act.put, List.setIfInBounds_toArray, List.set_cons_zero, List.set_cons_succ]
      refine wpAnyH_take (i := 37) (v := (.pointer (some ⟨v1.heap.size, 2, none⟩))) rfl (by kernel_rfl) (by kernel_rfl) (by kernel_rfl) (fun _ _ _ h => h) (Or.inl ⟨by kernel_rfl, fun w hSw => ?_⟩) (by assumption) ?_
      · (try dsimp only at hSw); go_simp <;> (try rfl)
      change wpAnyH _ _ _ _ _ _ _ (Act.put _ (some (124 : Nat)) (.pointer (some ⟨v1.heap.size, 2, none⟩))) _
      simp only [Act.put, List.setIfInBounds_toArray, List.set_cons_zero, List.set_cons_succ]
      refine wpAnyH_take (i := 38) (v := (.slice (some ⟨g, o1, none⟩) 2 c6)) rfl (by kernel_rfl) (by kernel_rfl) (by kernel_rfl) (fun _ _ _ h => h) (yields_load_at (by kernel_rfl) 22 (.tmp 124) rfl (.pointer (some ⟨v1.heap.size, 2, none⟩)) rfl (.slice (some ⟨g, o1, none⟩) 2 c6) (fun W hW => load_one' (by kernel_rfl) ((G9u.out.through hW).cellAt (i := 2) rfl))) (by assumption) ?_
      change wpAnyH _ _ _ _ _ _ _ (Act.put _ (some (125 : Nat)) (.slice (some ⟨g, o1, none⟩) 2 c6)) _
      simp only [Act.put, List.setIfInBounds_toArray, List.set_cons_zero, List.set_cons_succ]
      refine wpAnyH_take (i := 39) (v := (.pointer (some ⟨g, o1 + 6, none⟩))) rfl (by kernel_rfl) (by kernel_rfl) (by kernel_rfl) (fun _ _ _ h => h) (Or.inl ⟨by kernel_rfl, fun w hSw => ?_⟩) (by assumption) ?_
      · (try dsimp only at hSw); go_simp <;> (try rfl)
      change wpAnyH _ _ _ _ _ _ _ (Act.put _ (some (126 : Nat)) (.pointer (some ⟨g, o1 + 6, none⟩))) _
      simp only [Act.put, List.setIfInBounds_toArray, List.set_cons_zero, List.set_cons_succ]
      refine wpAnyH_take (i := 40) (v := (.pointer (some ⟨g, o1 + 6, none⟩))) rfl (by kernel_rfl) (by kernel_rfl) (by kernel_rfl) (fun _ _ _ h => h) (Or.inl ⟨by kernel_rfl, fun w hSw => ?_⟩) (by assumption) ?_
      · (try dsimp only at hSw); go_simp <;> (try rfl)
      change wpAnyH _ _ _ _ _ _ _ (Act.put _ (some (127 : Nat)) (.pointer (some ⟨g, o1 + 6, none⟩))) _
      simp only [Act.put, List.setIfInBounds_toArray, List.set_cons_zero, List.set_cons_succ]
      refine wpAnyH_take (i := 41) (v := (.string (ba s1.nm))) rfl (by kernel_rfl) (by kernel_rfl) (by kernel_rfl) (fun _ _ _ h => h) (yields_load_at (by kernel_rfl) 9 (.tmp 127) rfl (.pointer (some ⟨g, o1 + 6, none⟩)) rfl (.string (ba s1.nm)) (fun W hW => load_one' (by kernel_rfl) ((hW.cell (World.block_lt_of_cell? wu _ HR1.out)).trans HR1.out))) (by assumption) ?_
      change wpAnyH _ _ _ _ _ _ _ (Act.put _ (some (128 : Nat)) (.string (ba s1.nm))) _
      simp only [Act.put, List.setIfInBounds_toArray, List.set_cons_zero, List.set_cons_succ]
      refine wpAnyH_take (i := 42) (v := (.bool true)) rfl (by kernel_rfl) (by kernel_rfl) (by kernel_rfl) (fun _ _ _ h => h) (Or.inl ⟨by kernel_rfl, fun w hSw => ?_⟩) (by assumption) ?_
      · (try dsimp only at hSw); go_simp <;> (try rfl)
      change wpAnyH _ _ _ _ _ _ _ (Act.put _ (some (129 : Nat)) (.bool true)) _
      simp only [Act.put, List.setIfInBounds_toArray, List.set_cons_zero, List.set_cons_succ]
      refine wpAnyH_take (i := 43) (v := (.bool true)) rfl (by kernel_rfl) (by kernel_rfl) (by kernel_rfl) (fun _ _ _ h => h) (Or.inl ⟨by kernel_rfl, fun w hSw => ?_⟩) (by assumption) ?_
      · (try dsimp only at hSw); go_simp <;> (try rfl)
      change wpAnyH _ _ _ _ _ _ _ (Act.put _ (some (130 : Nat)) (.bool true)) _
      simp only [Act.put, List.setIfInBounds_toArray, List.set_cons_zero, List.set_cons_succ]
      refine wpAnyH_take (i := 44) (v := (.bool true)) rfl (by kernel_rfl) (by kernel_rfl) (by kernel_rfl) (fun _ _ _ h => h) (Or.inl ⟨by kernel_rfl, fun w hSw => ?_⟩) (by assumption) ?_
      · (try dsimp only at hSw); go_simp <;> (try rfl)
      change wpAnyH _ _ _ _ _ _ _ (Act.put _ (some (131 : Nat)) (.bool true)) _
      simp only [Act.put, List.setIfInBounds_toArray, List.set_cons_zero, List.set_cons_succ]
      refine wpAnyH_take (i := 45) (v := (.pointer (some ⟨v1.heap.size, 3, none⟩))) rfl (by kernel_rfl) (by kernel_rfl) (by kernel_rfl) (fun _ _ _ h => h) (Or.inl ⟨by kernel_rfl, fun w hSw => ?_⟩) (by assumption) ?_
      · (try dsimp only at hSw); go_simp <;> (try rfl)
      change wpAnyH _ _ _ _ _ _ _ (Act.put _ (some (132 : Nat)) (.pointer (some ⟨v1.heap.size, 3, none⟩))) _
      simp only [Act.put, List.setIfInBounds_toArray, List.set_cons_zero, List.set_cons_succ]
      refine wpAnyH_take (i := 46) (v := (.slice (some ⟨h_, p1, none⟩) 2 d6)) rfl (by kernel_rfl) (by kernel_rfl) (by kernel_rfl) (fun _ _ _ h => h) (yields_load_at (by kernel_rfl) 23 (.tmp 132) rfl (.pointer (some ⟨v1.heap.size, 3, none⟩)) rfl (.slice (some ⟨h_, p1, none⟩) 2 d6) (fun W hW => load_one' (by kernel_rfl) ((G9u.out.through hW).cellAt (i := 3) rfl))) (by assumption) ?_
      change wpAnyH _ _ _ _ _ _ _ (Act.put _ (some (133 : Nat)) (.slice (some ⟨h_, p1, none⟩) 2 d6)) _
      simp only [Act.put, List.setIfInBounds_toArray, List.set_cons_zero, List.set_cons_succ]
      refine wpAnyH_take (i := 47) (v := (.pointer (some ⟨h_, p1, none⟩))) rfl (by kernel_rfl) (by kernel_rfl) (by kernel_rfl) (fun _ _ _ h => h) (Or.inl ⟨by kernel_rfl, fun w hSw => ?_⟩) (by assumption) ?_
      · (try dsimp only at hSw); go_simp <;> (try rfl)
      change wpAnyH _ _ _ _ _ _ _ (Act.put _ (some (134 : Nat)) (.pointer (some ⟨h_, p1, none⟩))) _
      simp only [Act.put, List.setIfInBounds_toArray, List.set_cons_zero, List.set_cons_succ]
      refine wpAnyH_take (i := 48) (v := (.pointer (some ⟨h_, p1, none⟩))) rfl (by kernel_rfl) (by kernel_rfl) (by kernel_rfl) (fun _ _ _ h => h) (Or.inl ⟨by kernel_rfl, fun w hSw => ?_⟩) (by assumption) ?_
      · (try dsimp only at hSw); go_simp <;> (try rfl)
      change wpAnyH _ _ _ _ _ _ _ (Act.put _ (some (135 : Nat)) (.pointer (some ⟨h_, p1, none⟩))) _
      simp only [Act.put, List.setIfInBounds_toArray, List.set_cons_zero, List.set_cons_succ]
      refine wpAnyH_take (i := 49) (v := (.int .i64 q0.cl)) rfl (by kernel_rfl) (by kernel_rfl) (by kernel_rfl) (fun _ _ _ h => h) (yields_load_at (by kernel_rfl) 3 (.tmp 135) rfl (.pointer (some ⟨h_, p1, none⟩)) rfl (.int .i64 q0.cl) (fun W hW => load_one' (by kernel_rfl) ((hW.cell (World.block_lt_of_cell? wu _ HQ0.out)).trans HQ0.out))) (by assumption) ?_
      change wpAnyH _ _ _ _ _ _ _ (Act.put _ (some (136 : Nat)) (.int .i64 q0.cl)) _
      simp only [Act.put, List.setIfInBounds_toArray, List.set_cons_zero, List.set_cons_succ]
      refine wpAnyH_take (i := 50) (v := (.pointer (some ⟨v1.heap.size, 3, none⟩))) rfl (by kernel_rfl) (by kernel_rfl) (by kernel_rfl) (fun _ _ _ h => h) (Or.inl ⟨by kernel_rfl, fun w hSw => ?_⟩) (by assumption) ?_
      · (try dsimp only at hSw); go_simp <;> (try rfl)
      change wpAnyH _ _ _ _ _ _ _ (Act.put _ (some (137 : Nat)) (.pointer (some ⟨v1.heap.size, 3, none⟩))) _
      simp only [Act.put, List.setIfInBounds_toArray, List.set_cons_zero, List.set_cons_succ]
      refine wpAnyH_take (i := 51) (v := (.slice (some ⟨h_, p1, none⟩) 2 d6)) rfl (by kernel_rfl) (by kernel_rfl) (by kernel_rfl) (fun _ _ _ h => h) (yields_load_at (by kernel_rfl) 23 (.tmp 137) rfl (.pointer (some ⟨v1.heap.size, 3, none⟩)) rfl (.slice (some ⟨h_, p1, none⟩) 2 d6) (fun W hW => load_one' (by kernel_rfl) ((G9u.out.through hW).cellAt (i := 3) rfl))) (by assumption) ?_
      change wpAnyH _ _ _ _ _ _ _ (Act.put _ (some (138 : Nat)) (.slice (some ⟨h_, p1, none⟩) 2 d6)) _
      simp only [Act.put, List.setIfInBounds_toArray, List.set_cons_zero, List.set_cons_succ]
      refine wpAnyH_take (i := 52) (v := (.pointer (some ⟨h_, p1 + 3, none⟩))) rfl (by kernel_rfl) (by kernel_rfl) (by kernel_rfl) (fun _ _ _ h => h) (Or.inl ⟨by kernel_rfl, fun w hSw => ?_⟩) (by assumption) ?_
      · (try dsimp only at hSw); go_simp <;> (try rfl)
      change wpAnyH _ _ _ _ _ _ _ (Act.put _ (some (139 : Nat)) (.pointer (some ⟨h_, p1 + 3, none⟩))) _
      simp only [Act.put, List.setIfInBounds_toArray, List.set_cons_zero, List.set_cons_succ]
      refine wpAnyH_take (i := 53) (v := (.pointer (some ⟨h_, p1 + 3, none⟩))) rfl (by kernel_rfl) (by kernel_rfl) (by kernel_rfl) (fun _ _ _ h => h) (Or.inl ⟨by kernel_rfl, fun w hSw => ?_⟩) (by assumption) ?_
      · (try dsimp only at hSw); go_simp <;> (try rfl)
      change wpAnyH _ _ _ _ _ _ _ (Act.put _ (some (140 : Nat)) (.pointer (some ⟨h_, p1 + 3, none⟩))) _
      simp only [Act.put, List.setIfInBounds_toArray, List.set_cons_zero, List.set_cons_succ]
      refine wpAnyH_take (i := 54) (v := (.int .i64 q1.cl)) rfl (by kernel_rfl) (by kernel_rfl) (by kernel_rfl) (fun _ _ _ h => h) (yields_load_at (by kernel_rfl) 3 (.tmp 140) rfl (.pointer (some ⟨h_, p1 + 3, none⟩)) rfl (.int .i64 q1.cl) (fun W hW => load_one' (by kernel_rfl) ((hW.cell (World.block_lt_of_cell? wu _ HQ1.out)).trans HQ1.out))) (by assumption) ?_
      change wpAnyH _ _ _ _ _ _ _ (Act.put _ (some (141 : Nat)) (.int .i64 q1.cl)) _
      simp only [Act.put, List.setIfInBounds_toArray, List.set_cons_zero, List.set_cons_succ]
      refine wpAnyH_take (i := 55) (v := (.bool true)) rfl (by kernel_rfl) (by kernel_rfl) (by kernel_rfl) (fun _ _ _ h => h) (Or.inl ⟨by kernel_rfl, fun w hSw => ?_⟩) (by assumption) ?_
      · (try dsimp only at hSw); go_simp <;> (try rfl)
      change wpAnyH _ _ _ _ _ _ _ (Act.put _ (some (142 : Nat)) (.bool true)) _
      simp only [Act.put, List.setIfInBounds_toArray, List.set_cons_zero, List.set_cons_succ]
      refine wpAnyH_take (i := 56) (v := (.bool true)) rfl (by kernel_rfl) (by kernel_rfl) (by kernel_rfl) (fun _ _ _ h => h) (Or.inl ⟨by kernel_rfl, fun w hSw => ?_⟩) (by assumption) ?_
      · (try dsimp only at hSw); go_simp <;> (try rfl)
      change wpAnyH _ _ _ _ _ _ _ (Act.put _ (some (143 : Nat)) (.bool true)) _
      simp only [Act.put, List.setIfInBounds_toArray, List.set_cons_zero, List.set_cons_succ]
      refine wpAnyH_take (i := 57) (v := (.bool true)) rfl (by kernel_rfl) (by kernel_rfl) (by kernel_rfl) (fun _ _ _ h => h) (Or.inl ⟨by kernel_rfl, fun w hSw => ?_⟩) (by assumption) ?_
      · (try dsimp only at hSw); go_simp <;> (try rfl)
      change wpAnyH _ _ _ _ _ _ _ (Act.put _ (some (8 : Nat)) (.bool true)) _
      simp only [Act.put, List.setIfInBounds_toArray, List.set_cons_zero, List.set_cons_succ]
      refine wpAnyH_done (by kernel_rfl) ?_ _
      have HXz := Lib.hid (below_step HXu.out hHeld)
      clear hHeld
      go_wp2
      go_ret
      exact ⟨rfl, HXz.out⟩
  · as_aux_lemma =>
    refine step_load_at rfl 25 (.tmp 12) rfl (.pointer (some ⟨v3.heap.size, 0, none⟩)) rfl (.agg #[.int .i64 0, .int .i64 0, .slice A4 2 c4, .slice B4 0 d4]) (G12j.out.loadAt 25 _ Try.underlying25 rfl (by kernel_rfl)) ?_
    refine hK.out _ _ hHeld (fun hHeld1 => ?_)
    clear hHeld hK K
    have hHeld := hHeld1
    clear hHeld1
    change wpAnyH _ _ _ _ _ _ _ (Act.put _ (some (82 : Nat)) (.agg #[.int .i64 0, .int .i64 0, .slice A4 2 c4, .slice B4 0 d4])) _
    simp only [Act.put, List.setIfInBounds_toArray, List.set_cons_zero, List.set_cons_succ]
    refine wpAnyH_ready (rs := [0]) (by kernel_rfl) (by simp) ?_
    refine AllReadyH.cons (o := ⟨some 77, .load 25 (.tmp 9), _, _, _, none⟩) rfl (fun K hK => ?_) AllReadyH.nil
    refine step_load_at rfl 25 (.tmp 9) rfl (.pointer (some ⟨v1.heap.size, 0, none⟩)) rfl (.agg #[.int .i64 0, .int .i64 0, .slice A2 2 c2, .slice B2 0 d2]) (G9j.out.loadAt 25 _ Try.underlying25 rfl (by kernel_rfl)) ?_
    refine hK.out _ _ hHeld (fun hHeld1 => ?_)
    clear hHeld hK K
    have hHeld := hHeld1
    clear hHeld1
    change wpAnyH _ _ _ _ _ _ _ (Act.put _ (some (77 : Nat)) (.agg #[.int .i64 0, .int .i64 0, .slice A2 2 c2, .slice B2 0 d2])) _
    simp only [Act.put, List.setIfInBounds_toArray, List.set_cons_zero, List.set_cons_succ]
    refine wpAnyH_ready (rs := [2]) (by kernel_rfl) (by simp) ?_
    refine AllReadyH.cons rfl (fun K hK => ?_) AllReadyH.nil
    go_simp
    refine ((HT1.out _ _ _ _ _ HI2j.out HC2.out.2)).mono ?_
    rintro e v5 ⟨A5, n5, c5, B5, m5, d5, rfl, hi5, hc5, hd5, hb5⟩; obtain rfl : 2 = n5 := hi5.len.1; obtain rfl : 1 = m5 := hi5.len.2; have HC5 := Lib.hid (And.intro hc5 hd5); have HKp := Lib.hid hb5; have G9p := Lib.hid (G9j.out.through hb5); have G12p := Lib.hid (G12j.out.through hb5); have HI4p := Lib.hid (HI4j.out.through hb5); have HI5p := Lib.hid hi5; clear hi5 hb5 hc5 hd5
    go_wp2_with fail
    refine hK.out _ _ ⟨below_step hHeld.1 HKp.out, hHeld.2.1.through HKp.out, hHeld.2.2.through HKp.out⟩ (fun hHeld1 => ?_)
    clear hHeld hK K
    have hHeld := hHeld1
    clear hHeld1
    refine wpAnyH_ready (rs := [4]) (by kernel_rfl) (by simp) ?_
    refine AllReadyH.cons rfl (fun K hK => ?_) AllReadyH.nil
    go_simp
    refine ((HT2.out _ _ _ _ _ HI5p.out HC5.out.2)).mono ?_
    rintro e v6 ⟨A6, n6, c6, B6, m6, d6, rfl, hi6, hc6, hd6, hb6⟩; obtain rfl : 2 = n6 := hi6.len.1; obtain rfl : 2 = m6 := hi6.len.2; have HC6 := Lib.hid (And.intro hc6 hd6); have HKq := Lib.hid hb6; have G9q := Lib.hid (G9p.out.through hb6); have G12q := Lib.hid (G12p.out.through hb6); have HI4q := Lib.hid (HI4p.out.through hb6); have HI6q := Lib.hid hi6; clear hi6 hb6 hc6 hd6
    go_wp2_with fail
    refine hK.out _ _ ⟨below_step hHeld.1 HKq.out, hHeld.2.1.through HKq.out, hHeld.2.2.through HKq.out⟩ (fun hHeld1 => ?_)
    clear hHeld hK K
    have hHeld := hHeld1
    clear hHeld1
    refine wpAnyH_ready (rs := [7]) (by kernel_rfl) (by simp) ?_
    refine AllReadyH.cons rfl (fun K hK => ?_) AllReadyH.nil
    go_simp
    refine ((HT3.out _ _ _ _ _ HI4q.out HC4.out.2)).mono ?_
    rintro e v7 ⟨A7, n7, c7, B7, m7, d7, rfl, hi7, hc7, hd7, hb7⟩; obtain rfl : 2 = n7 := hi7.len.1; obtain rfl : 1 = m7 := hi7.len.2; have HC7 := Lib.hid (And.intro hc7 hd7); have HKr := Lib.hid hb7; have G9r := Lib.hid (G9q.out.through hb7); have G12r := Lib.hid (G12q.out.through hb7); have HI6r := Lib.hid (HI6q.out.through hb7); have HI7r := Lib.hid hi7; clear hi7 hb7 hc7 hd7
    go_wp2_with fail
    refine hK.out _ _ ⟨below_step hHeld.1 HKr.out, hHeld.2.1.through HKr.out, hHeld.2.2.through HKr.out⟩ (fun hHeld1 => ?_)
    clear hHeld hK K
    have hHeld := hHeld1
    clear hHeld1
    refine wpAnyH_ready (rs := [9]) (by kernel_rfl) (by simp) ?_
    refine AllReadyH.cons rfl (fun K hK => ?_) AllReadyH.nil
    go_simp
    refine ((HT4.out _ _ _ _ _ HI7r.out HC7.out.2)).mono ?_
    rintro e v8 ⟨A8, n8, c8, B8, m8, d8, rfl, hi8, hc8, hd8, hb8⟩; obtain rfl : 2 = n8 := hi8.len.1; obtain rfl : 2 = m8 := hi8.len.2; have HC8 := Lib.hid (And.intro hc8 hd8); have HKs := Lib.hid hb8; have G9s := Lib.hid (G9r.out.through hb8); have G12s := Lib.hid (G12r.out.through hb8); have HI6s := Lib.hid (HI6r.out.through hb8); have HI8s := Lib.hid hi8; clear hi8 hb8 hc8 hd8
    go_wp2_with fail
    refine hK.out _ _ ⟨below_step hHeld.1 HKs.out, hHeld.2.1.through HKs.out, hHeld.2.2.through HKs.out⟩ (fun hHeld1 => ?_)
    clear hHeld hK K
    have hHeld := hHeld1
    clear hHeld1
    refine wpAnyH_ready (rs := [10]) (by kernel_rfl) (by simp) ?_
    refine AllReadyH.cons (o := ⟨none, .store 25 (.tmp 9) (.tmp 81), _, _, _, none⟩) rfl (fun K hK => ?_) AllReadyH.nil
    refine step_store_blk rfl 25 (.tmp 9) (.tmp 81) rfl v1.heap.size [.int .i64 0, .int .i64 0, .slice A6 2 c6, .slice B6 2 d6] rfl rfl 25 [.int .i64 0, .int .i64 0, .slice A2 2 c2, .slice B2 0 d2] G9s.out (by kernel_rfl) rfl (one4 _ _ _ _ _ _ _ _) ?_; intro wt hbt hgt; have G9t := Lib.hid hbt; have HGt := Lib.hid hgt; have G12t := Lib.hid (G12s.out.grown hgt (fun e9 => by have := Option.some.inj e9; have := Z12.out; omega)); have HI6t := Lib.hid (HI6s.out.stored G9s.out hgt); have HI8t := Lib.hid (HI8s.out.stored G9s.out hgt); clear hbt hgt
    refine hK.out _ _ ⟨hHeld.1.grown HGt.out hHeld.1.size (fun k hk => by have := Option.some.inj hk; have := Z9.out; omega), hHeld.2.1.grown HGt.out (fun e9 => by have := Option.some.inj e9; have := Z9.out; omega), hHeld.2.2.grown HGt.out (fun e9 => by have := Option.some.inj e9; have := Z9.out; omega)⟩ (fun hHeld1 => ?_)
    clear hHeld hK K
    have hHeld := hHeld1
    clear hHeld1
    change wpAnyH _ _ _ _ _ _ _ (Act.put _ none undef) _
    simp only [Act.put]
    refine wpAnyH_ready (rs := [11]) (by kernel_rfl) (by simp) ?_
    refine AllReadyH.cons (o := ⟨none, .store 25 (.tmp 12) (.tmp 86), _, _, _, none⟩) rfl (fun K hK => ?_) AllReadyH.nil
    refine step_store_blk rfl 25 (.tmp 12) (.tmp 86) rfl v3.heap.size [.int .i64 0, .int .i64 0, .slice A8 2 c8, .slice B8 2 d8] rfl rfl 25 [.int .i64 0, .int .i64 0, .slice A4 2 c4, .slice B4 0 d4] G12t.out (by kernel_rfl) rfl (one4 _ _ _ _ _ _ _ _) ?_; intro wu hbu hgu; have G12u := Lib.hid hbu; have HGu := Lib.hid hgu; have G9u := Lib.hid (G9t.out.grown hgu (fun e9 => by have := Option.some.inj e9; have := Z12.out; omega)); have HI6u := Lib.hid (HI6t.out.stored G12t.out hgu); have HI8u := Lib.hid (HI8t.out.stored G12t.out hgu); clear hbu hgu
    refine hK.out _ _ ⟨hHeld.1.grown HGu.out hHeld.1.size (fun k hk => by have := Option.some.inj hk; have := Z12b.out; omega), hHeld.2.1.grown HGu.out (fun e9 => by have := Option.some.inj e9; have := Z12b.out; omega), hHeld.2.2.grown HGu.out (fun e9 => by have := Option.some.inj e9; have := Z12b.out; omega)⟩ (fun hHeld1 => ?_)
    clear hHeld hK K
    have hHeld := hHeld1
    clear hHeld1
    change wpAnyH _ _ _ _ _ _ _ (Act.put _ none undef) _
    simp only [Act.put]
    refine wpAnyH_done (by kernel_rfl) ?_ _
    have HXu := Lib.hid hHeld.1
    clear hHeld
    go_wp2
    try dsimp only [Act.put]
    obtain ⟨g, o1, x0, hA, hx0, _, _, hr0⟩ := HI6u.out.lt_at (i := 0) (by omega)
    obtain ⟨g1, o2, x1, hA1, hx1, _, _, hr1⟩ := HI6u.out.lt_at (i := 1) (by omega)
    subst hA
    obtain ⟨rfl, rfl⟩ : g = g1 ∧ o1 = o2 := by simpa using hA1
    obtain rfl : s0 = x0 := Option.some.inj hx0
    obtain rfl : s1 = x1 := Option.some.inj hx1
    obtain ⟨h_, p1, y0, hB, hy0, _, _, hq0⟩ := HI6u.out.oc_at (i := 0) (by omega)
    obtain ⟨h1_, p2, y1, hB1, hy1, _, _, hq1⟩ := HI6u.out.oc_at (i := 1) (by omega)
    subst hB
    obtain ⟨rfl, rfl⟩ : h_ = h1_ ∧ p1 = p2 := by simpa using hB1
    obtain rfl : q0 = y0 := Option.some.inj hy0
    obtain rfl : q1 = y1 := Option.some.inj hy1
    have HR0 : Hid (wu.cell? ⟨g, o1, none⟩ = some (.string (ba s0.nm))) := Lib.hid (by have h9 := hr0 0 _ rfl; simpa using h9)
    have HR1 : Hid (wu.cell? ⟨g, o1 + 6, none⟩ = some (.string (ba s1.nm))) := Lib.hid (by have h9 := hr1 0 _ rfl; simpa using h9)
    have HQ0 : Hid (wu.cell? ⟨h_, p1, none⟩ = some (.int .i64 q0.cl)) := Lib.hid (by have h9 := hq0 0 _ rfl; simpa using h9)
    have HQ1 : Hid (wu.cell? ⟨h_, p1 + 3, none⟩ = some (.int .i64 q1.cl)) := Lib.hid (by have h9 := hq1 0 _ rfl; simpa using h9)
    have hi0 := fun W : World => Try.ix_lt W g o1 2 c6 0 (by omega)
    have hi1 := fun W : World => Try.ix_lt W g o1 2 c6 1 (by omega)
    have hj0 := fun W : World => Try.ix_oc W h_ p1 2 d6 0 (by omega)
    have hj1 := fun W : World => Try.ix_oc W h_ p1 2 d6 1 (by omega)
    simp only [Nat.zero_mul, Nat.one_mul, Nat.add_zero, Int.cast_ofNat_Int] at hi0 hi1 hj0 hj1
    clear hr0 hr1 hq0 hq1 hx0 hx1 hy0 hy1 hA1 hB1
    refine wp_region_held_drew (S := fun W => Below wu.heap.size wu W) (by kernel_rfl) (Below.refl _ _).drew (fun hHeld => ?_)
    change wpAnyH _ _ _ _ _ _ #[false, false, false, false, false, false, false, false, false, false, false, false, false, false, false, false, false, false, false, false, false, false, false, false, false, false, false, false, false, false, false, false, false, false, false, false, false, false, false, false, false, false, false, false, false, false, false, false, false, false, false, false, false, false, false, false, false, false] _ _
    refine wpAnyH_take (i := 0) (v := (.int .i64 0)) rfl (by kernel_rfl) (by kernel_rfl) (by kernel_rfl) (fun _ _ _ h => h) (Or.inl ⟨by kernel_rfl, fun w hSw => ?_⟩) (by assumption) ?_
    · (try dsimp only at hSw); go_simp <;> (try rfl)
    change wpAnyH _ _ _ _ _ _ _ (Act.put _ (some (87 : Nat)) (.int .i64 0)) _
    simp only [Act.put, List.setIfInBounds_toArray, List.set_cons_zero, List.set_cons_succ]
    refine wpAnyH_take (i := 1) (v := (.bool true)) rfl (by kernel_rfl) (by kernel_rfl) (by kernel_rfl) (fun _ _ _ h => h) (Or.inl ⟨by kernel_rfl, fun w hSw => ?_⟩) (by assumption) ?_
    · (try dsimp only at hSw); go_simp <;> (try rfl)
    change wpAnyH _ _ _ _ _ _ _ (Act.put _ (some (88 : Nat)) (.bool true)) _
    simp only [Act.put, List.setIfInBounds_toArray, List.set_cons_zero, List.set_cons_succ]
    refine wpAnyH_take (i := 2) (v := (.bool true)) rfl (by kernel_rfl) (by kernel_rfl) (by kernel_rfl) (fun _ _ _ h => h) (Or.inl ⟨by kernel_rfl, fun w hSw => ?_⟩) (by assumption) ?_
    · (try dsimp only at hSw); go_simp <;> (try rfl)
    change wpAnyH _ _ _ _ _ _ _ (Act.put _ (some (89 : Nat)) (.bool true)) _
    simp only [Act.put, List.setIfInBounds_toArray, List.set_cons_zero, List.set_cons_succ]
    refine wpAnyH_take (i := 3) (v := (.int .i64 0)) rfl (by kernel_rfl) (by kernel_rfl) (by kernel_rfl) (fun _ _ _ h => h) (Or.inl ⟨by kernel_rfl, fun w hSw => ?_⟩) (by assumption) ?_
    · (try dsimp only at hSw); go_simp <;> (try rfl)
    change wpAnyH _ _ _ _ _ _ _ (Act.put _ (some (90 : Nat)) (.int .i64 0)) _
    simp only [Act.put, List.setIfInBounds_toArray, List.set_cons_zero, List.set_cons_succ]
    refine wpAnyH_take (i := 4) (v := (.bool true)) rfl (by kernel_rfl) (by kernel_rfl) (by kernel_rfl) (fun _ _ _ h => h) (Or.inl ⟨by kernel_rfl, fun w hSw => ?_⟩) (by assumption) ?_
    · (try dsimp only at hSw); go_simp <;> (try rfl)
    change wpAnyH _ _ _ _ _ _ _ (Act.put _ (some (91 : Nat)) (.bool true)) _
    simp only [Act.put, List.setIfInBounds_toArray, List.set_cons_zero, List.set_cons_succ]
    refine wpAnyH_take (i := 5) (v := (.bool true)) rfl (by kernel_rfl) (by kernel_rfl) (by kernel_rfl) (fun _ _ _ h => h) (Or.inl ⟨by kernel_rfl, fun w hSw => ?_⟩) (by assumption) ?_
    · (try dsimp only at hSw); go_simp <;> (try rfl)
    change wpAnyH _ _ _ _ _ _ _ (Act.put _ (some (92 : Nat)) (.bool true)) _
    simp only [Act.put, List.setIfInBounds_toArray, List.set_cons_zero, List.set_cons_succ]
    refine wpAnyH_take (i := 6) (v := (.bool true)) rfl (by kernel_rfl) (by kernel_rfl) (by kernel_rfl) (fun _ _ _ h => h) (Or.inl ⟨by kernel_rfl, fun w hSw => ?_⟩) (by assumption) ?_
    · (try dsimp only at hSw); go_simp <;> (try rfl)
    change wpAnyH _ _ _ _ _ _ _ (Act.put _ (some (93 : Nat)) (.bool true)) _
    simp only [Act.put, List.setIfInBounds_toArray, List.set_cons_zero, List.set_cons_succ]
    refine wpAnyH_take (i := 7) (v := (.int .i64 0)) rfl (by kernel_rfl) (by kernel_rfl) (by kernel_rfl) (fun _ _ _ h => h) (Or.inl ⟨by kernel_rfl, fun w hSw => ?_⟩) (by assumption) ?_
    · (try dsimp only at hSw); go_simp <;> (try rfl)
    change wpAnyH _ _ _ _ _ _ _ (Act.put _ (some (94 : Nat)) (.int .i64 0)) _
    simp only [Act.put, List.setIfInBounds_toArray, List.set_cons_zero, List.set_cons_succ]
    refine wpAnyH_take (i := 8) (v := (.bool true)) rfl (by kernel_rfl) (by kernel_rfl) (by kernel_rfl) (fun _ _ _ h => h) (Or.inl ⟨by kernel_rfl, fun w hSw => ?_⟩) (by assumption) ?_
    · (try dsimp only at hSw); go_simp <;> (try rfl)
    change wpAnyH _ _ _ _ _ _ _ (Act.put _ (some (95 : Nat)) (.bool true)) _
    simp only [Act.put, List.setIfInBounds_toArray, List.set_cons_zero, List.set_cons_succ]
    refine wpAnyH_take (i := 9) (v := (.bool true)) rfl (by kernel_rfl) (by kernel_rfl) (by kernel_rfl) (fun _ _ _ h => h) (Or.inl ⟨by kernel_rfl, fun w hSw => ?_⟩) (by assumption) ?_
    · (try dsimp only at hSw); go_simp <;> (try rfl)
    change wpAnyH _ _ _ _ _ _ _ (Act.put _ (some (96 : Nat)) (.bool true)) _
    simp only [Act.put, List.setIfInBounds_toArray, List.set_cons_zero, List.set_cons_succ]
    refine wpAnyH_take (i := 10) (v := (.bool true)) rfl (by kernel_rfl) (by kernel_rfl) (by kernel_rfl) (fun _ _ _ h => h) (Or.inl ⟨by kernel_rfl, fun w hSw => ?_⟩) (by assumption) ?_
    · (try dsimp only at hSw); go_simp <;> (try rfl)
    change wpAnyH _ _ _ _ _ _ _ (Act.put _ (some (97 : Nat)) (.bool true)) _
    simp only [Act.put, List.setIfInBounds_toArray, List.set_cons_zero, List.set_cons_succ]
    refine wpAnyH_take (i := 11) (v := (.int .i64 0)) rfl (by kernel_rfl) (by kernel_rfl) (by kernel_rfl) (fun _ _ _ h => h) (Or.inl ⟨by kernel_rfl, fun w hSw => ?_⟩) (by assumption) ?_
    · (try dsimp only at hSw); go_simp <;> (try rfl)
    change wpAnyH _ _ _ _ _ _ _ (Act.put _ (some (98 : Nat)) (.int .i64 0)) _
    simp only [Act.put, List.setIfInBounds_toArray, List.set_cons_zero, List.set_cons_succ]
    refine wpAnyH_take (i := 12) (v := (.bool true)) rfl (by kernel_rfl) (by kernel_rfl) (by kernel_rfl) (fun _ _ _ h => h) (Or.inl ⟨by kernel_rfl, fun w hSw => ?_⟩) (by assumption) ?_
    · (try dsimp only at hSw); go_simp <;> (try rfl)
    change wpAnyH _ _ _ _ _ _ _ (Act.put _ (some (99 : Nat)) (.bool true)) _
    simp only [Act.put, List.setIfInBounds_toArray, List.set_cons_zero, List.set_cons_succ]
    refine wpAnyH_take (i := 13) (v := (.bool true)) rfl (by kernel_rfl) (by kernel_rfl) (by kernel_rfl) (fun _ _ _ h => h) (Or.inl ⟨by kernel_rfl, fun w hSw => ?_⟩) (by assumption) ?_
    · (try dsimp only at hSw); go_simp <;> (try rfl)
    change wpAnyH _ _ _ _ _ _ _ (Act.put _ (some (100 : Nat)) (.bool true)) _
    simp only [Act.put, List.setIfInBounds_toArray, List.set_cons_zero, List.set_cons_succ]
    refine wpAnyH_take (i := 14) (v := (.bool true)) rfl (by kernel_rfl) (by kernel_rfl) (by kernel_rfl) (fun _ _ _ h => h) (Or.inl ⟨by kernel_rfl, fun w hSw => ?_⟩) (by assumption) ?_
    · (try dsimp only at hSw); go_simp <;> (try rfl)
    change wpAnyH _ _ _ _ _ _ _ (Act.put _ (some (101 : Nat)) (.bool true)) _
    simp only [Act.put, List.setIfInBounds_toArray, List.set_cons_zero, List.set_cons_succ]
    refine wpAnyH_take (i := 15) (v := (.agg #[.int .i64 0, .int .i64 0, .slice (some ⟨g, o1, none⟩) 2 c6, .slice (some ⟨h_, p1, none⟩) 2 d6])) rfl (by kernel_rfl) (by kernel_rfl) (by kernel_rfl) (fun _ _ _ h => h) (yields_load_at (by kernel_rfl) 25 (.tmp 9) rfl (.pointer (some ⟨v1.heap.size, 0, none⟩)) rfl (.agg #[.int .i64 0, .int .i64 0, .slice (some ⟨g, o1, none⟩) 2 c6, .slice (some ⟨h_, p1, none⟩) 2 d6]) (fun W hW => (G9u.out.through hW).loadAt 25 _ Try.underlying25 rfl (by kernel_rfl))) (by assumption) ?_
    change wpAnyH _ _ _ _ _ _ _ (Act.put _ (some (102 : Nat)) (.agg #[.int .i64 0, .int .i64 0, .slice (some ⟨g, o1, none⟩) 2 c6, .slice (some ⟨h_, p1, none⟩) 2 d6])) _
    simp only [Act.put, List.setIfInBounds_toArray, List.set_cons_zero, List.set_cons_succ]
    refine wpAnyH_take (i := 16) (v := (.agg #[.int .i64 0, .int .i64 0, .slice A8 2 c8, .slice B8 2 d8])) rfl (by kernel_rfl) (by kernel_rfl) (by kernel_rfl) (fun _ _ _ h => h) (yields_load_at (by kernel_rfl) 25 (.tmp 12) rfl (.pointer (some ⟨v3.heap.size, 0, none⟩)) rfl (.agg #[.int .i64 0, .int .i64 0, .slice A8 2 c8, .slice B8 2 d8]) (fun W hW => (G12u.out.through hW).loadAt 25 _ Try.underlying25 rfl (by kernel_rfl))) (by assumption) ?_
    change wpAnyH _ _ _ _ _ _ _ (Act.put _ (some (103 : Nat)) (.agg #[.int .i64 0, .int .i64 0, .slice A8 2 c8, .slice B8 2 d8])) _
    simp only [Act.put, List.setIfInBounds_toArray, List.set_cons_zero, List.set_cons_succ]
    refine wpAnyH_ready (rs := [17]) (by kernel_rfl) (by simp) ?_
    refine AllReadyH.cons rfl (fun K hK => ?_) AllReadyH.nil
    go_simp
    refine ((HSm.out _ _ _ _ _ _ _ _ _ (HI6u.out.through hHeld) (HI8u.out.through hHeld))).mono ?_
    rintro e wx ⟨rfl, hbx⟩; have HKx := Lib.hid hbx; clear hbx
    go_wp2_with fail
    refine hK.out _ _ (below_step hHeld HKx.out) (fun hHeld1 => ?_)
    clear hHeld hK K
    have hHeld := hHeld1
    clear hHeld1
    refine wpAnyH_take (i := 18) (v := (.bool true)) rfl (by kernel_rfl) (by kernel_rfl) (by kernel_rfl) (fun _ _ _ h => h) (Or.inl ⟨by kernel_rfl, fun w hSw => ?_⟩) (by assumption) ?_
    · (try dsimp only at hSw); go_simp <;> (try rfl)
    change wpAnyH _ _ _ _ _ _ _ (Act.put _ (some (105 : Nat)) (.bool true)) _
    simp only [Act.put, List.setIfInBounds_toArray, List.set_cons_zero, List.set_cons_succ]
    refine wpAnyH_take (i := 19) (v := (.bool true)) rfl (by kernel_rfl) (by kernel_rfl) (by kernel_rfl) (fun _ _ _ h => h) (Or.inl ⟨by kernel_rfl, fun w hSw => ?_⟩) (by assumption) ?_
    · (try dsimp only at hSw); go_simp <;> (try rfl)
    change wpAnyH _ _ _ _ _ _ _ (Act.put _ (some (106 : Nat)) (.bool true)) _
    simp only [Act.put, List.setIfInBounds_toArray, List.set_cons_zero, List.set_cons_succ]
    refine wpAnyH_take (i := 20) (v := (.pointer (some ⟨v1.heap.size, 2, none⟩))) rfl (by kernel_rfl) (by kernel_rfl) (by kernel_rfl) (fun _ _ _ h => h) (Or.inl ⟨by kernel_rfl, fun w hSw => ?_⟩) (by assumption) ?_
    · (try dsimp only at hSw); go_simp <;> (try rfl)
    change wpAnyH _ _ _ _ _ _ _ (Act.put _ (some (107 : Nat)) (.pointer (some ⟨v1.heap.size, 2, none⟩))) _
    simp only [Act.put, List.setIfInBounds_toArray, List.set_cons_zero, List.set_cons_succ]
    refine wpAnyH_take (i := 21) (v := (.slice (some ⟨g, o1, none⟩) 2 c6)) rfl (by kernel_rfl) (by kernel_rfl) (by kernel_rfl) (fun _ _ _ h => h) (yields_load_at (by kernel_rfl) 22 (.tmp 107) rfl (.pointer (some ⟨v1.heap.size, 2, none⟩)) rfl (.slice (some ⟨g, o1, none⟩) 2 c6) (fun W hW => load_one' (by kernel_rfl) ((G9u.out.through hW).cellAt (i := 2) rfl))) (by assumption) ?_
    change wpAnyH _ _ _ _ _ _ _ (Act.put _ (some (108 : Nat)) (.slice (some ⟨g, o1, none⟩) 2 c6)) _
    simp only [Act.put, List.setIfInBounds_toArray, List.set_cons_zero, List.set_cons_succ]
    refine wpAnyH_take (i := 22) (v := (.int .i64 2)) rfl (by kernel_rfl) (by kernel_rfl) (by kernel_rfl) (fun _ _ _ h => h) (Or.inl ⟨by kernel_rfl, fun w hSw => ?_⟩) (by assumption) ?_
    · (try dsimp only at hSw); go_simp <;> (try rfl)
    change wpAnyH _ _ _ _ _ _ _ (Act.put _ (some (109 : Nat)) (.int .i64 2)) _
    simp only [Act.put, List.setIfInBounds_toArray, List.set_cons_zero, List.set_cons_succ]
    refine wpAnyH_take (i := 23) (v := (.bool true)) rfl (by kernel_rfl) (by kernel_rfl) (by kernel_rfl) (fun _ _ _ h => h) (Or.inl ⟨by kernel_rfl, fun w hSw => ?_⟩) (by assumption) ?_
    · (try dsimp only at hSw); go_simp <;> (try rfl)
    change wpAnyH _ _ _ _ _ _ _ (Act.put _ (some (110 : Nat)) (.bool true)) _
    simp only [Act.put, List.setIfInBounds_toArray, List.set_cons_zero, List.set_cons_succ]
    refine wpAnyH_take (i := 24) (v := (.bool true)) rfl (by kernel_rfl) (by kernel_rfl) (by kernel_rfl) (fun _ _ _ h => h) (Or.inl ⟨by kernel_rfl, fun w hSw => ?_⟩) (by assumption) ?_
    · (try dsimp only at hSw); go_simp <;> (try rfl)
    change wpAnyH _ _ _ _ _ _ _ (Act.put _ (some (111 : Nat)) (.bool true)) _
    simp only [Act.put, List.setIfInBounds_toArray, List.set_cons_zero, List.set_cons_succ]
    refine wpAnyH_take (i := 25) (v := (.bool true)) rfl (by kernel_rfl) (by kernel_rfl) (by kernel_rfl) (fun _ _ _ h => h) (Or.inl ⟨by kernel_rfl, fun w hSw => ?_⟩) (by assumption) ?_
    · (try dsimp only at hSw); go_simp <;> (try rfl)
    change wpAnyH _ _ _ _ _ _ _ (Act.put _ (some (112 : Nat)) (.bool true)) _
    simp only [Act.put, List.setIfInBounds_toArray, List.set_cons_zero, List.set_cons_succ]
    refine wpAnyH_take (i := 26) (v := (.pointer (some ⟨v1.heap.size, 3, none⟩))) rfl (by kernel_rfl) (by kernel_rfl) (by kernel_rfl) (fun _ _ _ h => h) (Or.inl ⟨by kernel_rfl, fun w hSw => ?_⟩) (by assumption) ?_
    · (try dsimp only at hSw); go_simp <;> (try rfl)
    change wpAnyH _ _ _ _ _ _ _ (Act.put _ (some (113 : Nat)) (.pointer (some ⟨v1.heap.size, 3, none⟩))) _
    simp only [Act.put, List.setIfInBounds_toArray, List.set_cons_zero, List.set_cons_succ]
    refine wpAnyH_take (i := 27) (v := (.slice (some ⟨h_, p1, none⟩) 2 d6)) rfl (by kernel_rfl) (by kernel_rfl) (by kernel_rfl) (fun _ _ _ h => h) (yields_load_at (by kernel_rfl) 23 (.tmp 113) rfl (.pointer (some ⟨v1.heap.size, 3, none⟩)) rfl (.slice (some ⟨h_, p1, none⟩) 2 d6) (fun W hW => load_one' (by kernel_rfl) ((G9u.out.through hW).cellAt (i := 3) rfl))) (by assumption) ?_
    change wpAnyH _ _ _ _ _ _ _ (Act.put _ (some (114 : Nat)) (.slice (some ⟨h_, p1, none⟩) 2 d6)) _
    simp only [Act.put, List.setIfInBounds_toArray, List.set_cons_zero, List.set_cons_succ]
    refine wpAnyH_take (i := 28) (v := (.int .i64 2)) rfl (by kernel_rfl) (by kernel_rfl) (by kernel_rfl) (fun _ _ _ h => h) (Or.inl ⟨by kernel_rfl, fun w hSw => ?_⟩) (by assumption) ?_
    · (try dsimp only at hSw); go_simp <;> (try rfl)
    change wpAnyH _ _ _ _ _ _ _ (Act.put _ (some (115 : Nat)) (.int .i64 2)) _
    simp only [Act.put, List.setIfInBounds_toArray, List.set_cons_zero, List.set_cons_succ]
    refine wpAnyH_take (i := 29) (v := (.bool true)) rfl (by kernel_rfl) (by kernel_rfl) (by kernel_rfl) (fun _ _ _ h => h) (Or.inl ⟨by kernel_rfl, fun w hSw => ?_⟩) (by assumption) ?_
    · (try dsimp only at hSw); go_simp <;> (try rfl)
    change wpAnyH _ _ _ _ _ _ _ (Act.put _ (some (116 : Nat)) (.bool true)) _
    simp only [Act.put, List.setIfInBounds_toArray, List.set_cons_zero, List.set_cons_succ]
    refine wpAnyH_take (i := 30) (v := (.bool true)) rfl (by kernel_rfl) (by kernel_rfl) (by kernel_rfl) (fun _ _ _ h => h) (Or.inl ⟨by kernel_rfl, fun w hSw => ?_⟩) (by assumption) ?_
    · (try dsimp only at hSw); go_simp <;> (try rfl)
    change wpAnyH _ _ _ _ _ _ _ (Act.put _ (some (117 : Nat)) (.bool true)) _
    simp only [Act.put, List.setIfInBounds_toArray, List.set_cons_zero, List.set_cons_succ]
    refine wpAnyH_take (i := 31) (v := (.bool true)) rfl (by kernel_rfl) (by kernel_rfl) (by kernel_rfl) (fun _ _ _ h => h) (Or.inl ⟨by kernel_rfl, fun w hSw => ?_⟩) (by assumption) ?_
    · (try dsimp only at hSw); go_simp <;> (try rfl)
    change wpAnyH _ _ _ _ _ _ _ (Act.put _ (some (118 : Nat)) (.bool true)) _
    simp only [Act.put, List.setIfInBounds_toArray, List.set_cons_zero, List.set_cons_succ]
    refine wpAnyH_take (i := 32) (v := (.pointer (some ⟨v1.heap.size, 2, none⟩))) rfl (by kernel_rfl) (by kernel_rfl) (by kernel_rfl) (fun _ _ _ h => h) (Or.inl ⟨by kernel_rfl, fun w hSw => ?_⟩) (by assumption) ?_
    · (try dsimp only at hSw); go_simp <;> (try rfl)
    change wpAnyH _ _ _ _ _ _ _ (Act.put _ (some (119 : Nat)) (.pointer (some ⟨v1.heap.size, 2, none⟩))) _
    simp only [Act.put, List.setIfInBounds_toArray, List.set_cons_zero, List.set_cons_succ]
    refine wpAnyH_take (i := 33) (v := (.slice (some ⟨g, o1, none⟩) 2 c6)) rfl (by kernel_rfl) (by kernel_rfl) (by kernel_rfl) (fun _ _ _ h => h) (yields_load_at (by kernel_rfl) 22 (.tmp 119) rfl (.pointer (some ⟨v1.heap.size, 2, none⟩)) rfl (.slice (some ⟨g, o1, none⟩) 2 c6) (fun W hW => load_one' (by kernel_rfl) ((G9u.out.through hW).cellAt (i := 2) rfl))) (by assumption) ?_
    change wpAnyH _ _ _ _ _ _ _ (Act.put _ (some (120 : Nat)) (.slice (some ⟨g, o1, none⟩) 2 c6)) _
    simp only [Act.put, List.setIfInBounds_toArray, List.set_cons_zero, List.set_cons_succ]
    refine wpAnyH_take (i := 34) (v := (.pointer (some ⟨g, o1, none⟩))) rfl (by kernel_rfl) (by kernel_rfl) (by kernel_rfl) (fun _ _ _ h => h) (Or.inl ⟨by kernel_rfl, fun w hSw => ?_⟩) (by assumption) ?_
    · (try dsimp only at hSw); go_simp <;> (try rfl)
    change wpAnyH _ _ _ _ _ _ _ (Act.put _ (some (121 : Nat)) (.pointer (some ⟨g, o1, none⟩))) _
    simp only [Act.put, List.setIfInBounds_toArray, List.set_cons_zero, List.set_cons_succ]
    refine wpAnyH_take (i := 35) (v := (.pointer (some ⟨g, o1, none⟩))) rfl (by kernel_rfl) (by kernel_rfl) (by kernel_rfl) (fun _ _ _ h => h) (Or.inl ⟨by kernel_rfl, fun w hSw => ?_⟩) (by assumption) ?_
    · (try dsimp only at hSw); go_simp <;> (try rfl)
    change wpAnyH _ _ _ _ _ _ _ (Act.put _ (some (122 : Nat)) (.pointer (some ⟨g, o1, none⟩))) _
    simp only [Act.put, List.setIfInBounds_toArray, List.set_cons_zero, List.set_cons_succ]
    refine wpAnyH_take (i := 36) (v := (.string (ba s0.nm))) rfl (by kernel_rfl) (by kernel_rfl) (by kernel_rfl) (fun _ _ _ h => h) (yields_load_at (by kernel_rfl) 9 (.tmp 122) rfl (.pointer (some ⟨g, o1, none⟩)) rfl (.string (ba s0.nm)) (fun W hW => load_one' (by kernel_rfl) ((hW.cell (World.block_lt_of_cell? wu _ HR0.out)).trans HR0.out))) (by assumption) ?_
    change wpAnyH _ _ _ _ _ _ _ (Act.put _ (some (123 : Nat)) (.string (ba s0.nm))) _
    simp only [Act.put, List.setIfInBounds_toArray, List.set_cons_zero, List.set_cons_succ]
    refine wpAnyH_take (i := 37) (v := (.pointer (some ⟨v1.heap.size, 2, none⟩))) rfl (by kernel_rfl) (by kernel_rfl) (by kernel_rfl) (fun _ _ _ h => h) (Or.inl ⟨by kernel_rfl, fun w hSw => ?_⟩) (by assumption) ?_
    · (try dsimp only at hSw); go_simp <;> (try rfl)
    change wpAnyH _ _ _ _ _ _ _ (Act.put _ (some (124 : Nat)) (.pointer (some ⟨v1.heap.size, 2, none⟩))) _
    simp only [Act.put, List.setIfInBounds_toArray, List.set_cons_zero, List.set_cons_succ]
    refine wpAnyH_take (i := 38) (v := (.slice (some ⟨g, o1, none⟩) 2 c6)) rfl (by kernel_rfl) (by kernel_rfl) (by kernel_rfl) (fun _ _ _ h => h) (yields_load_at (by kernel_rfl) 22 (.tmp 124) rfl (.pointer (some ⟨v1.heap.size, 2, none⟩)) rfl (.slice (some ⟨g, o1, none⟩) 2 c6) (fun W hW => load_one' (by kernel_rfl) ((G9u.out.through hW).cellAt (i := 2) rfl))) (by assumption) ?_
    change wpAnyH _ _ _ _ _ _ _ (Act.put _ (some (125 : Nat)) (.slice (some ⟨g, o1, none⟩) 2 c6)) _
    simp only [Act.put, List.setIfInBounds_toArray, List.set_cons_zero, List.set_cons_succ]
    refine wpAnyH_take (i := 39) (v := (.pointer (some ⟨g, o1 + 6, none⟩))) rfl (by kernel_rfl) (by kernel_rfl) (by kernel_rfl) (fun _ _ _ h => h) (Or.inl ⟨by kernel_rfl, fun w hSw => ?_⟩) (by assumption) ?_
    · (try dsimp only at hSw); go_simp <;> (try rfl)
    change wpAnyH _ _ _ _ _ _ _ (Act.put _ (some (126 : Nat)) (.pointer (some ⟨g, o1 + 6, none⟩))) _
    simp only [Act.put, List.setIfInBounds_toArray, List.set_cons_zero, List.set_cons_succ]
    refine wpAnyH_take (i := 40) (v := (.pointer (some ⟨g, o1 + 6, none⟩))) rfl (by kernel_rfl) (by kernel_rfl) (by kernel_rfl) (fun _ _ _ h => h) (Or.inl ⟨by kernel_rfl, fun w hSw => ?_⟩) (by assumption) ?_
    · (try dsimp only at hSw); go_simp <;> (try rfl)
    change wpAnyH _ _ _ _ _ _ _ (Act.put _ (some (127 : Nat)) (.pointer (some ⟨g, o1 + 6, none⟩))) _
    simp only [Act.put, List.setIfInBounds_toArray, List.set_cons_zero, List.set_cons_succ]
    refine wpAnyH_take (i := 41) (v := (.string (ba s1.nm))) rfl (by kernel_rfl) (by kernel_rfl) (by kernel_rfl) (fun _ _ _ h => h) (yields_load_at (by kernel_rfl) 9 (.tmp 127) rfl (.pointer (some ⟨g, o1 + 6, none⟩)) rfl (.string (ba s1.nm)) (fun W hW => load_one' (by kernel_rfl) ((hW.cell (World.block_lt_of_cell? wu _ HR1.out)).trans HR1.out))) (by assumption) ?_
    change wpAnyH _ _ _ _ _ _ _ (Act.put _ (some (128 : Nat)) (.string (ba s1.nm))) _
    simp only [Act.put, List.setIfInBounds_toArray, List.set_cons_zero, List.set_cons_succ]
    refine wpAnyH_take (i := 42) (v := (.bool true)) rfl (by kernel_rfl) (by kernel_rfl) (by kernel_rfl) (fun _ _ _ h => h) (Or.inl ⟨by kernel_rfl, fun w hSw => ?_⟩) (by assumption) ?_
    · (try dsimp only at hSw); go_simp <;> (try rfl)
    change wpAnyH _ _ _ _ _ _ _ (Act.put _ (some (129 : Nat)) (.bool true)) _
    simp only [Act.put, List.setIfInBounds_toArray, List.set_cons_zero, List.set_cons_succ]
    refine wpAnyH_take (i := 43) (v := (.bool true)) rfl (by kernel_rfl) (by kernel_rfl) (by kernel_rfl) (fun _ _ _ h => h) (Or.inl ⟨by kernel_rfl, fun w hSw => ?_⟩) (by assumption) ?_
    · (try dsimp only at hSw); go_simp <;> (try rfl)
    change wpAnyH _ _ _ _ _ _ _ (Act.put _ (some (130 : Nat)) (.bool true)) _
    simp only [Act.put, List.setIfInBounds_toArray, List.set_cons_zero, List.set_cons_succ]
    refine wpAnyH_take (i := 44) (v := (.bool true)) rfl (by kernel_rfl) (by kernel_rfl) (by kernel_rfl) (fun _ _ _ h => h) (Or.inl ⟨by kernel_rfl, fun w hSw => ?_⟩) (by assumption) ?_
    · (try dsimp only at hSw); go_simp <;> (try rfl)
    change wpAnyH _ _ _ _ _ _ _ (Act.put _ (some (131 : Nat)) (.bool true)) _
    simp only [Act.put, List.setIfInBounds_toArray, List.set_cons_zero, List.set_cons_succ]
    refine wpAnyH_take (i := 45) (v := (.pointer (some ⟨v1.heap.size, 3, none⟩))) rfl (by kernel_rfl) (by kernel_rfl) (by kernel_rfl) (fun _ _ _ h => h) (Or.inl ⟨by kernel_rfl, fun w hSw => ?_⟩) (by assumption) ?_
    · (try dsimp only at hSw); go_simp <;> (try rfl)
    change wpAnyH _ _ _ _ _ _ _ (Act.put _ (some (132 : Nat)) (.pointer (some ⟨v1.heap.size, 3, none⟩))) _
    simp only [Act.put, List.setIfInBounds_toArray, List.set_cons_zero, List.set_cons_succ]
    refine wpAnyH_take (i := 46) (v := (.slice (some ⟨h_, p1, none⟩) 2 d6)) rfl (by kernel_rfl) (by kernel_rfl) (by kernel_rfl) (fun _ _ _ h => h) (yields_load_at (by kernel_rfl) 23 (.tmp 132) rfl (.pointer (some ⟨v1.heap.size, 3, none⟩)) rfl (.slice (some ⟨h_, p1, none⟩) 2 d6) (fun W hW => load_one' (by kernel_rfl) ((G9u.out.through hW).cellAt (i := 3) rfl))) (by assumption) ?_
    change wpAnyH _ _ _ _ _ _ _ (Act.put _ (some (133 : Nat)) (.slice (some ⟨h_, p1, none⟩) 2 d6)) _
    simp only [Act.put, List.setIfInBounds_toArray, List.set_cons_zero, List.set_cons_succ]
    refine wpAnyH_take (i := 47) (v := (.pointer (some ⟨h_, p1, none⟩))) rfl (by kernel_rfl) (by kernel_rfl) (by kernel_rfl) (fun _ _ _ h => h) (Or.inl ⟨by kernel_rfl, fun w hSw => ?_⟩) (by assumption) ?_
    · (try dsimp only at hSw); go_simp <;> (try rfl)
    change wpAnyH _ _ _ _ _ _ _ (Act.put _ (some (134 : Nat)) (.pointer (some ⟨h_, p1, none⟩))) _
    simp only [Act.put, List.setIfInBounds_toArray, List.set_cons_zero, List.set_cons_succ]
    refine wpAnyH_take (i := 48) (v := (.pointer (some ⟨h_, p1, none⟩))) rfl (by kernel_rfl) (by kernel_rfl) (by kernel_rfl) (fun _ _ _ h => h) (Or.inl ⟨by kernel_rfl, fun w hSw => ?_⟩) (by assumption) ?_
    · (try dsimp only at hSw); go_simp <;> (try rfl)
    change wpAnyH _ _ _ _ _ _ _ (Act.put _ (some (135 : Nat)) (.pointer (some ⟨h_, p1, none⟩))) _
    simp only [Act.put, List.setIfInBounds_toArray, List.set_cons_zero, List.set_cons_succ]
    refine wpAnyH_take (i := 49) (v := (.int .i64 q0.cl)) rfl (by kernel_rfl) (by kernel_rfl) (by kernel_rfl) (fun _ _ _ h => h) (yields_load_at (by kernel_rfl) 3 (.tmp 135) rfl (.pointer (some ⟨h_, p1, none⟩)) rfl (.int .i64 q0.cl) (fun W hW => load_one' (by kernel_rfl) ((hW.cell (World.block_lt_of_cell? wu _ HQ0.out)).trans HQ0.out))) (by assumption) ?_
    change wpAnyH _ _ _ _ _ _ _ (Act.put _ (some (136 : Nat)) (.int .i64 q0.cl)) _
    simp only [Act.put, List.setIfInBounds_toArray, List.set_cons_zero, List.set_cons_succ]
    refine wpAnyH_take (i := 50) (v := (.pointer (some ⟨v1.heap.size, 3, none⟩))) rfl (by kernel_rfl) (by kernel_rfl) (by kernel_rfl) (fun _ _ _ h => h) (Or.inl ⟨by kernel_rfl, fun w hSw => ?_⟩) (by assumption) ?_
    · (try dsimp only at hSw); go_simp <;> (try rfl)
    change wpAnyH _ _ _ _ _ _ _ (Act.put _ (some (137 : Nat)) (.pointer (some ⟨v1.heap.size, 3, none⟩))) _
    simp only [Act.put, List.setIfInBounds_toArray, List.set_cons_zero, List.set_cons_succ]
    refine wpAnyH_take (i := 51) (v := (.slice (some ⟨h_, p1, none⟩) 2 d6)) rfl (by kernel_rfl) (by kernel_rfl) (by kernel_rfl) (fun _ _ _ h => h) (yields_load_at (by kernel_rfl) 23 (.tmp 137) rfl (.pointer (some ⟨v1.heap.size, 3, none⟩)) rfl (.slice (some ⟨h_, p1, none⟩) 2 d6) (fun W hW => load_one' (by kernel_rfl) ((G9u.out.through hW).cellAt (i := 3) rfl))) (by assumption) ?_
    change wpAnyH _ _ _ _ _ _ _ (Act.put _ (some (138 : Nat)) (.slice (some ⟨h_, p1, none⟩) 2 d6)) _
    simp only [Act.put, List.setIfInBounds_toArray, List.set_cons_zero, List.set_cons_succ]
    refine wpAnyH_take (i := 52) (v := (.pointer (some ⟨h_, p1 + 3, none⟩))) rfl (by kernel_rfl) (by kernel_rfl) (by kernel_rfl) (fun _ _ _ h => h) (Or.inl ⟨by kernel_rfl, fun w hSw => ?_⟩) (by assumption) ?_
    · (try dsimp only at hSw); go_simp <;> (try rfl)
    change wpAnyH _ _ _ _ _ _ _ (Act.put _ (some (139 : Nat)) (.pointer (some ⟨h_, p1 + 3, none⟩))) _
    simp only [Act.put, List.setIfInBounds_toArray, List.set_cons_zero, List.set_cons_succ]
    refine wpAnyH_take (i := 53) (v := (.pointer (some ⟨h_, p1 + 3, none⟩))) rfl (by kernel_rfl) (by kernel_rfl) (by kernel_rfl) (fun _ _ _ h => h) (Or.inl ⟨by kernel_rfl, fun w hSw => ?_⟩) (by assumption) ?_
    · (try dsimp only at hSw); go_simp <;> (try rfl)
    change wpAnyH _ _ _ _ _ _ _ (Act.put _ (some (140 : Nat)) (.pointer (some ⟨h_, p1 + 3, none⟩))) _
    simp only [Act.put, List.setIfInBounds_toArray, List.set_cons_zero, List.set_cons_succ]
    refine wpAnyH_take (i := 54) (v := (.int .i64 q1.cl)) rfl (by kernel_rfl) (by kernel_rfl) (by kernel_rfl) (fun _ _ _ h => h) (yields_load_at (by kernel_rfl) 3 (.tmp 140) rfl (.pointer (some ⟨h_, p1 + 3, none⟩)) rfl (.int .i64 q1.cl) (fun W hW => load_one' (by kernel_rfl) ((hW.cell (World.block_lt_of_cell? wu _ HQ1.out)).trans HQ1.out))) (by assumption) ?_
    change wpAnyH _ _ _ _ _ _ _ (Act.put _ (some (141 : Nat)) (.int .i64 q1.cl)) _
    simp only [Act.put, List.setIfInBounds_toArray, List.set_cons_zero, List.set_cons_succ]
    refine wpAnyH_take (i := 55) (v := (.bool true)) rfl (by kernel_rfl) (by kernel_rfl) (by kernel_rfl) (fun _ _ _ h => h) (Or.inl ⟨by kernel_rfl, fun w hSw => ?_⟩) (by assumption) ?_
    · (try dsimp only at hSw); go_simp <;> (try rfl)
    change wpAnyH _ _ _ _ _ _ _ (Act.put _ (some (142 : Nat)) (.bool true)) _
    simp only [Act.put, List.setIfInBounds_toArray, List.set_cons_zero, List.set_cons_succ]
    refine wpAnyH_take (i := 56) (v := (.bool true)) rfl (by kernel_rfl) (by kernel_rfl) (by kernel_rfl) (fun _ _ _ h => h) (Or.inl ⟨by kernel_rfl, fun w hSw => ?_⟩) (by assumption) ?_
    · (try dsimp only at hSw); go_simp <;> (try rfl)
    change wpAnyH _ _ _ _ _ _ _ (Act.put _ (some (143 : Nat)) (.bool true)) _
    simp only [Act.put, List.setIfInBounds_toArray, List.set_cons_zero, List.set_cons_succ]
    refine wpAnyH_take (i := 57) (v := (.bool true)) rfl (by kernel_rfl) (by kernel_rfl) (by kernel_rfl) (fun _ _ _ h => h) (Or.inl ⟨by kernel_rfl, fun w hSw => ?_⟩) (by assumption) ?_
    · (try dsimp only at hSw); go_simp <;> (try rfl)
    change wpAnyH _ _ _ _ _ _ _ (Act.put _ (some (8 : Nat)) (.bool true)) _
    simp only [Act.put, List.setIfInBounds_toArray, List.set_cons_zero, List.set_cons_succ]
    refine wpAnyH_done (by kernel_rfl) ?_ _
    have HXz := Lib.hid (below_step HXu.out hHeld)
    clear hHeld
    go_wp2
    go_ret
    exact ⟨rfl, HXz.out⟩

end Go.Proofs.Ytkbeodlihmmdbaa
