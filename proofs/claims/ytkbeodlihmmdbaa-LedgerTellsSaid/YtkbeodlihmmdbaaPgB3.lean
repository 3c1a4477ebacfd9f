/-
  The program's halving (slices.BinarySearchFunc) with the closure of place; for letters and for outcomes.
-/
import Derived.Test.YtkbeodlihmmdbaaPgB2
namespace Go.Proofs.Ytkbeodlihmmdbaa
open Go.RowKit

theorem half_lt {i j : Nat} (h : i < j) : i ≤ (i + j) / 2 ∧ (i + j) / 2 < j := by omega
theorem ret_ib {a b : Int} {p q : Bool} (h : a = b) (h' : p = q) : Ending.returned (.tuple #[Value.int .i64 a, .bool p]) = .returned (.tuple #[.int .i64 b, .bool q]) := by rw [h, h']
theorem shr_one (s : Nat) (k : IntKind) (w : World) : (Op.shift .shr .u64 (s : Int) k 1).run Try.prog w = .ok (.int .u64 ((s / 2 : Nat) : Int)) w := by
  rw [shift_shr_any _ _ _ _ (by decide)]
  show Result.ok _ w = _
  congr 2
theorem wpList_load_mid_g {P : Program} {ops : Array Oper} {rest : List Oper} {op : Oper} {a : Act} {w : World} {Q : Exit → Act → World → Prop} (ty : TypeId) (x : Operand) (ho : op.op = .load ty x) (hw : Region.wanted op (yielded ops a.tmps) = true)
    (b o : Nat) (hx : a.eval x = .pointer (some ⟨b, o, none⟩)) (cs : List Value) (d : TypeDesc) (hc : w.rangeAt b o cs)
    (hu : P.underlying ty = some d) (hd : d.isRow = true) (hi : (P.info? ty).map (·.size) = some cs.length)
    (h : wpList P ops Q rest (a.put op.dst (.agg cs.toArray)) w) : wpList P ops Q (op :: rest) a w := by
  rw [wpList, if_pos hw]
  exact .inl (wp_load_mid ty x ho b o hx cs d hc hu hd hi h)

set_option maxHeartbeats 8000000 in
set_option maxRecDepth 100000 in
theorem halveL_any (ls : List Lt) (A : Option Addr) (n c : Nat) (k : List UInt8) (gk : Nat) (w : World) (h : Sl w 6 A n (ls.map Lt.cells)) (hn : n ≤ 1000000) (hk : Blk w gk 52 [.func (.func 28) #[] #[]]) (hr : ris (fun a b : Lt => ltS a.nm b.nm) ls = true) :
    Calls Try.prog 85 #[.slice A n c, .string (ba k), .func (.func 83) #[] #[.pointer (some ⟨gk, 0, none⟩)]] w fun e w' => e = .returned (.tuple #[.int .i64 ((plc (fun x : Lt => cmpS x.nm k) ls).1 : Nat), .bool (plc (fun x : Lt => cmpS x.nm k) ls).2]) ∧ Below w.heap.size w w' := by
  have HI := Lib.hid h
  have hlen : ls.length = n := by simpa using h.len
  have HLn := Lib.hid hlen
  have HIX := Lib.hid Try.ix_lt
  have hcall : ∀ (W : World) (x : Lt), Below w.heap.size w W → Calls Try.prog 83 #[.agg #[.string (ba x.nm), .int .i64 x.st, .int .i64 x.am, .int .i64 x.du, .string (ba x.po), .string (ba x.pa)], .string (ba k), .pointer (some ⟨gk, 0, none⟩)] W fun e w' => e = .returned (.int .i64 ((fun x : Lt => cmpS x.nm k) x)) ∧ Below W.heap.size W w' := fun W x hW => againstL_any x k gk W (hk.through hW)
  have HC := Lib.hid hcall
  have hmono := mono_lt hr k
  obtain ⟨cf, hcf⟩ : ∃ cf : Lt → Int, (fun x : Lt => cmpS x.nm k) = cf := ⟨_, rfl⟩
  have hmono2 : ∀ (j k : Nat) (y z : Lt), j < k → ls[j]? = some y → ls[k]? = some z → 0 ≤ cf y → 0 < cf z := by rw [← hcf]; exact hmono
  have HM := Lib.hid hmono2
  rw [hcf] at HC ⊢
  clear hcf hmono hmono2
  obtain ⟨bb, hbb⟩ : ∃ bb, plc cf ls = bb := ⟨_, rfl⟩
  rw [hbb]
  have HBB := Lib.hid hbb
  clear h hbb hlen hcall hk hr
  go_enter Try.func85, Try.ntmps85
  go_wp2
  go_loopw [9, 10] (fun iv jv wr => ∃ i j : Nat, i ≤ j ∧ j ≤ n ∧ iv = .int .i64 i ∧ jv = .int .i64 j ∧ (∀ (q : Nat) (y : Lt), q < i → ls[q]? = some y → cf y < 0) ∧ (∀ (q : Nat) (y : Lt), j ≤ q → ls[q]? = some y → 0 ≤ cf y) ∧ Below w.heap.size w wr) (fun iv jv _ => (intOf jv - intOf iv).toNat)
  case atStart => exact ⟨0, n, Nat.zero_le _, Nat.le_refl _, rfl, rfl, fun j y hj _ => absurd hj (Nat.not_lt_zero _), fun q y hq hy => absurd (List.getElem?_eq_some_iff.1 hy).1 (by have := HLn.out; omega), Below.refl _ _⟩
  case round =>
    obtain ⟨i, j, hij, hj, rfl, rfl, hlo, hhi, hx⟩ := hrel
    have HX := Lib.hid hx
    have HLo := Lib.hid hlo
    have HHi := Lib.hid hhi
    clear hx hlo hhi
    by_cases hlt : i < j
    · obtain ⟨hh1, hh2⟩ := half_lt hlt
      have hsh := fun (kk : IntKind) (W : World) => shr_one (i + j) kk W
      have hw1 : IntKind.i64.wrap ((i : Int) + (j : Int)) = ((i + j : Nat) : Int) := by rw [IntWalk.i64_in _ (by omega)]; simp
      have hw2 : IntKind.u64.wrap ((i + j : Nat) : Int) = ((i + j : Nat) : Int) := IntWalk.u64_in _ (by omega)
      have hs2 : ((i + j : Nat) : Int) / 2 = (((i + j) / 2 : Nat) : Int) := by omega
      have hsb : i + j ≤ 2000000 := by omega
      generalize i + j = s at *
      generalize s / 2 = m at *
      have hmb : m ≤ 1000000 := by omega
      have hw5 : Go.RowKit.wrap64 (m : Int) = (m : Int) := IntWalk.wrap64_in _ (by omega)
      have hw3 : IntKind.i64.wrap (m : Int) = (m : Int) := IntWalk.i64_in _ (by omega)
      obtain ⟨g, o, x, rfl, hxi, hmem, hd, hrx⟩ := (HI.out.through HX.out).at_lt (i := m) (by omega)
      have HRx := Lib.hid hrx
      have hix := HIX.out wr g o n c m (by omega)
      have hc := fun W hW => HC.out W x hW
      have HXi := Lib.hid hxi
      clear hrx hd hmem hxi
      obtain ⟨v, hv⟩ : ∃ v, cf x = v := ⟨_, rfl⟩
      rw [hv] at hc
      have HC2 := Lib.hid hc
      have HV := Lib.hid hv
      clear hc hv
      by_cases hq : v < 0
      · go_wp2_with (first
        | (refine wpList_load_mid rfl 27 (.tmp 27) rfl g (o + m * 6) rfl [.string (ba x.nm), .int .i64 x.st, .int .i64 x.am, .int .i64 x.du, .string (ba x.po), .string (ba x.pa)] _ HRx.out Try.underlying27 rfl (by kernel_rfl) ?_)
        | (go_at_call 83; (with_reducible refine (HC2.out _ HX.out).mono ?_); rintro e w5 ⟨rfl, hb5⟩; have HX5 : Hid (Below w.heap.size w w5) := Lib.hid (below_step HX.out hb5); clear hb5))
        go_roundw
        case rel => exact ⟨m + 1, j, by omega, hj, by go_num, rfl, fun q y hq2 hy => (Nat.lt_or_ge q m).elim (fun h9 => by
          rcases Int.lt_or_le (cf y) 0 with h8 | h8
          · exact h8
          · have h7 := HM.out q m y x h9 hy HXi.out h8
            rw [HV.out] at h7
            omega) (fun h9 => by
          have h8 : q = m := by omega
          subst h8
          rw [HXi.out] at hy
          injection hy with hy
          rw [← hy, HV.out]
          exact hq), HHi.out, HX5.out⟩
        case measure => simp [intOf]; omega
      · have hq0 : decide (v < 0) = false := by simpa using hq
        go_wp2_with (first
        | (refine wpList_load_mid rfl 27 (.tmp 27) rfl g (o + m * 6) rfl [.string (ba x.nm), .int .i64 x.st, .int .i64 x.am, .int .i64 x.du, .string (ba x.po), .string (ba x.pa)] _ HRx.out Try.underlying27 rfl (by kernel_rfl) ?_)
        | (go_at_call 83; (with_reducible refine (HC2.out _ HX.out).mono ?_); rintro e w5 ⟨rfl, hb5⟩; have HX5 : Hid (Below w.heap.size w w5) := Lib.hid (below_step HX.out hb5); clear hb5))
        go_roundw
        case rel => exact ⟨i, m, hh1, by omega, rfl, rfl, HLo.out, fun q y hq2 hy => (Nat.lt_or_ge m q).elim (fun h9 => Int.le_of_lt (HM.out m q x y h9 HXi.out hy (by rw [HV.out]; omega))) (fun h9 => by
          have h8 : q = m := by omega
          subst h8
          rw [HXi.out] at hy
          injection hy with hy
          rw [← hy, HV.out]
          omega), HX5.out⟩
        case measure => simp [intOf]; omega
    · have hji : j = i := by omega
      subst hji
      have hp := plc_cut HM.out HLo.out HHi.out (by have := HLn.out; omega)
      rw [HBB.out] at hp
      by_cases hlt2 : j < n
      · obtain ⟨g, o, x, rfl, hxi, hmem, hd, hrx⟩ := (HI.out.through HX.out).at_lt hlt2
        rw [hxi] at hp
        have HRx := Lib.hid hrx
        have hix := HIX.out wr g o n c j hlt2
        have hc := fun W hW => HC.out W x hW
        clear hrx hd hmem hxi
        obtain ⟨v, hv⟩ : ∃ v, cf x = v := ⟨_, rfl⟩
        rw [hv] at hc
        simp only [hv] at hp
        have HC2 := Lib.hid hc
        have HP := Lib.hid hp
        clear hc hv hp
        go_wp2_with (first
        | (refine wpList_load_mid_g 27 (.tmp 43) rfl (by kernel_rfl) g (o + j * 6) rfl [.string (ba x.nm), .int .i64 x.st, .int .i64 x.am, .int .i64 x.du, .string (ba x.po), .string (ba x.pa)] _ HRx.out Try.underlying27 rfl (by kernel_rfl) ?_)
        | (go_at_call 83; (with_reducible refine (HC2.out _ HX.out).mono ?_); rintro e w5 ⟨rfl, hb5⟩; have HX5 : Hid (Below w.heap.size w w5) := Lib.hid (below_step HX.out hb5); clear hb5))
        go_ret2
        exact ⟨by rw [HP.out]; rfl, HX5.out⟩
      · have hx0 : ls[j]? = none := List.getElem?_eq_none (by have := HLn.out; omega)
        rw [hx0] at hp
        have HP := Lib.hid hp
        clear hp hx0
        go_wp2
        go_ret2
        exact ⟨by rw [HP.out]; rfl, HX.out⟩

set_option maxHeartbeats 8000000 in
set_option maxRecDepth 100000 in
theorem halveO_any (ls : List Oc) (A : Option Addr) (n c : Nat) (k : Int) (gk : Nat) (w : World) (h : Sl w 3 A n (ls.map Oc.cells)) (hn : n ≤ 1000000) (hk : Blk w gk 56 [.func (.func 32) #[] #[]]) (hr : ris (fun a b : Oc => decide (a.cl < b.cl)) ls = true) :
    Calls Try.prog 92 #[.slice A n c, .int .i64 k, .func (.func 90) #[] #[.pointer (some ⟨gk, 0, none⟩)]] w fun e w' => e = .returned (.tuple #[.int .i64 ((plc (fun x : Oc => cmpI x.cl k) ls).1 : Nat), .bool (plc (fun x : Oc => cmpI x.cl k) ls).2]) ∧ Below w.heap.size w w' := by
  have HI := Lib.hid h
  have hlen : ls.length = n := by simpa using h.len
  have HLn := Lib.hid hlen
  have HIX := Lib.hid Try.ix_oc
  have hcall : ∀ (W : World) (x : Oc), Below w.heap.size w W → Calls Try.prog 90 #[.agg #[.int .i64 x.cl, .int .i64 x.sp, .int .i64 x.rs], .int .i64 k, .pointer (some ⟨gk, 0, none⟩)] W fun e w' => e = .returned (.int .i64 ((fun x : Oc => cmpI x.cl k) x)) ∧ Below W.heap.size W w' := fun W x hW => againstO_any x k gk W (hk.through hW)
  have HC := Lib.hid hcall
  have hmono := mono_oc hr k
  obtain ⟨cf, hcf⟩ : ∃ cf : Oc → Int, (fun x : Oc => cmpI x.cl k) = cf := ⟨_, rfl⟩
  have hmono2 : ∀ (j k : Nat) (y z : Oc), j < k → ls[j]? = some y → ls[k]? = some z → 0 ≤ cf y → 0 < cf z := by rw [← hcf]; exact hmono
  have HM := Lib.hid hmono2
  rw [hcf] at HC ⊢
  clear hcf hmono hmono2
  obtain ⟨bb, hbb⟩ : ∃ bb, plc cf ls = bb := ⟨_, rfl⟩
  rw [hbb]
  have HBB := Lib.hid hbb
  clear h hbb hlen hcall hk hr
  go_enter Try.func92, Try.ntmps92
  go_wp2
  go_loopw [9, 10] (fun iv jv wr => ∃ i j : Nat, i ≤ j ∧ j ≤ n ∧ iv = .int .i64 i ∧ jv = .int .i64 j ∧ (∀ (q : Nat) (y : Oc), q < i → ls[q]? = some y → cf y < 0) ∧ (∀ (q : Nat) (y : Oc), j ≤ q → ls[q]? = some y → 0 ≤ cf y) ∧ Below w.heap.size w wr) (fun iv jv _ => (intOf jv - intOf iv).toNat)
  case atStart => exact ⟨0, n, Nat.zero_le _, Nat.le_refl _, rfl, rfl, fun j y hj _ => absurd hj (Nat.not_lt_zero _), fun q y hq hy => absurd (List.getElem?_eq_some_iff.1 hy).1 (by have := HLn.out; omega), Below.refl _ _⟩
  case round =>
    obtain ⟨i, j, hij, hj, rfl, rfl, hlo, hhi, hx⟩ := hrel
    have HX := Lib.hid hx
    have HLo := Lib.hid hlo
    have HHi := Lib.hid hhi
    clear hx hlo hhi
    by_cases hlt : i < j
    · obtain ⟨hh1, hh2⟩ := half_lt hlt
      have hsh := fun (kk : IntKind) (W : World) => shr_one (i + j) kk W
      have hw1 : IntKind.i64.wrap ((i : Int) + (j : Int)) = ((i + j : Nat) : Int) := by rw [IntWalk.i64_in _ (by omega)]; simp
      have hw2 : IntKind.u64.wrap ((i + j : Nat) : Int) = ((i + j : Nat) : Int) := IntWalk.u64_in _ (by omega)
      have hs2 : ((i + j : Nat) : Int) / 2 = (((i + j) / 2 : Nat) : Int) := by omega
      have hsb : i + j ≤ 2000000 := by omega
      generalize i + j = s at *
      generalize s / 2 = m at *
      have hmb : m ≤ 1000000 := by omega
      have hw5 : Go.RowKit.wrap64 (m : Int) = (m : Int) := IntWalk.wrap64_in _ (by omega)
      have hw3 : IntKind.i64.wrap (m : Int) = (m : Int) := IntWalk.i64_in _ (by omega)
      obtain ⟨g, o, x, rfl, hxi, hmem, hd, hrx⟩ := (HI.out.through HX.out).at_oc (i := m) (by omega)
      have HRx := Lib.hid hrx
      have hix := HIX.out wr g o n c m (by omega)
      have hc := fun W hW => HC.out W x hW
      have HXi := Lib.hid hxi
      clear hrx hd hmem hxi
      obtain ⟨v, hv⟩ : ∃ v, cf x = v := ⟨_, rfl⟩
      rw [hv] at hc
      have HC2 := Lib.hid hc
      have HV := Lib.hid hv
      clear hc hv
      by_cases hq : v < 0
      · go_wp2_with (first
        | (refine wpList_load_mid rfl 30 (.tmp 27) rfl g (o + m * 3) rfl [.int .i64 x.cl, .int .i64 x.sp, .int .i64 x.rs] _ HRx.out Try.underlying30 rfl (by kernel_rfl) ?_)
        | (go_at_call 90; (with_reducible refine (HC2.out _ HX.out).mono ?_); rintro e w5 ⟨rfl, hb5⟩; have HX5 : Hid (Below w.heap.size w w5) := Lib.hid (below_step HX.out hb5); clear hb5))
        go_roundw
        case rel => exact ⟨m + 1, j, by omega, hj, by go_num, rfl, fun q y hq2 hy => (Nat.lt_or_ge q m).elim (fun h9 => by
          rcases Int.lt_or_le (cf y) 0 with h8 | h8
          · exact h8
          · have h7 := HM.out q m y x h9 hy HXi.out h8
            rw [HV.out] at h7
            omega) (fun h9 => by
          have h8 : q = m := by omega
          subst h8
          rw [HXi.out] at hy
          injection hy with hy
          rw [← hy, HV.out]
          exact hq), HHi.out, HX5.out⟩
        case measure => simp [intOf]; omega
      · have hq0 : decide (v < 0) = false := by simpa using hq
        go_wp2_with (first
        | (refine wpList_load_mid rfl 30 (.tmp 27) rfl g (o + m * 3) rfl [.int .i64 x.cl, .int .i64 x.sp, .int .i64 x.rs] _ HRx.out Try.underlying30 rfl (by kernel_rfl) ?_)
        | (go_at_call 90; (with_reducible refine (HC2.out _ HX.out).mono ?_); rintro e w5 ⟨rfl, hb5⟩; have HX5 : Hid (Below w.heap.size w w5) := Lib.hid (below_step HX.out hb5); clear hb5))
        go_roundw
        case rel => exact ⟨i, m, hh1, by omega, rfl, rfl, HLo.out, fun q y hq2 hy => (Nat.lt_or_ge m q).elim (fun h9 => Int.le_of_lt (HM.out m q x y h9 HXi.out hy (by rw [HV.out]; omega))) (fun h9 => by
          have h8 : q = m := by omega
          subst h8
          rw [HXi.out] at hy
          injection hy with hy
          rw [← hy, HV.out]
          omega), HX5.out⟩
        case measure => simp [intOf]; omega
    · have hji : j = i := by omega
      subst hji
      have hp := plc_cut HM.out HLo.out HHi.out (by have := HLn.out; omega)
      rw [HBB.out] at hp
      by_cases hlt2 : j < n
      · obtain ⟨g, o, x, rfl, hxi, hmem, hd, hrx⟩ := (HI.out.through HX.out).at_oc hlt2
        rw [hxi] at hp
        have HRx := Lib.hid hrx
        have hix := HIX.out wr g o n c j hlt2
        have hc := fun W hW => HC.out W x hW
        clear hrx hd hmem hxi
        obtain ⟨v, hv⟩ : ∃ v, cf x = v := ⟨_, rfl⟩
        rw [hv] at hc
        simp only [hv] at hp
        have HC2 := Lib.hid hc
        have HP := Lib.hid hp
        clear hc hv hp
        go_wp2_with (first
        | (refine wpList_load_mid_g 30 (.tmp 43) rfl (by kernel_rfl) g (o + j * 3) rfl [.int .i64 x.cl, .int .i64 x.sp, .int .i64 x.rs] _ HRx.out Try.underlying30 rfl (by kernel_rfl) ?_)
        | (go_at_call 90; (with_reducible refine (HC2.out _ HX.out).mono ?_); rintro e w5 ⟨rfl, hb5⟩; have HX5 : Hid (Below w.heap.size w w5) := Lib.hid (below_step HX.out hb5); clear hb5))
        go_ret2
        exact ⟨by rw [HP.out]; rfl, HX5.out⟩
      · have hx0 : ls[j]? = none := List.getElem?_eq_none (by have := HLn.out; omega)
        rw [hx0] at hp
        have HP := Lib.hid hp
        clear hp hx0
        go_wp2
        go_ret2
        exact ⟨by rw [HP.out]; rfl, HX.out⟩

end Go.Proofs.Ytkbeodlihmmdbaa
