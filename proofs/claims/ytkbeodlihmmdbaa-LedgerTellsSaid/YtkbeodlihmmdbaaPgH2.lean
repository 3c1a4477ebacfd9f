/-
  The program's read: so many, whatever fails.
-/
import Derived.Test.YtkbeodlihmmdbaaPgH1
namespace Go.Proofs.Ytkbeodlihmmdbaa
open Go.RowKit

theorem rdAll_step {α : Type} (rd : Option (List UInt8) → α × Option (List UInt8)) (k : Nat) (st : Option (List UInt8)) (pre : List α) : (pre ++ (rdAll rd (k + 1) st).1, (rdAll rd (k + 1) st).2) = ((pre ++ [(rd st).1]) ++ (rdAll rd k (rd st).2).1, (rdAll rd k (rd st).2).2) := by
  simp [rdAll]
theorem rdAll_zero {α : Type} (rd : Option (List UInt8) → α × Option (List UInt8)) (st : Option (List UInt8)) : rdAll rd 0 st = ([], st) := rfl
theorem rdAll_mem {α : Type} {rd : Option (List UInt8) → α × Option (List UInt8)} {p : α → Prop} (h : ∀ st, p (rd st).1) : ∀ (n : Nat) (st : Option (List UInt8)), ∀ x ∈ (rdAll rd n st).1, p x
  | 0, _, x, hx => by cases hx
  | n + 1, st, x, hx => by
    simp only [rdAll] at hx
    rcases List.mem_cons.1 hx with rfl | hx
    · exact h _
    · exact rdAll_mem h n _ x hx

/-- behind a call that turned block g an own block is turned -/
theorem only_own {a b c : World} {g : Nat} {row : Option Nat} (hab : a.grownBy b (some g)) (hbc : b.grownBy c row) (hh : ∀ h, row = some h → a.heap.size ≤ h) : a.grownBy c (some g) :=
  ⟨hbc.os.trans hab.os, hbc.tape.trans hab.tape, hbc.output.trans hab.output, Nat.le_trans hab.size hbc.size, fun i hi hne => (hbc.block i (Nat.lt_of_lt_of_le hi hab.size) (fun e => by have := hh i e.symm; omega)).trans (hab.block i hi hne)⟩

set_option maxHeartbeats 8000000 in
set_option maxRecDepth 100000 in
theorem readL_any {Q : Nat → Prop} (g : Nat) (st : Option (List UInt8)) (w : World) (h : Rs Q w g tR st) (hQ : ∀ b, Q b → b < w.heap.size) :
    Calls Try.prog 54 #[.pointer (some ⟨g, 0, none⟩), .int .i64 16, .func (.func 55) #[] #[]] w fun e w' => ∃ v, e = .returned v ∧ Os w' w.heap.size 27 6 v ((rdAll rdLt (cval 16 st) (cnext 16 st)).1.map Lt.cells) ∧ Rs Q w' g tR (rdAll rdLt (cval 16 st) (cnext 16 st)).2 ∧ w.grownBy w' (some g) := by
  have hco : Calls Try.prog 79 #[.pointer (some ⟨g, 0, none⟩), .int .i64 16] w fun e w' => e = .returned (.int .i64 (cval 16 st)) ∧ Rs Q w' g tR (cnext 16 st) ∧ w.grownBy w' (some g) := count_rs h 16
  have HLT := Lib.hid h.lt
  have HQ := Lib.hid hQ
  have hle := cval_le 16 st
  have hrd : ∀ (W : World) (s : Option (List UInt8)), Rs Q W g tR s → w.heap.size ≤ W.heap.size → Calls Try.prog 55 #[.pointer (some ⟨g, 0, none⟩)] W fun e w' => e = .returned (.agg (rdLt s).1.cells.toArray) ∧ Rs Q w' g tR (rdLt s).2 ∧ W.grownBy w' (some g) := fun W s hR hW => readletter_any g s W hR (fun b hb => Nat.lt_of_lt_of_le (hQ b hb) hW)
  have HRd0 := Lib.hid hrd
  generalize cval 16 st = n at *
  generalize cnext 16 st = s0 at *
  obtain ⟨L, hL⟩ : ∃ L, rdAll rdLt n s0 = L := ⟨_, rfl⟩
  rw [hL]
  have HL := Lib.hid hL
  have HCo := Lib.hid hco
  clear h hQ hco hrd hL
  go_enter Try.func54, Try.ntmps54
  go_wp2_with (first
    | (go_at_call 79; (with_reducible refine HCo.out.mono ?_); rintro e w1 ⟨rfl, hr1, hg1⟩; have HR1 := Lib.hid hr1; have HG1 := Lib.hid hg1; clear hr1 hg1))
  go_loopw [7, 11] (fun lv iv wr => ∃ (i : Nat) (pre : List Lt) (s : Option (List UInt8)), i ≤ n ∧ pre.length = i ∧ iv = .int .i64 i ∧ (pre ++ (rdAll rdLt (n - i) s).1, (rdAll rdLt (n - i) s).2) = L ∧ Os wr w.heap.size 27 6 lv (pre.map Lt.cells) ∧ Rs Q wr g tR s ∧ w.grownBy wr (some g)) (fun _ iv _ => n - (intOf iv).toNat)
  case atStart => exact ⟨0, [], s0, Nat.zero_le _, rfl, rfl, HL.out, Os.nil _ _ _ _, HR1.out, HG1.out⟩
  case round =>
    obtain ⟨i, pre, s, hi, hpl, rfl, hp, ho, hr, hg⟩ := hrel
    have HOi := Lib.hid ho
    have HRi := Lib.hid hr
    have HGi := Lib.hid hg
    have HP := Lib.hid hp
    have HPl := Lib.hid hpl
    obtain ⟨An, nn, cn, rfl, hnn⟩ := ho.out'
    have HNN := Lib.hid hnn
    have hpb : pre.length ≤ 1000 := by omega
    clear ho hr hg hp hpl hnn
    by_cases hlt : i < n
    · have e1 : n - i = n - (i + 1) + 1 := by omega
      have hp := HP.out
      rw [e1, rdAll_step] at hp
      have HP2 := Lib.hid hp
      clear e1 hp
      obtain ⟨⟨y, s2⟩, hy⟩ : ∃ r, rdLt s = r := ⟨_, rfl⟩
      have hrd : ∀ W : World, Rs Q W g tR s → w.heap.size ≤ W.heap.size → Calls Try.prog 55 #[.pointer (some ⟨g, 0, none⟩)] W fun e w' => e = .returned (.agg #[.string (ba y.nm), .int .i64 y.st, .int .i64 y.am, .int .i64 y.du, .string (ba y.po), .string (ba y.pa)]) ∧ Rs Q w' g tR s2 ∧ W.grownBy w' (some g) := fun W hR hW => by
        have h9 := HRd0.out W s hR hW
        rw [hy] at h9
        exact h9
      have HP3 : Hid ((pre ++ [y] ++ (rdAll rdLt (n - (i + 1)) s2).1, (rdAll rdLt (n - (i + 1)) s2).2) = L) := Lib.hid (by have h9 := HP2.out; rw [hy] at h9; exact h9)
      have HRd := Lib.hid hrd
      clear hrd hy
      go_wp2_with (first
        | (go_at_call 55; (with_reducible refine (HRd.out _ HRi.out (Nat.le_trans (Nat.le_refl _) HGi.out.size)).mono ?_); rintro e w2 ⟨rfl, hr2, hg2⟩; have HR2 := Lib.hid hr2; have HG2 := Lib.hid (only_trans HGi.out hg2); have HO2 := Lib.hid (HOi.out.far hg2 HLT.out); clear hr2 hg2)
        | (refine wpList_build_el rfl Try.el_lt (.tmp 16) rfl [.string (ba y.nm), .int .i64 y.st, .int .i64 y.am, .int .i64 y.du, .string (ba y.po), .string (ba y.pa)] rfl rfl ?_)
        | (at_builtin; refine wpList_append_el rfl Try.el_lt (.tmp 13) (.tmp 17) rfl w.heap.size _ (pre.map Lt.cells) rfl (HO2.out.alloc (.cells #[.string (ba y.nm), .int .i64 y.st, .int .i64 y.am, .int .i64 y.du, .string (ba y.po), .string (ba y.pa)] 27)) _ [.string (ba y.nm), .int .i64 y.st, .int .i64 y.am, .int .i64 y.du, .string (ba y.po), .string (ba y.pa)] rfl (Blk.fresh rfl rfl) rfl (fun u hu => by simp at hu; rcases hu with rfl | rfl | rfl | rfl | rfl | rfl <;> rfl) (by (try simp); omega) (by have := HG2.out.size; (try simp); omega) ?_; intro v3 w3 ho3 hg3; have HO3 := Lib.hid ho3; have HG3 : Hid (w.grownBy w3 (some g)) := Lib.hid (only_own (only_trans HG2.out (only_below (below1 w2 (.cells #[.string (ba y.nm), .int .i64 y.st, .int .i64 y.am, .int .i64 y.du, .string (ba y.po), .string (ba y.pa)] 27)))) hg3 (fun b hb => (HO2.out.lt b hb).1)); have HR3 := Lib.hid ((HR2.out.alloc (.cells #[.string (ba y.nm), .int .i64 y.st, .int .i64 y.am, .int .i64 y.du, .string (ba y.po), .string (ba y.pa)] 27)).other hg3 (fun b hb => ⟨by have := (HO2.out.lt b hb).1; have := HLT.out; omega, fun h9 => by have := (HO2.out.lt b hb).1; have := HQ.out b h9; omega⟩)); clear ho3 hg3))
      go_roundw
      case rel => exact ⟨i + 1, pre ++ [y], s2, by omega, by have := HPl.out; simp; omega, by go_num, HP3.out, by (rw [List.map_append]; exact HO3.out), HR3.out, HG3.out⟩
      case measure => simp [intOf]; omega
    · have e1 : n - i = 0 := by omega
      have hp := HP.out
      rw [e1, rdAll_zero] at hp
      have HP2 := Lib.hid hp
      clear e1 hp
      go_wp2
      go_ret
      exact ⟨_, rfl, by rw [← HP2.out]; simpa using HOi.out, by rw [← HP2.out]; exact HRi.out, HGi.out⟩

set_option maxHeartbeats 8000000 in
set_option maxRecDepth 100000 in
theorem readO_any {Q : Nat → Prop} (g : Nat) (st : Option (List UInt8)) (w : World) (h : Rs Q w g tR st) (hQ : ∀ b, Q b → b < w.heap.size) :
    Calls Try.prog 56 #[.pointer (some ⟨g, 0, none⟩), .int .i64 4, .func (.func 57) #[] #[]] w fun e w' => ∃ v, e = .returned v ∧ Os w' w.heap.size 30 3 v ((rdAll rdOc (cval 4 st) (cnext 4 st)).1.map Oc.cells) ∧ Rs Q w' g tR (rdAll rdOc (cval 4 st) (cnext 4 st)).2 ∧ w.grownBy w' (some g) := by
  have hco : Calls Try.prog 79 #[.pointer (some ⟨g, 0, none⟩), .int .i64 4] w fun e w' => e = .returned (.int .i64 (cval 4 st)) ∧ Rs Q w' g tR (cnext 4 st) ∧ w.grownBy w' (some g) := count_rs h 4
  have HLT := Lib.hid h.lt
  have HQ := Lib.hid hQ
  have hle := cval_le 4 st
  have hrd : ∀ (W : World) (s : Option (List UInt8)), Rs Q W g tR s → w.heap.size ≤ W.heap.size → Calls Try.prog 57 #[.pointer (some ⟨g, 0, none⟩)] W fun e w' => e = .returned (.agg (rdOc s).1.cells.toArray) ∧ Rs Q w' g tR (rdOc s).2 ∧ W.grownBy w' (some g) := fun W s hR hW => readoutcome_any g s W hR (fun b hb => Nat.lt_of_lt_of_le (hQ b hb) hW)
  have HRd0 := Lib.hid hrd
  generalize cval 4 st = n at *
  generalize cnext 4 st = s0 at *
  obtain ⟨L, hL⟩ : ∃ L, rdAll rdOc n s0 = L := ⟨_, rfl⟩
  rw [hL]
  have HL := Lib.hid hL
  have HCo := Lib.hid hco
  clear h hQ hco hrd hL
  go_enter Try.func56, Try.ntmps56
  go_wp2_with (first
    | (go_at_call 79; (with_reducible refine HCo.out.mono ?_); rintro e w1 ⟨rfl, hr1, hg1⟩; have HR1 := Lib.hid hr1; have HG1 := Lib.hid hg1; clear hr1 hg1))
  go_loopw [7, 11] (fun lv iv wr => ∃ (i : Nat) (pre : List Oc) (s : Option (List UInt8)), i ≤ n ∧ pre.length = i ∧ iv = .int .i64 i ∧ (pre ++ (rdAll rdOc (n - i) s).1, (rdAll rdOc (n - i) s).2) = L ∧ Os wr w.heap.size 30 3 lv (pre.map Oc.cells) ∧ Rs Q wr g tR s ∧ w.grownBy wr (some g)) (fun _ iv _ => n - (intOf iv).toNat)
  case atStart => exact ⟨0, [], s0, Nat.zero_le _, rfl, rfl, HL.out, Os.nil _ _ _ _, HR1.out, HG1.out⟩
  case round =>
    obtain ⟨i, pre, s, hi, hpl, rfl, hp, ho, hr, hg⟩ := hrel
    have HOi := Lib.hid ho
    have HRi := Lib.hid hr
    have HGi := Lib.hid hg
    have HP := Lib.hid hp
    have HPl := Lib.hid hpl
    obtain ⟨An, nn, cn, rfl, hnn⟩ := ho.out'
    have HNN := Lib.hid hnn
    have hpb : pre.length ≤ 1000 := by omega
    clear ho hr hg hp hpl hnn
    by_cases hlt : i < n
    · have e1 : n - i = n - (i + 1) + 1 := by omega
      have hp := HP.out
      rw [e1, rdAll_step] at hp
      have HP2 := Lib.hid hp
      clear e1 hp
      obtain ⟨⟨y, s2⟩, hy⟩ : ∃ r, rdOc s = r := ⟨_, rfl⟩
      have hrd : ∀ W : World, Rs Q W g tR s → w.heap.size ≤ W.heap.size → Calls Try.prog 57 #[.pointer (some ⟨g, 0, none⟩)] W fun e w' => e = .returned (.agg #[.int .i64 y.cl, .int .i64 y.sp, .int .i64 y.rs]) ∧ Rs Q w' g tR s2 ∧ W.grownBy w' (some g) := fun W hR hW => by
        have h9 := HRd0.out W s hR hW
        rw [hy] at h9
        exact h9
      have HP3 : Hid ((pre ++ [y] ++ (rdAll rdOc (n - (i + 1)) s2).1, (rdAll rdOc (n - (i + 1)) s2).2) = L) := Lib.hid (by have h9 := HP2.out; rw [hy] at h9; exact h9)
      have HRd := Lib.hid hrd
      clear hrd hy
      go_wp2_with (first
        | (go_at_call 57; (with_reducible refine (HRd.out _ HRi.out (Nat.le_trans (Nat.le_refl _) HGi.out.size)).mono ?_); rintro e w2 ⟨rfl, hr2, hg2⟩; have HR2 := Lib.hid hr2; have HG2 := Lib.hid (only_trans HGi.out hg2); have HO2 := Lib.hid (HOi.out.far hg2 HLT.out); clear hr2 hg2)
        | (refine wpList_build_el rfl Try.el_oc (.tmp 16) rfl [.int .i64 y.cl, .int .i64 y.sp, .int .i64 y.rs] rfl rfl ?_)
        | (at_builtin; refine wpList_append_el rfl Try.el_oc (.tmp 13) (.tmp 17) rfl w.heap.size _ (pre.map Oc.cells) rfl (HO2.out.alloc (.cells #[.int .i64 y.cl, .int .i64 y.sp, .int .i64 y.rs] 30)) _ [.int .i64 y.cl, .int .i64 y.sp, .int .i64 y.rs] rfl (Blk.fresh rfl rfl) rfl (fun u hu => by simp at hu; rcases hu with rfl | rfl | rfl <;> rfl) (by (try simp); omega) (by have := HG2.out.size; (try simp); omega) ?_; intro v3 w3 ho3 hg3; have HO3 := Lib.hid ho3; have HG3 : Hid (w.grownBy w3 (some g)) := Lib.hid (only_own (only_trans HG2.out (only_below (below1 w2 (.cells #[.int .i64 y.cl, .int .i64 y.sp, .int .i64 y.rs] 30)))) hg3 (fun b hb => (HO2.out.lt b hb).1)); have HR3 := Lib.hid ((HR2.out.alloc (.cells #[.int .i64 y.cl, .int .i64 y.sp, .int .i64 y.rs] 30)).other hg3 (fun b hb => ⟨by have := (HO2.out.lt b hb).1; have := HLT.out; omega, fun h9 => by have := (HO2.out.lt b hb).1; have := HQ.out b h9; omega⟩)); clear ho3 hg3))
      go_roundw
      case rel => exact ⟨i + 1, pre ++ [y], s2, by omega, by have := HPl.out; simp; omega, by go_num, HP3.out, by (rw [List.map_append]; exact HO3.out), HR3.out, HG3.out⟩
      case measure => simp [intOf]; omega
    · have e1 : n - i = 0 := by omega
      have hp := HP.out
      rw [e1, rdAll_zero] at hp
      have HP2 := Lib.hid hp
      clear e1 hp
      go_wp2
      go_ret
      exact ⟨_, rfl, by rw [← HP2.out]; simpa using HOi.out, by rw [← HP2.out]; exact HRi.out, HGi.out⟩

end Go.Proofs.Ytkbeodlihmmdbaa
