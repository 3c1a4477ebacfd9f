/-
  The document's IsName, Find, Last, walked.
-/
import Derived.Test.YtkbeodlihmmdbaaLgM
namespace Go.Proofs.Ytkbeodlihmmdbaa
open Go.RowKit

theorem Try.zero_lt (w : World) : (zeroValue 27).run Try.prog w = .ok (.agg #[.string (ba []), .int .i64 0, .int .i64 0, .int .i64 0, .string (ba []), .string (ba [])]) w := by kernel_rfl
theorem Try.build_no (w : World) : (Instr.build 27 #[]).run Try.prog w = .ok (.agg #[.string (ba []), .int .i64 0, .int .i64 0, .int .i64 0, .string (ba []), .string (ba [])]) w := by kernel_rfl
theorem nmB_yes {x : UInt8} (h : 97 ≤ x.toNat ∧ x.toNat ≤ 122 ∨ 48 ≤ x.toNat ∧ x.toNat ≤ 57 ∨ x.toNat = 45) : nmB x = true := by
  simp only [nmB, Bool.or_eq_true, Bool.and_eq_true, decide_eq_true_eq, beq_iff_eq]
  omega
theorem nmB_no {x : UInt8} (h : ¬ (97 ≤ x.toNat ∧ x.toNat ≤ 122 ∨ 48 ≤ x.toNat ∧ x.toNat ≤ 57 ∨ x.toNat = 45)) : nmB x = false := by
  cases hb : nmB x
  · rfl
  · simp only [nmB, Bool.or_eq_true, Bool.and_eq_true, decide_eq_true_eq, beq_iff_eq] at hb
    omega
theorem isNm_eq (l : List UInt8) : isNm l = (l.all nmB && (decide (1 ≤ l.length) && decide (l.length ≤ 16))) := by unfold isNm; rw [Bool.and_assoc]
theorem ret_b {a b : Bool} (h : a = b) : Ending.returned (Value.bool a) = .returned (.bool b) := by rw [h]

set_option maxHeartbeats 4000000 in
theorem risname_any (l : List UInt8) (w : World) (hl : l.length ≤ 1000000) : Calls Try.prog 19 #[.string (ba l)] w fun e w' => e = .returned (.bool (isNm l)) ∧ w' = w := by
  have hsz := ba_size
  obtain ⟨bb, hbb⟩ : ∃ bb, isNm l = bb := ⟨_, rfl⟩
  rw [hbb]
  have HBB := Lib.hid hbb
  clear hbb
  go_enter Try.func19, Try.ntmps19
  go_wp2
  go_loopw [3] (fun iv wr => ∃ i : Nat, i ≤ l.length ∧ iv = .int .i64 i ∧ (l.take i).all nmB = true ∧ wr = w) (fun iv _ => l.length - (intOf iv).toNat)
  case atStart => exact ⟨0, Nat.zero_le _, rfl, rfl, rfl⟩
  case round =>
    obtain ⟨i, hi, rfl, ha, rfl⟩ := hrel
    by_cases hlt : i < l.length
    · obtain ⟨x, hx⟩ : ∃ x, l[i]? = some x := ⟨_, List.getElem?_eq_getElem hlt⟩
      have hix := run_index_ba Try.underlying9 l .i64 i i rfl x hx
      have hal : (l.take (i + 1)).all nmB = nmB x := by
        rw [List.take_add_one, hx]
        simp [ha]
      have hxl := x.toNat_lt
      have hall : nmB x = false → l.all nmB = false := fun h => by
        rw [← List.take_append_drop (i + 1) l, List.all_append, hal, h]
        rfl
      have HA := Lib.hid hal
      have HB := Lib.hid hall
      clear ha hal hall
      by_cases hy : 97 ≤ x.toNat ∧ x.toNat ≤ 122 ∨ 48 ≤ x.toNat ∧ x.toNat ≤ 57 ∨ x.toNat = 45
      · have HY := Lib.hid (nmB_yes hy)
        generalize x.toNat = v at *
        rcases hy with ⟨h, h'⟩ | ⟨h, h'⟩ | h
        all_goals
          go_wp2
          go_roundw
          case rel => exact ⟨i + 1, by omega, by go_num, HA.out.trans HY.out, trivial⟩
          case measure => simp [intOf]; omega
      · have HN := Lib.hid (HB.out (nmB_no hy))
        have hcases : x.toNat < 45 ∨ (45 < x.toNat ∧ x.toNat < 48) ∨ (57 < x.toNat ∧ x.toNat < 97) ∨ 122 < x.toNat := by omega
        clear HA HB hy
        generalize x.toNat = v at *
        have hne : ((v : Int) == 45) = false := by simp; omega
        rcases hcases with h | ⟨h, h'⟩ | ⟨h, h'⟩ | h
        · go_wp2
          go_ret
          exact ⟨ret_b (by rw [← HBB.out, isNm_eq, HN.out]; rfl), rfl⟩
        · go_wp2
          go_ret
          exact ⟨ret_b (by rw [← HBB.out, isNm_eq, HN.out]; rfl), rfl⟩
        · have b57 : decide ((v : Int) ≤ 57) = false := by simp; omega
          go_wp2
          go_ret
          exact ⟨ret_b (by rw [← HBB.out, isNm_eq, HN.out]; rfl), rfl⟩
        · have b57 : decide ((v : Int) ≤ 57) = false := by simp; omega
          have b122 : decide ((v : Int) ≤ 122) = false := by simp; omega
          go_wp2
          go_ret
          exact ⟨ret_b (by rw [← HBB.out, isNm_eq, HN.out]; rfl), rfl⟩
    · have e : l.take i = l := List.take_of_length_le (by omega)
      rw [e] at ha
      have HA := Lib.hid ha
      clear e ha
      by_cases h1 : 1 ≤ l.length
      · by_cases h16 : l.length ≤ 16
        · go_wp2
          go_ret
          exact ⟨ret_b (by rw [← HBB.out, isNm_eq, HA.out]; simp [h1, h16]; try omega), rfl⟩
        · go_wp2
          go_ret
          exact ⟨ret_b (by rw [← HBB.out, isNm_eq, HA.out]; simp [h1, h16]; try omega), rfl⟩
      · go_wp2
        go_ret
        exact ⟨ret_b (by rw [← HBB.out, isNm_eq, HA.out]; simp [h1]; try omega), rfl⟩

def findR (o : Option Lt) : Lt × Bool := match o with | some x => (x, true) | none => (Lt.no, false)
def lastR (o : Option Oc) : Oc × Bool := match o with | some x => (x, true) | none => (Oc.no, false)
theorem findL_cons (nm : List UInt8) (x : Lt) (xs : List Lt) : findL nm (x :: xs) = if x.nm = nm then some x else findL nm xs := rfl
theorem lastL_cons (c : Int) (x : Oc) (xs : List Oc) : lastL c (x :: xs) = if x.cl = c then some x else lastL c xs := rfl

set_option maxHeartbeats 4000000 in
set_option maxRecDepth 100000 in
theorem rfind_any (l : Lg) (nm : List UInt8) (A : Option Addr) (n c : Nat) (B : Option Addr) (m d : Nat) (w : World) (h : LgIn w A n B m l) (hn : n ≤ 1000000) :
    Calls Try.prog 14 #[l.val A n c B m d, .string (ba nm)] w fun e w' => e = .returned (.tuple #[(findR (findL nm l.ls)).1.val, .bool (findR (findL nm l.ls)).2]) ∧ Below w.heap.size w w' := by
  have HI := Lib.hid h
  have hli := ba_list
  have hz := Try.zero_lt
  have hbn := Try.build_no
  obtain ⟨r, hr⟩ : ∃ r, findL nm l.ls = r := ⟨_, rfl⟩
  rw [hr]
  have HR := Lib.hid hr
  clear h hr
  unfold Lg.val
  have H0 : Hid (Blk ((w.alloc (.cells #[.int .i64 l.sq, .int .i64 l.tt, .slice A n c, .slice B m d] 25)).alloc (.cells #[.string (ba []), .int .i64 0, .int .i64 0, .int .i64 0, .string (ba []), .string (ba [])] 27)) (w.heap.size + 1) 27 [.string (ba []), .int .i64 0, .int .i64 0, .int .i64 0, .string (ba []), .string (ba [])]) := Lib.hid (Blk.fresh (by simp) rfl)
  have HIX := Lib.hid Try.ix_lt
  go_enter Try.func14, Try.ntmps14
  go_wp2
  go_loopw [11] (fun iv wr => ∃ i : Nat, i ≤ n ∧ iv = .int .i64 i ∧ findL nm (l.ls.drop i) = r ∧ Blk wr (w.heap.size + 1) 27 [.string (ba []), .int .i64 0, .int .i64 0, .int .i64 0, .string (ba []), .string (ba [])] ∧ Below w.heap.size w wr) (fun iv _ => n - (intOf iv).toNat)
  case atStart => exact ⟨0, Nat.zero_le _, rfl, HR.out, H0.out, below2 w _ _⟩
  case round =>
    obtain ⟨i, hi, rfl, hf, hb, hx⟩ := hrel
    have HX := Lib.hid hx
    have HB := Lib.hid hb
    clear hx hb
    by_cases hlt : i < n
    · obtain ⟨g, o, x, rfl, _, _, hd, hrg⟩ := (HI.out.through HX.out).lt_at hlt
      rw [hd, findL_cons] at hf
      have HRg := Lib.hid hrg
      have hix := HIX.out wr g o n c i hlt
      clear hrg hd
      by_cases hnm : x.nm = nm
      · rw [if_pos hnm] at hf
        have hnb : (x.nm == nm) = true := by simpa using hnm
        have HF := Lib.hid hf
        clear hf hnm
        go_wp2_with (first
          | (refine wpList_load_mid rfl 27 (.tmp 13) rfl g (o + i * 6) rfl [.string (ba x.nm), .int .i64 x.st, .int .i64 x.am, .int .i64 x.du, .string (ba x.po), .string (ba x.pa)] _ HRg.out Try.underlying27 rfl (by kernel_rfl) ?_)
          | (refine wpList_store_blk rfl 27 (.tmp 4) (.tmp 19) rfl (w.heap.size + 1) [.string (ba x.nm), .int .i64 x.st, .int .i64 x.am, .int .i64 x.du, .string (ba x.po), .string (ba x.pa)] rfl rfl 27 [.string (ba []), .int .i64 0, .int .i64 0, .int .i64 0, .string (ba []), .string (ba [])] (HB.out.alloc _) (by kernel_rfl) rfl (one6 _ _ _ _ _ _) ?_; intro wb hbb hgb; have HBb := Lib.hid hbb; have HXb : Hid (Below w.heap.size w wb) := Lib.hid ((HX.out.alloc HX.out.size _).grown hgb (by have := HX.out.size; simp; omega) (fun k hk => by have := Option.some.inj hk; omega)); clear hbb hgb))
        (try simp only [Exit.inBlock, Exit.then]); refine bodyPost_ret (results_cell_row_tmp1 rfl _ _ (w.heap.size + 1) 27 _ (0, 0) _ rfl HBb.out Try.underlying27 rfl (by kernel_rfl)) rfl ⟨?_, HXb.out⟩
        rw [← HF.out]
        rfl
      · rw [if_neg hnm] at hf
        have hnb : (x.nm == nm) = false := by simpa using hnm
        have HF := Lib.hid hf
        clear hf hnm
        go_wp2_with (first
          | (refine wpList_load_mid rfl 27 (.tmp 13) rfl g (o + i * 6) rfl [.string (ba x.nm), .int .i64 x.st, .int .i64 x.am, .int .i64 x.du, .string (ba x.po), .string (ba x.pa)] _ HRg.out Try.underlying27 rfl (by kernel_rfl) ?_))
        go_roundw
        case rel => exact ⟨i + 1, by omega, by go_num, HF.out, HB.out.alloc _, HX.out.alloc HX.out.size _⟩
        case measure => simp [intOf]; omega
    · have hl : l.ls.drop i = [] := List.drop_of_length_le (by have := HI.out.len; omega)
      rw [hl] at hf
      have HF := Lib.hid hf
      clear hl hf
      go_wp2_with (refine wpList_store_blk rfl 27 (.tmp 4) (.tmp 21) rfl (w.heap.size + 1) [.string (ba []), .int .i64 0, .int .i64 0, .int .i64 0, .string (ba []), .string (ba [])] rfl rfl 27 [.string (ba []), .int .i64 0, .int .i64 0, .int .i64 0, .string (ba []), .string (ba [])] HB.out (by kernel_rfl) rfl (one6 _ _ _ _ _ _) ?_; intro wb hbb hgb; have HBb := Lib.hid hbb; have HXb : Hid (Below w.heap.size w wb) := Lib.hid (HX.out.grown hgb HX.out.size (fun k hk => by have := Option.some.inj hk; omega)); clear hbb hgb)
      (try simp only [Exit.inBlock, Exit.then]); refine bodyPost_ret (results_cell_row_tmp1 rfl _ _ (w.heap.size + 1) 27 _ (0, 0) _ rfl HBb.out Try.underlying27 rfl (by kernel_rfl)) rfl ⟨?_, HXb.out⟩
      rw [← HF.out]
      rfl

end Go.Proofs.Ytkbeodlihmmdbaa
