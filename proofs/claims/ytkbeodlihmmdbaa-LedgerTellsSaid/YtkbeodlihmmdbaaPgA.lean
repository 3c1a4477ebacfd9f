/-
  The program's smallest calls: a name's letters, IsName, an element's key, how keys compare, Is.
-/
import Derived.Test.YtkbeodlihmmdbaaLgN
import Derived.Lib.OthersKept
import Derived.Laws.Cover1
import Derived.Laws.RangeAny
namespace Go.Proofs.Ytkbeodlihmmdbaa
open Go.RowKit

/-- may a name have this rune? -/
def nmR (r : Int) : Bool := (decide (97 ≤ r) && decide (r ≤ 122)) || (decide (48 ≤ r) && decide (r ≤ 57)) || (r == 45)
theorem nmR_byte (x : UInt8) : nmR (x.toNat : Int) = nmB x := by
  have h : ∀ a b : Bool, (a = true ↔ b = true) → a = b := fun a b h => by cases a <;> cases b <;> simp_all
  apply h
  simp only [nmR, nmB, Bool.or_eq_true, Bool.and_eq_true, decide_eq_true_eq, beq_iff_eq]
  omega
theorem nmR_high {r : Int} (h : 128 ≤ r) : nmR r = false := by
  cases hb : nmR r
  · rfl
  · simp only [nmR, Bool.or_eq_true, Bool.and_eq_true, decide_eq_true_eq, beq_iff_eq] at hb
    omega
theorem nmR_yes {x : Int} (h : 97 ≤ x ∧ x ≤ 122 ∨ 48 ≤ x ∧ x ≤ 57 ∨ x = 45) : nmR x = true := by
  simp only [nmR, Bool.or_eq_true, Bool.and_eq_true, decide_eq_true_eq, beq_iff_eq]
  omega
theorem nmR_no {x : Int} (h : ¬ (97 ≤ x ∧ x ≤ 122 ∨ 48 ≤ x ∧ x ≤ 57 ∨ x = 45)) : nmR x = false := by
  cases hb : nmR x
  · rfl
  · simp only [nmR, Bool.or_eq_true, Bool.and_eq_true, decide_eq_true_eq, beq_iff_eq] at hb
    omega

set_option maxHeartbeats 1000000 in
theorem isofname_any (r : Int) (w : World) : Calls Try.prog 35 #[.int .i32 r] w fun e w' => e = .returned (.bool (nmR r)) ∧ w' = w := by
  by_cases hy : 97 ≤ r ∧ r ≤ 122 ∨ 48 ≤ r ∧ r ≤ 57 ∨ r = 45
  · rw [nmR_yes hy]
    rcases hy with ⟨h, h'⟩ | ⟨h, h'⟩ | h
    all_goals
      go_enter Try.func35, Try.ntmps35
      go_wp2
      go_ret
      exact ⟨rfl, rfl⟩
  · rw [nmR_no hy]
    have hcases : r < 45 ∨ (45 < r ∧ r < 48) ∨ (57 < r ∧ r < 97) ∨ 122 < r := by omega
    have hne : (r == 45) = false := by simp; omega
    clear hy
    rcases hcases with h | ⟨h, h'⟩ | ⟨h, h'⟩ | h
    · go_enter Try.func35, Try.ntmps35
      go_wp2
      go_ret
      exact ⟨rfl, rfl⟩
    · go_enter Try.func35, Try.ntmps35
      go_wp2
      go_ret
      exact ⟨rfl, rfl⟩
    · have b57 : decide (r ≤ 57) = false := by simp; omega
      go_enter Try.func35, Try.ntmps35
      go_wp2
      go_ret
      exact ⟨rfl, rfl⟩
    · have b57 : decide (r ≤ 57) = false := by simp; omega
      have b122 : decide (r ≤ 122) = false := by simp; omega
      go_enter Try.func35, Try.ntmps35
      go_wp2
      go_ret
      exact ⟨rfl, rfl⟩

set_option maxHeartbeats 4000000 in
set_option maxRecDepth 100000 in
theorem isname_any (t : List UInt8) (w : World) (hl : t.length ≤ 140737488355328) : Calls Try.prog 18 #[.string (ba t)] w fun e w' => e = .returned (.bool (isNm t)) ∧ Below w.heap.size w w' := by
  have hsz := ba_size
  obtain ⟨bb, hbb⟩ : ∃ bb, isNm t = bb := ⟨_, rfl⟩
  rw [hbb]
  have HBB := Lib.hid hbb
  clear hbb
  by_cases h1 : t.length < 1
  · go_enter Try.func18, Try.ntmps18
    go_wp2
    go_ret
    exact ⟨ret_b (by rw [← HBB.out, isNm_eq]; simp; omega), Below.refl _ _⟩
  by_cases h16 : 16 < t.length
  · go_enter Try.func18, Try.ntmps18
    go_wp2
    go_ret
    exact ⟨ret_b (by rw [← HBB.out, isNm_eq]; simp; omega), Below.refl _ _⟩
  have hd1 : decide ((t.length : Int) < 1) = false := by simp; omega
  have hd2 : decide ((16 : Int) < t.length) = false := by simp; omega
  have H1 := Lib.hid h1
  have H16 := Lib.hid h16
  clear h1 h16
  go_enter Try.func18, Try.ntmps18
  go_wp2
  go_loopw [4] (fun ev wr => ∃ pos : Nat, pos ≤ t.length ∧ wr.heap[w.heap.size]? = some (.stringIter (ba t) pos) ∧ Below w.heap.size w wr ∧ (t.take pos).all nmB = true ∧ ∃ ev', ev' = ev) (fun _ wr => t.length - wr.iterPos w.heap.size)
  case atStart => exact ⟨0, Nat.zero_le _, World.iter_heap w (ba t) 0, (Below.refl _ w).alloc (Nat.le_refl _) _, rfl, _, rfl⟩
  case round =>
    obtain ⟨pos, hp, hit, hx, hs, ev', rfl⟩ := hrel
    have HX := Lib.hid hx
    have HS := Lib.hid hs
    have hmeas : wr.iterPos w.heap.size = pos := by simp only [World.iterPos, hit]
    clear hx hs
    by_cases hlt : pos < t.length
    · have hpz : pos < (ba t).size := by rw [ba_size]; exact hlt
      obtain ⟨x, hxx⟩ : ∃ x, t[pos]? = some x := ⟨_, List.getElem?_eq_getElem hlt⟩
      have hxe : (ba t)[pos]'hpz = x := by rw [ba_get]; exact (List.getElem?_eq_some_iff.1 hxx).2
      have hal : (t.take (pos + 1)).all nmB = nmB x := by
        rw [List.take_add_one, hxx]
        simp [HS.out]
      have hall : nmB x = false → t.all nmB = false := fun h => by
        rw [← List.take_append_drop (pos + 1) t, List.all_append, hal, h]
        rfl
      cases hq : nmB x with
      | true =>
        have ha : ((ba t)[pos]'hpz).toNat < 128 := by
          rw [hxe]
          have h9 := nmR_byte x
          rw [hq] at h9
          by_cases h8 : x.toNat < 128
          · exact h8
          · rw [nmR_high (by omega)] at h9; cases h9
        have hnx : ∀ ty, (Instr.next (.pointer (some ⟨w.heap.size, 0, none⟩)) true ty).run Try.prog wr = .ok (.tuple #[.bool true, .int .i64 (pos : Int), .int .i32 (x.toNat : Int)]) (wr.iterAt w.heap.size (ba t) (pos + 1)) := fun ty => by
          rw [← hxe]
          exact Lib.run_next_ascii_at wr w.heap.size (ba t) pos ty hit hpz ha
        have hk := fun W => isofname_any (x.toNat : Int) W
        rw [nmR_byte x, hq] at hk
        have HKd := Lib.hid hk
        have hit2 := Lib.iterAt_heap wr w.heap.size (ba t) pos (pos + 1) hit
        have hx2 := Lib.below_iterAt HX.out (Nat.le_refl _) (ba t) (pos + 1)
        have HSp := Lib.hid (hal.trans hq)
        generalize wr.iterAt w.heap.size (ba t) (pos + 1) = w2 at *
        have HI2 := Lib.hid hit2
        have HX2 := Lib.hid hx2
        clear hk hq hal hall hxe hxx hit2 hx2 ha
        go_wp2_with (go_at_call 35; (with_reducible refine (HKd.out _).mono ?_); rintro e w3 ⟨rfl, rfl⟩)
        go_roundw
        case rel => exact ⟨pos + 1, by omega, HI2.out, HX2.out, HSp.out, _, rfl⟩
        case measure => rw [hmeas]; have h9 := HI2.out; simp only [World.iterPos, h9]; omega
      | false =>
        have HN := Lib.hid (hall hq)
        obtain ⟨r, wd, hnx, hrk⟩ : ∃ (r : Int) (wd : Nat), (∀ ty, (Instr.next (.pointer (some ⟨w.heap.size, 0, none⟩)) true ty).run Try.prog wr = .ok (.tuple #[.bool true, .int .i64 (pos : Int), .int .i32 r]) (wr.iterAt w.heap.size (ba t) wd)) ∧ nmR r = false := by
          by_cases ha : ((ba t)[pos]'hpz).toNat < 128
          · refine ⟨x.toNat, pos + 1, fun ty => ?_, ?_⟩
            · rw [← hxe]
              exact Lib.run_next_ascii_at wr w.heap.size (ba t) pos ty hit hpz ha
            · rw [nmR_byte x, hq]
          · refine ⟨(Utf8.decode (ba t) pos).1, _, fun ty => Lib.run_next_any_at wr w.heap.size (ba t) pos ty hit hpz, ?_⟩
            have hd := (decode_high (ba t) pos hpz (by omega)).1
            exact nmR_high (by omega)
        have hk := fun W => isofname_any r W
        rw [hrk] at hk
        have HKd := Lib.hid hk
        have hx2 := Lib.below_iterAt HX.out (Nat.le_refl _) (ba t) wd
        generalize wr.iterAt w.heap.size (ba t) wd = w2 at *
        have HX2 := Lib.hid hx2
        clear hk hrk hq hal hall hxe hxx hx2 hit hmeas
        go_wp2_with (go_at_call 35; (with_reducible refine (HKd.out _).mono ?_); rintro e w3 ⟨rfl, rfl⟩)
        go_ret
        exact ⟨ret_b (by rw [← HBB.out, isNm_eq, HN.out]; rfl), HX2.out⟩
    · have hpe : pos = t.length := by omega
      have hs := HS.out
      rw [hpe, List.take_length] at hs
      have HA := Lib.hid hs
      subst hpe
      have hnx : ∀ ty, (Instr.next (.pointer (some ⟨w.heap.size, 0, none⟩)) true ty).run Try.prog wr = .ok (.tuple #[.bool false]) wr := fun ty => Lib.run_next_end_at wr w.heap.size (ba t) _ ty hit (by rw [ba_size]; omega)
      clear hs hmeas
      go_wp2
      go_ret
      exact ⟨ret_b (by rw [← HBB.out, isNm_eq, HA.out]; have := H1.out; have := H16.out; simp; omega), HX.out⟩

set_option maxHeartbeats 1000000 in
theorem nameof_any (x : Lt) (w : World) : Calls Try.prog 28 #[.agg #[.string (ba x.nm), .int .i64 x.st, .int .i64 x.am, .int .i64 x.du, .string (ba x.po), .string (ba x.pa)]] w fun e w' => e = .returned (.string (ba x.nm)) ∧ Below w.heap.size w w' := by
  go_enter Try.func28, Try.ntmps28
  go_wp2
  go_ret
  exact ⟨rfl, below1 w _⟩

set_option maxHeartbeats 1000000 in
theorem clientof_any (x : Oc) (w : World) : Calls Try.prog 32 #[.agg #[.int .i64 x.cl, .int .i64 x.sp, .int .i64 x.rs]] w fun e w' => e = .returned (.int .i64 x.cl) ∧ Below w.heap.size w w' := by
  go_enter Try.func32, Try.ntmps32
  go_wp2
  go_ret
  exact ⟨rfl, below1 w _⟩

/-- how two keys compare -/
def cmpS (a b : List UInt8) : Int := if ltS a b then -1 else if a = b then 0 else 1
def cmpI (a b : Int) : Int := if a < b then -1 else if a = b then 0 else 1

set_option maxHeartbeats 1000000 in
theorem nanS_any (a : List UInt8) (w : World) : Calls Try.prog 99 #[.string (ba a)] w fun e w' => e = .returned (.bool false) ∧ w' = w := by
  have hli := ba_list
  go_enter Try.func99, Try.ntmps99
  go_wp2
  go_ret
  exact ⟨by simp, rfl⟩

set_option maxHeartbeats 1000000 in
theorem cmpS_any (a b : List UInt8) (w : World) : Calls Try.prog 84 #[.string (ba a), .string (ba b)] w fun e w' => e = .returned (.int .i64 (cmpS a b)) ∧ w' = w := by
  have hnn := fun (c : List UInt8) (W : World) => nanS_any c W
  have HN := Lib.hid hnn
  clear hnn
  have hli := ba_list
  cases h1 : ltS a b
  case true =>
    have e1 : cmpS a b = -1 := by simp [cmpS, h1]
    rw [e1]
    have h2 : Op.bytesLess a b = true := h1
    clear e1 h1
    go_enter Try.func84, Try.ntmps84
    go_wp2_with (go_at_call 99; (with_reducible refine (HN.out _ _).mono ?_); rintro e w1 ⟨rfl, rfl⟩)
    go_ret
    exact ⟨rfl, rfl⟩
  by_cases h3 : a = b
  case pos =>
    subst h3
    have e1 : cmpS a a = 0 := by simp [cmpS, h1]
    rw [e1]
    have h2 : Op.bytesLess a a = false := h1
    have h4 : (a == a) = true := by simp
    clear e1 h1
    go_enter Try.func84, Try.ntmps84
    go_wp2_with (go_at_call 99; (with_reducible refine (HN.out _ _).mono ?_); rintro e w1 ⟨rfl, rfl⟩)
    go_ret
    exact ⟨rfl, rfl⟩
  case neg =>
    have e1 : cmpS a b = 1 := by simp [cmpS, h1, h3]
    rw [e1]
    have h2 : Op.bytesLess a b = false := h1
    have h4 : (a == b) = false := by simpa using h3
    clear e1 h1 h3
    go_enter Try.func84, Try.ntmps84
    go_wp2_with (go_at_call 99; (with_reducible refine (HN.out _ _).mono ?_); rintro e w1 ⟨rfl, rfl⟩)
    go_ret
    exact ⟨rfl, rfl⟩

set_option maxHeartbeats 1000000 in
theorem nanI_any (a : Int) (w : World) : Calls Try.prog 100 #[.int .i64 a] w fun e w' => e = .returned (.bool false) ∧ w' = w := by
  go_enter Try.func100, Try.ntmps100
  go_wp2
  go_ret
  exact ⟨by simp, rfl⟩

set_option maxHeartbeats 1000000 in
theorem cmpI_any (a b : Int) (w : World) : Calls Try.prog 91 #[.int .i64 a, .int .i64 b] w fun e w' => e = .returned (.int .i64 (cmpI a b)) ∧ w' = w := by
  have hnn := fun (c : Int) (W : World) => nanI_any c W
  have HN := Lib.hid hnn
  clear hnn
  by_cases h1 : a < b
  case pos =>
    have e1 : cmpI a b = -1 := by simp [cmpI, h1]
    rw [e1]
    clear e1
    go_enter Try.func91, Try.ntmps91
    go_wp2_with (go_at_call 100; (with_reducible refine (HN.out _ _).mono ?_); rintro e w1 ⟨rfl, rfl⟩)
    go_ret
    exact ⟨rfl, rfl⟩
  by_cases h3 : a = b
  case pos =>
    subst h3
    have e1 : cmpI a a = 0 := by simp [cmpI]
    rw [e1]
    have d1 : decide (a < a) = false := by simp
    clear e1 h1
    go_enter Try.func91, Try.ntmps91
    go_wp2_with (go_at_call 100; (with_reducible refine (HN.out _ _).mono ?_); rintro e w1 ⟨rfl, rfl⟩)
    go_ret
    exact ⟨rfl, rfl⟩
  case neg =>
    have e1 : cmpI a b = 1 := by simp [cmpI, h1, h3]
    rw [e1]
    have h4 : b < a := by omega
    have d1 : decide (a < b) = false := by simp; omega
    have d2 : decide (b < a) = true := by simpa using h4
    clear e1 h3
    go_enter Try.func91, Try.ntmps91
    go_wp2_with (go_at_call 100; (with_reducible refine (HN.out _ _).mono ?_); rintro e w1 ⟨rfl, rfl⟩)
    go_ret
    exact ⟨rfl, rfl⟩

set_option maxHeartbeats 1000000 in
theorem is_any (a : Int) (w : World) : Calls Try.prog 41 #[.int .i64 a] w fun e w' => e = .returned (.bool (isM a)) ∧ w' = w := by
  go_enter Try.func41, Try.ntmps41
  go_wp2
  all_goals go_ret
  all_goals refine ⟨?_, rfl⟩
  all_goals (simp only [isM]; congr 2; simp <;> omega)

end Go.Proofs.Ytkbeodlihmmdbaa
