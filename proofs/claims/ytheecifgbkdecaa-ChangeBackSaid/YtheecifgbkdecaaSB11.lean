/-
  RqV NmP
-/
import Derived.Test.YtheecifgbkdecaaSB10
import Derived.Test.YtheecifgbkdecaaSB7
import Derived.Lib.OthersKept
import Derived.Laws.Cover1
import Derived.Laws.RangeAny
import Derived.Test.YtheecifgbkdecaaSB8
namespace Go.Proofs.Ytheecifgbkdecaa
open Go.RowKit

theorem Blk.whole {w : World} {g : Nat} {t : TypeId} {cs : List Value} (h : Blk w g t cs) : w.rangeAt g 0 cs := Blk.range (pre := []) (post := []) (by simpa using h)
theorem eqb_ba (a b : List UInt8) : ((ba a).toList == (ba b).toList) = (a == b) := by rw [ba_list, ba_list]
end Go.Proofs.Ytheecifgbkdecaa

namespace Go.Proofs.Ytheecifgbkdecaa
open Go.RowKit

/-- may a name have this rune? -/
def nmR (r : Int) : Bool := (decide (97 ≤ r) && decide (r ≤ 122)) || (decide (48 ≤ r) && decide (r ≤ 57)) || (r == 45)
theorem nmR_byte (x : UInt8) : nmR (x.toNat : Int) = nmB x := by
  have h : ∀ a b : Bool, (a = true ↔ b = true) → a = b := fun a b h => by cases a <;> cases b <;> simp_all
  apply h
  simp only [nmR, nmB, Bool.or_eq_true, Bool.and_eq_true, decide_eq_true_eq, beq_iff_eq]
  omega
theorem nmR_high {r : Int} (h : 128 ≤ r) : nmR r = false := by
  cases hb : nmR r
  · rfl
  · simp only [nmR, Bool.or_eq_true, Bool.and_eq_true, decide_eq_true_eq, beq_iff_eq] at hb
    omega
theorem nmR_yes {x : Int} (h : 97 ≤ x ∧ x ≤ 122 ∨ 48 ≤ x ∧ x ≤ 57 ∨ x = 45) : nmR x = true := by
  simp only [nmR, Bool.or_eq_true, Bool.and_eq_true, decide_eq_true_eq, beq_iff_eq]
  omega
theorem nmR_no {x : Int} (h : ¬ (97 ≤ x ∧ x ≤ 122 ∨ 48 ≤ x ∧ x ≤ 57 ∨ x = 45)) : nmR x = false := by
  cases hb : nmR x
  · rfl
  · simp only [nmR, Bool.or_eq_true, Bool.and_eq_true, decide_eq_true_eq, beq_iff_eq] at hb
    omega

set_option maxHeartbeats 1000000 in
theorem isofname_any (r : Int) (w : World) : Calls Try.prog 117 #[.int .i32 r] w fun e w' => e = .returned (.bool (nmR r)) ∧ w' = w := by
  by_cases hy : 97 ≤ r ∧ r ≤ 122 ∨ 48 ≤ r ∧ r ≤ 57 ∨ r = 45
  · rw [nmR_yes hy]
    rcases hy with ⟨h, h'⟩ | ⟨h, h'⟩ | h
    all_goals
      go_enter Try.func117, Try.ntmps117
      go_wp2
      go_ret
      exact ⟨rfl, rfl⟩
  · rw [nmR_no hy]
    have hcases : r < 45 ∨ (45 < r ∧ r < 48) ∨ (57 < r ∧ r < 97) ∨ 122 < r := by omega
    have hne : (r == 45) = false := by simp; omega
    clear hy
    rcases hcases with h | ⟨h, h'⟩ | ⟨h, h'⟩ | h
    · go_enter Try.func117, Try.ntmps117
      go_wp2
      go_ret
      exact ⟨rfl, rfl⟩
    · go_enter Try.func117, Try.ntmps117
      go_wp2
      go_ret
      exact ⟨rfl, rfl⟩
    · have b57 : decide (r ≤ 57) = false := by simp; omega
      go_enter Try.func117, Try.ntmps117
      go_wp2
      go_ret
      exact ⟨rfl, rfl⟩
    · have b57 : decide (r ≤ 57) = false := by simp; omega
      have b122 : decide (r ≤ 122) = false := by simp; omega
      go_enter Try.func117, Try.ntmps117
      go_wp2
      go_ret
      exact ⟨rfl, rfl⟩

set_option maxHeartbeats 4000000 in
set_option maxRecDepth 100000 in
theorem isname_any (t : List UInt8) (w : World) (hl : t.length ≤ 140737488355328) : Calls Try.prog 115 #[.string (ba t)] w fun e w' => e = .returned (.bool (isNm t)) ∧ Below w.heap.size w w' := by
  have hsz := ba_size
  obtain ⟨bb, hbb⟩ : ∃ bb, isNm t = bb := ⟨_, rfl⟩
  rw [hbb]
  have HBB := Lib.hid hbb
  clear hbb
  by_cases h1 : t.length < 1
  · go_enter Try.func115, Try.ntmps115
    go_wp2
    go_ret
    exact ⟨ret_b (by rw [← HBB.out, isNm_eq]; simp; omega), Below.refl _ _⟩
  by_cases h16 : 16 < t.length
  · go_enter Try.func115, Try.ntmps115
    go_wp2
    go_ret
    exact ⟨ret_b (by rw [← HBB.out, isNm_eq]; simp; omega), Below.refl _ _⟩
  have hd1 : decide ((t.length : Int) < 1) = false := by simp; omega
  have hd2 : decide ((16 : Int) < t.length) = false := by simp; omega
  have H1 := Lib.hid h1
  have H16 := Lib.hid h16
  clear h1 h16
  go_enter Try.func115, Try.ntmps115
  go_wp2
  go_loopw [4] (fun ev wr => ∃ pos : Nat, pos ≤ t.length ∧ wr.heap[w.heap.size]? = some (.stringIter (ba t) pos) ∧ Below w.heap.size w wr ∧ (t.take pos).all nmB = true ∧ ∃ ev', ev' = ev) (fun _ wr => t.length - wr.iterPos w.heap.size)
  case atStart => exact ⟨0, Nat.zero_le _, World.iter_heap w (ba t) 0, (Below.refl _ w).alloc (Nat.le_refl _) _, rfl, _, rfl⟩
  case round =>
    obtain ⟨pos, hp, hit, hx, hs, ev', rfl⟩ := hrel
    have HX := Lib.hid hx
    have HS := Lib.hid hs
    have hmeas : wr.iterPos w.heap.size = pos := by simp only [World.iterPos, hit]
    clear hx hs
    by_cases hlt : pos < t.length
    · have hpz : pos < (ba t).size := by rw [ba_size]; exact hlt
      obtain ⟨x, hxx⟩ : ∃ x, t[pos]? = some x := ⟨_, List.getElem?_eq_getElem hlt⟩
      have hxe : (ba t)[pos]'hpz = x := by rw [ba_get]; exact (List.getElem?_eq_some_iff.1 hxx).2
      have hal : (t.take (pos + 1)).all nmB = nmB x := by
        rw [List.take_add_one, hxx]
        simp [HS.out]
      have hall : nmB x = false → t.all nmB = false := fun h => by
        rw [← List.take_append_drop (pos + 1) t, List.all_append, hal, h]
        rfl
      cases hq : nmB x with
      | true =>
        have ha : ((ba t)[pos]'hpz).toNat < 128 := by
          rw [hxe]
          have h9 := nmR_byte x
          rw [hq] at h9
          by_cases h8 : x.toNat < 128
          · exact h8
          · rw [nmR_high (by omega)] at h9; cases h9
        have hnx : ∀ ty, (Instr.next (.pointer (some ⟨w.heap.size, 0, none⟩)) true ty).run Try.prog wr = .ok (.tuple #[.bool true, .int .i64 (pos : Int), .int .i32 (x.toNat : Int)]) (wr.iterAt w.heap.size (ba t) (pos + 1)) := fun ty => by
          rw [← hxe]
          exact Lib.run_next_ascii_at wr w.heap.size (ba t) pos ty hit hpz ha
        have hk := fun W => isofname_any (x.toNat : Int) W
        rw [nmR_byte x, hq] at hk
        have HKd := Lib.hid hk
        have hit2 := Lib.iterAt_heap wr w.heap.size (ba t) pos (pos + 1) hit
        have hx2 := Lib.below_iterAt HX.out (Nat.le_refl _) (ba t) (pos + 1)
        have HSp := Lib.hid (hal.trans hq)
        generalize wr.iterAt w.heap.size (ba t) (pos + 1) = w2 at *
        have HI2 := Lib.hid hit2
        have HX2 := Lib.hid hx2
        clear hk hq hal hall hxe hxx hit2 hx2 ha
        go_wp2_with (go_at_call 117; (with_reducible refine (HKd.out _).mono ?_); rintro e w3 ⟨rfl, rfl⟩)
        go_roundw
        case rel => exact ⟨pos + 1, by omega, HI2.out, HX2.out, HSp.out, _, rfl⟩
        case measure => rw [hmeas]; have h9 := HI2.out; simp only [World.iterPos, h9]; omega
      | false =>
        have HN := Lib.hid (hall hq)
        obtain ⟨r, wd, hnx, hrk⟩ : ∃ (r : Int) (wd : Nat), (∀ ty, (Instr.next (.pointer (some ⟨w.heap.size, 0, none⟩)) true ty).run Try.prog wr = .ok (.tuple #[.bool true, .int .i64 (pos : Int), .int .i32 r]) (wr.iterAt w.heap.size (ba t) wd)) ∧ nmR r = false := by
          by_cases ha : ((ba t)[pos]'hpz).toNat < 128
          · refine ⟨x.toNat, pos + 1, fun ty => ?_, ?_⟩
            · rw [← hxe]
              exact Lib.run_next_ascii_at wr w.heap.size (ba t) pos ty hit hpz ha
            · rw [nmR_byte x, hq]
          · refine ⟨(Utf8.decode (ba t) pos).1, _, fun ty => Lib.run_next_any_at wr w.heap.size (ba t) pos ty hit hpz, ?_⟩
            have hd := (decode_high (ba t) pos hpz (by omega)).1
            exact nmR_high (by omega)
        have hk := fun W => isofname_any r W
        rw [hrk] at hk
        have HKd := Lib.hid hk
        have hx2 := Lib.below_iterAt HX.out (Nat.le_refl _) (ba t) wd
        generalize wr.iterAt w.heap.size (ba t) wd = w2 at *
        have HX2 := Lib.hid hx2
        clear hk hrk hq hal hall hxe hxx hx2 hit hmeas
        go_wp2_with (go_at_call 117; (with_reducible refine (HKd.out _).mono ?_); rintro e w3 ⟨rfl, rfl⟩)
        go_ret
        exact ⟨ret_b (by rw [← HBB.out, isNm_eq, HN.out]; rfl), HX2.out⟩
    · have hpe : pos = t.length := by omega
      have hs := HS.out
      rw [hpe, List.take_length] at hs
      have HA := Lib.hid hs
      subst hpe
      have hnx : ∀ ty, (Instr.next (.pointer (some ⟨w.heap.size, 0, none⟩)) true ty).run Try.prog wr = .ok (.tuple #[.bool false]) wr := fun ty => Lib.run_next_end_at wr w.heap.size (ba t) _ ty hit (by rw [ba_size]; omega)
      clear hs hmeas
      go_wp2
      go_ret
      exact ⟨ret_b (by rw [← HBB.out, isNm_eq, HA.out]; have := H1.out; have := H16.out; simp; omega), HX.out⟩


end Go.Proofs.Ytheecifgbkdecaa
