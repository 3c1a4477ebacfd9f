/-
  Joined: Nm, RqC, NmP, RqA, El, El2, B2, RqM, RqR, RqQ, RqV.
-/
import Derived.Test.YtgbobemhogeeeaaDoorDA
import Derived.Test.YtgbobemhogeeeaaDoorDB
import Derived.Lib.OthersKept
import Derived.Laws.Cover1
import Derived.Laws.RangeAny
import Derived.Deep.AppendLies
import Derived.Great.BuildSlice
import Derived.Laws.AppendOwn
import Derived.Handy
import Derived.WalkSpells
import Derived.Deep.Draws
import Derived.Deep.AppendSrc
import Derived.Deep.RegionLaw
import Derived.Lib.Hide
import Derived.Laws.CopyOwn
import Derived.Deep.MidRow
import Derived.Deep.RegionHeld
import Derived.Outline
import Derived.Lib.SlBytesConst
import Derived.ChangeKeysEq
import Derived.Laws.StructEq
import Derived.Laws.BitsAllLaws
import Derived.IntWalk
import Derived.MapKept
import Derived.Deep.CutRange
namespace Go.Proofs.YtgbobemhogeeeaaDoor

section
open Go.RowKit
theorem nmB_yes {x : UInt8} (h : 97 ≤ x.toNat ∧ x.toNat ≤ 122 ∨ 48 ≤ x.toNat ∧ x.toNat ≤ 57 ∨ x.toNat = 45) : nmB x = true := by
  simp only [nmB, Bool.or_eq_true, Bool.and_eq_true, decide_eq_true_eq, beq_iff_eq]
  omega
theorem nmB_no {x : UInt8} (h : ¬ (97 ≤ x.toNat ∧ x.toNat ≤ 122 ∨ 48 ≤ x.toNat ∧ x.toNat ≤ 57 ∨ x.toNat = 45)) : nmB x = false := by
  cases hb : nmB x
  · rfl
  · simp only [nmB, Bool.or_eq_true, Bool.and_eq_true, decide_eq_true_eq, beq_iff_eq] at hb
    omega
theorem isNm_eq (l : List UInt8) : isNm l = (l.all nmB && (decide (1 ≤ l.length) && decide (l.length ≤ 16))) := by unfold isNm; rw [Bool.and_assoc]
theorem ret_b {a b : Bool} (h : a = b) : Ending.returned (Value.bool a) = .returned (.bool b) := by rw [h]

set_option maxHeartbeats 4000000 in
theorem risname_any (l : List UInt8) (w : World) (hl : l.length ≤ 1000000) : Calls Tryd.prog 39 #[.string (ba l)] w fun e w' => e = .returned (.bool (isNm l)) ∧ w' = w := by
  have hsz := ba_size
  obtain ⟨bb, hbb⟩ : ∃ bb, isNm l = bb := ⟨_, rfl⟩
  rw [hbb]
  have HBB := Lib.hid hbb
  clear hbb
  go_enter Tryd.func39, Tryd.ntmps39
  go_wp2
  go_loopw [3] (fun iv wr => ∃ i : Nat, i ≤ l.length ∧ iv = .int .i64 i ∧ (l.take i).all nmB = true ∧ wr = w) (fun iv _ => l.length - (intOf iv).toNat)
  case atStart => exact ⟨0, Nat.zero_le _, rfl, rfl, rfl⟩
  case round =>
    obtain ⟨i, hi, rfl, ha, rfl⟩ := hrel
    by_cases hlt : i < l.length
    · obtain ⟨x, hx⟩ : ∃ x, l[i]? = some x := ⟨_, List.getElem?_eq_getElem hlt⟩
      have hix := run_index_ba Tryd.underlying9 l .i64 i i rfl x hx
      have hal : (l.take (i + 1)).all nmB = nmB x := by
        rw [List.take_add_one, hx]
        simp [ha]
      have hxl := x.toNat_lt
      have hall : nmB x = false → l.all nmB = false := fun h => by
        rw [← List.take_append_drop (i + 1) l, List.all_append, hal, h]
        rfl
      have HA := Lib.hid hal
      have HB := Lib.hid hall
      clear ha hal hall
      by_cases hy : 97 ≤ x.toNat ∧ x.toNat ≤ 122 ∨ 48 ≤ x.toNat ∧ x.toNat ≤ 57 ∨ x.toNat = 45
      · have HY := Lib.hid (nmB_yes hy)
        generalize x.toNat = v at *
        rcases hy with ⟨h, h'⟩ | ⟨h, h'⟩ | h
        all_goals
          go_wp2
          go_roundw
          case rel => exact ⟨i + 1, by omega, by go_num, HA.out.trans HY.out, trivial⟩
          case measure => simp [intOf]; omega
      · have HN := Lib.hid (HB.out (nmB_no hy))
        have hcases : x.toNat < 45 ∨ (45 < x.toNat ∧ x.toNat < 48) ∨ (57 < x.toNat ∧ x.toNat < 97) ∨ 122 < x.toNat := by omega
        clear HA HB hy
        generalize x.toNat = v at *
        have hne : ((v : Int) == 45) = false := by simp; omega
        rcases hcases with h | ⟨h, h'⟩ | ⟨h, h'⟩ | h
        · go_wp2
          go_ret
          exact ⟨ret_b (by rw [← HBB.out, isNm_eq, HN.out]; rfl), rfl⟩
        · go_wp2
          go_ret
          exact ⟨ret_b (by rw [← HBB.out, isNm_eq, HN.out]; rfl), rfl⟩
        · have b57 : decide ((v : Int) ≤ 57) = false := by simp; omega
          go_wp2
          go_ret
          exact ⟨ret_b (by rw [← HBB.out, isNm_eq, HN.out]; rfl), rfl⟩
        · have b57 : decide ((v : Int) ≤ 57) = false := by simp; omega
          have b122 : decide ((v : Int) ≤ 122) = false := by simp; omega
          go_wp2
          go_ret
          exact ⟨ret_b (by rw [← HBB.out, isNm_eq, HN.out]; rfl), rfl⟩
    · have e : l.take i = l := List.take_of_length_le (by omega)
      rw [e] at ha
      have HA := Lib.hid ha
      clear e ha
      by_cases h1 : 1 ≤ l.length
      · by_cases h16 : l.length ≤ 16
        · go_wp2
          go_ret
          exact ⟨ret_b (by rw [← HBB.out, isNm_eq, HA.out]; simp [h1, h16]; try omega), rfl⟩
        · go_wp2
          go_ret
          exact ⟨ret_b (by rw [← HBB.out, isNm_eq, HA.out]; simp [h1, h16]; try omega), rfl⟩
      · go_wp2
        go_ret
        exact ⟨ret_b (by rw [← HBB.out, isNm_eq, HA.out]; simp [h1]; try omega), rfl⟩
end

section
open Go.RowKit
theorem ret_i {a b : Int} (h : a = b) : Ending.returned (Value.int .i64 a) = .returned (.int .i64 b) := by rw [h]

set_option maxHeartbeats 8000000 in
theorem rchkC_any (c : Cr) (n : Int) (w : World) (hl : c.lt.length ≤ 1000000) :
    Calls Tryd.prog 25 #[.agg #[.int .i64 c.cl, .int .i64 c.sp, .int .i64 c.op, .string (ba c.lt), .int .i64 c.a, .int .i64 c.b, .string (ba c.tx)], .int .i64 n] w fun e w' => e = .returned (.int .i64 (chkC c n)) ∧ Below w.heap.size w w' := by
  have hsz := ba_size
  have HX : Hid (Below w.heap.size w (w.alloc (.cells #[.int .i64 c.cl, .int .i64 c.sp, .int .i64 c.op, .string (ba c.lt), .int .i64 c.a, .int .i64 c.b, .string (ba c.tx)] 40))) := Lib.hid ((Below.refl _ w).alloc (Nat.le_refl _) _)
  have HB : Hid (Blk (w.alloc (.cells #[.int .i64 c.cl, .int .i64 c.sp, .int .i64 c.op, .string (ba c.lt), .int .i64 c.a, .int .i64 c.b, .string (ba c.tx)] 40)) w.heap.size 40 [.int .i64 c.cl, .int .i64 c.sp, .int .i64 c.op, .string (ba c.lt), .int .i64 c.a, .int .i64 c.b, .string (ba c.tx)]) := Lib.hid (Blk.fresh rfl rfl)
  have c0 := HB.out.cellAt (i := 0) rfl
  have c1 := HB.out.cellAt (i := 1) rfl
  have c2 := HB.out.cellAt (i := 2) rfl
  have c3 := HB.out.cellAt (i := 3) rfl
  have c6 := HB.out.cellAt (i := 6) rfl
  go_enter Tryd.func25, Tryd.ntmps25
  by_cases h0 : n < 1
  case pos =>
    have d0 : decide (n < 1) = true := by simpa using h0
    have hv : chkC c n = 1 := by unfold chkC; simp [h0]; try omega
    have HV := Lib.hid hv
    clear hv h0
    go_wp2
    go_ret
    exact ⟨ret_i HV.out.symm, HX.out⟩
  case neg =>
    have d0 : decide (n < 1) = false := by simpa using h0
    by_cases h1 : 7 < n
    case pos =>
      have d1 : decide (7 < n) = true := by simpa using h1
      have hv : chkC c n = 1 := by unfold chkC; simp [h0, h1]; try omega
      have HV := Lib.hid hv
      clear hv h0 h1
      go_wp2
      go_ret
      exact ⟨ret_i HV.out.symm, HX.out⟩
    case neg =>
      have d1 : decide (7 < n) = false := by simpa using h1
      by_cases h2 : c.cl < n
      case pos =>
        have d2 : decide (c.cl < n) = true := by simpa using h2
        have hv : chkC c n = 17 := by unfold chkC; simp [h0, h1, h2]; try omega
        have HV := Lib.hid hv
        clear hv h0 h1 h2
        go_wp2
        go_ret
        exact ⟨ret_i HV.out.symm, HX.out⟩
      case neg =>
        have d2 : decide (c.cl < n) = false := by simpa using h2
        have hwr : IntKind.i64.wrap (n + 3) = n + 3 := IntWalk.i64_in _ (by omega)
        by_cases h3 : n + 3 < c.cl
        case pos =>
          have d3 : decide (n + 3 < c.cl) = true := by simpa using h3
          have hv : chkC c n = 17 := by unfold chkC; simp [h0, h1, h2, h3]; try omega
          have HV := Lib.hid hv
          clear hv h0 h1 h2 h3
          go_wp2
          go_ret
          exact ⟨ret_i HV.out.symm, HX.out⟩
        case neg =>
          have d3 : decide (n + 3 < c.cl) = false := by simpa using h3
          by_cases h4 : c.sp < 1
          case pos =>
            have d4 : decide (c.sp < 1) = true := by simpa using h4
            have hv : chkC c n = 5 := by unfold chkC; simp [h0, h1, h2, h3, h4]; try omega
            have HV := Lib.hid hv
            clear hv h0 h1 h2 h3 h4
            go_wp2
            go_ret
            exact ⟨ret_i HV.out.symm, HX.out⟩
          case neg =>
            have d4 : decide (c.sp < 1) = false := by simpa using h4
            by_cases h5 : 1099511627776 < c.sp
            case pos =>
              have d5 : decide (1099511627776 < c.sp) = true := by simpa using h5
              have hv : chkC c n = 5 := by unfold chkC; simp [h0, h1, h2, h3, h4, h5]; try omega
              have HV := Lib.hid hv
              clear hv h0 h1 h2 h3 h4 h5
              go_wp2
              go_ret
              exact ⟨ret_i HV.out.symm, HX.out⟩
            case neg =>
              have d5 : decide (1099511627776 < c.sp) = false := by simpa using h5
              by_cases h6 : c.op < 1
              case pos =>
                have d6 : decide (c.op < 1) = true := by simpa using h6
                have hv : chkC c n = 5 := by unfold chkC; simp [h0, h1, h2, h3, h4, h5, h6]; try omega
                have HV := Lib.hid hv
                clear hv h0 h1 h2 h3 h4 h5 h6
                go_wp2
                go_ret
                exact ⟨ret_i HV.out.symm, HX.out⟩
              case neg =>
                have d6 : decide (c.op < 1) = false := by simpa using h6
                by_cases h7 : 9 < c.op
                case pos =>
                  have d7 : decide (9 < c.op) = true := by simpa using h7
                  have hv : chkC c n = 5 := by unfold chkC; simp [h0, h1, h2, h3, h4, h5, h6, h7]; try omega
                  have HV := Lib.hid hv
                  clear hv h0 h1 h2 h3 h4 h5 h6 h7
                  go_wp2
                  go_ret
                  exact ⟨ret_i HV.out.symm, HX.out⟩
                case neg =>
                  have d7 : decide (9 < c.op) = false := by simpa using h7
                  cases hn : isNm c.lt with
                  | false =>
                    have HNM := Lib.hid (fun W : World => hn ▸ risname_any c.lt W hl)
                    have hv : chkC c n = 7 := by unfold chkC; simp [h0, h1, h2, h3, h4, h5, h6, h7, hn]; try omega
                    have HV := Lib.hid hv
                    clear hv h0 h1 h2 h3 h4 h5 h6 h7
                    go_wp2_with (go_at_call 39; (with_reducible refine (HNM.out _).mono ?_); rintro e w2 ⟨rfl, rfl⟩)
                    go_ret
                    exact ⟨ret_i HV.out.symm, HX.out⟩
                  | true =>
                    have HNM := Lib.hid (fun W : World => hn ▸ risname_any c.lt W hl)
                    by_cases h8 : c.tx.length ≤ 200
                    case neg =>
                      have d8 : decide ((200 : Int) < (c.tx.length : Int)) = true := by simp; omega
                      have hv : chkC c n = 3 := by unfold chkC; simp [h0, h1, h2, h3, h4, h5, h6, h7, h8, hn]; try omega
                      have HV := Lib.hid hv
                      clear hv h0 h1 h2 h3 h4 h5 h6 h7 h8
                      go_wp2_with (go_at_call 39; (with_reducible refine (HNM.out _).mono ?_); rintro e w2 ⟨rfl, rfl⟩)
                      go_ret
                      exact ⟨ret_i HV.out.symm, HX.out⟩
                    case pos =>
                      have d8 : decide ((200 : Int) < (c.tx.length : Int)) = false := by simp; omega
                      have hv : chkC c n = 0 := by unfold chkC; simp [h0, h1, h2, h3, h4, h5, h6, h7, h8, hn]; try omega
                      have HV := Lib.hid hv
                      clear hv h0 h1 h2 h3 h4 h5 h6 h7 h8
                      go_wp2_with (go_at_call 39; (with_reducible refine (HNM.out _).mono ?_); rintro e w2 ⟨rfl, rfl⟩)
                      go_ret
                      exact ⟨ret_i HV.out.symm, HX.out⟩

theorem wpList_str_bytes {ops : Array Oper} {rest : List Oper} {o : Oper} {a : Act} {w : World} {Q : Exit → Act → World → Prop} (hgd : o.guard = none) (x : Operand) (ho : o.op = .convert 9 34 x)
    (l : List UInt8) (hx : a.eval x = .string (ba l)) (h : ∀ A c w', By w' (fun _ => True) A l.length l → Below w.heap.size w w' → wpList Tryd.prog ops Q rest (a.put o.dst (.slice A l.length c)) w') : wpList Tryd.prog ops Q (o :: rest) a w := by
  refine wpList_plain hgd fun K hK => ?_
  have hrun := Lib.run_convert_string_bytes (P := Tryd.prog) w 9 34 5 (ba l) Tryd.underlying9 Tryd.underlying34 Tryd.underlying5
  rw [ba_size] at hrun
  unfold Oper.wp execOp
  simp only [ho, hx, Sem.run_bind, hrun, Result.andThen_ok]
  exact hK _ _ (h _ _ _ (by_bytes w l) (below_bytes w _))

theorem u64N_lt64 (v : Int) : u64N v < 18446744073709551616 := by unfold u64N; omega
@[simp] theorem beB_len (v k : Nat) : (beB v k).length = k := beB_length v k
@[simp] theorem rowB_len (xs : List UInt8) : (rowB xs).length = 4 + xs.length := by unfold rowB; rw [List.length_append, beB_length]

set_option maxHeartbeats 8000000 in
set_option maxRecDepth 100000 in
theorem rcoreB_any (c : Cr) (w : World) (hl : c.lt.length ≤ 1000000) (ht : c.tx.length ≤ 1000000) :
    Calls Tryd.prog 24 #[.agg #[.int .i64 c.cl, .int .i64 c.sp, .int .i64 c.op, .string (ba c.lt), .int .i64 c.a, .int .i64 c.b, .string (ba c.tx)]] w (Byt w (encCr c)) := by
  have H1 : Hid (Blk (w.alloc (.cells #[.int .i64 c.cl, .int .i64 c.sp, .int .i64 c.op, .string (ba c.lt), .int .i64 c.a, .int .i64 c.b, .string (ba c.tx)] 40)) w.heap.size 40 [.int .i64 c.cl, .int .i64 c.sp, .int .i64 c.op, .string (ba c.lt), .int .i64 c.a, .int .i64 c.b, .string (ba c.tx)]) := Lib.hid (Blk.fresh rfl rfl)
  have HX1 : Hid (Below w.heap.size w (w.alloc (.cells #[.int .i64 c.cl, .int .i64 c.sp, .int .i64 c.op, .string (ba c.lt), .int .i64 c.a, .int .i64 c.b, .string (ba c.tx)] 40))) := Lib.hid ((Below.refl _ w).alloc (Nat.le_refl _) _)
  go_enter Tryd.func24, Tryd.ntmps24
  go_wp2
  try dsimp only [Act.put]
  generalize hw1 : w.alloc (.cells #[.int .i64 c.cl, .int .i64 c.sp, .int .i64 c.op, .string (ba c.lt), .int .i64 c.a, .int .i64 c.b, .string (ba c.tx)] 40) = w1 at *
  clear hw1
  refine wp_region_held_drew (S := fun W => Below w1.heap.size w1 W) (by kernel_rfl) (Below.refl _ _).drew (fun hHeld => ?_)
  change wpAnyH _ _ _ _ _ _ #[false, false, false, false, false, false, false, false, false, false, false, false, false] _ _
  refine wpAnyH_take (i := 0) (v := (.pointer (some ⟨w.heap.size, 0, none⟩))) rfl (by kernel_rfl) (by kernel_rfl) (by kernel_rfl) (fun _ _ _ h => h) (Or.inl ⟨by kernel_rfl, fun w hSw => ?_⟩) (by assumption) ?_
  · (try dsimp only at hSw); go_simp <;> (try rfl)
  change wpAnyH _ _ _ _ _ _ _ (Act.put _ (some (4 : Nat)) (.pointer (some ⟨w.heap.size, 0, none⟩))) _
  simp only [Act.put, List.setIfInBounds_toArray, List.set_cons_zero, List.set_cons_succ]
  refine wpAnyH_take (i := 1) (v := (.int .i64 c.cl)) rfl (by kernel_rfl) (by kernel_rfl) (by kernel_rfl) (fun _ _ _ h => h) (yields_load_at (by kernel_rfl) 3 (.tmp 4) rfl (.pointer (some ⟨w.heap.size, 0, none⟩)) rfl (.int .i64 c.cl) (fun W hW => load_one' (by kernel_rfl) ((H1.out.through hW).cellAt (i := 0) rfl))) (by assumption) ?_
  change wpAnyH _ _ _ _ _ _ _ (Act.put _ (some (5 : Nat)) (.int .i64 c.cl)) _
  simp only [Act.put, List.setIfInBounds_toArray, List.set_cons_zero, List.set_cons_succ]
  refine wpAnyH_take (i := 2) (v := (.int .u64 ((u64N c.cl : Nat) : Int))) rfl (by kernel_rfl) (by kernel_rfl) (by kernel_rfl) (fun _ _ _ h => h) (yields_conv (by kernel_rfl) 3 58 (.tmp 5) rfl (.int .i64 c.cl) (by simp [Act.eval]) (.int .u64 ((u64N c.cl : Nat) : Int)) (fun W hW => conv_u64 3 58 Tryd.underlying3 Tryd.underlying58 c.cl W)) (by assumption) ?_
  change wpAnyH _ _ _ _ _ _ _ (Act.put _ (some (6 : Nat)) (.int .u64 ((u64N c.cl : Nat) : Int))) _
  simp only [Act.put, List.setIfInBounds_toArray, List.set_cons_zero, List.set_cons_succ]
  refine wpAnyH_take (i := 4) (v := (.pointer (some ⟨w.heap.size, 1, none⟩))) rfl (by kernel_rfl) (by kernel_rfl) (by kernel_rfl) (fun _ _ _ h => h) (Or.inl ⟨by kernel_rfl, fun w hSw => ?_⟩) (by assumption) ?_
  · (try dsimp only at hSw); go_simp <;> (try rfl)
  change wpAnyH _ _ _ _ _ _ _ (Act.put _ (some (8 : Nat)) (.pointer (some ⟨w.heap.size, 1, none⟩))) _
  simp only [Act.put, List.setIfInBounds_toArray, List.set_cons_zero, List.set_cons_succ]
  refine wpAnyH_take (i := 5) (v := (.int .i64 c.sp)) rfl (by kernel_rfl) (by kernel_rfl) (by kernel_rfl) (fun _ _ _ h => h) (yields_load_at (by kernel_rfl) 2 (.tmp 8) rfl (.pointer (some ⟨w.heap.size, 1, none⟩)) rfl (.int .i64 c.sp) (fun W hW => load_one' (by kernel_rfl) ((H1.out.through hW).cellAt (i := 1) rfl))) (by assumption) ?_
  change wpAnyH _ _ _ _ _ _ _ (Act.put _ (some (9 : Nat)) (.int .i64 c.sp)) _
  simp only [Act.put, List.setIfInBounds_toArray, List.set_cons_zero, List.set_cons_succ]
  refine wpAnyH_take (i := 6) (v := (.int .u64 ((u64N c.sp : Nat) : Int))) rfl (by kernel_rfl) (by kernel_rfl) (by kernel_rfl) (fun _ _ _ h => h) (yields_conv (by kernel_rfl) 2 58 (.tmp 9) rfl (.int .i64 c.sp) (by simp [Act.eval]) (.int .u64 ((u64N c.sp : Nat) : Int)) (fun W hW => conv_u64 2 58 Tryd.underlying2 Tryd.underlying58 c.sp W)) (by assumption) ?_
  change wpAnyH _ _ _ _ _ _ _ (Act.put _ (some (10 : Nat)) (.int .u64 ((u64N c.sp : Nat) : Int))) _
  simp only [Act.put, List.setIfInBounds_toArray, List.set_cons_zero, List.set_cons_succ]
  refine wpAnyH_take (i := 8) (v := (.pointer (some ⟨w.heap.size, 2, none⟩))) rfl (by kernel_rfl) (by kernel_rfl) (by kernel_rfl) (fun _ _ _ h => h) (Or.inl ⟨by kernel_rfl, fun w hSw => ?_⟩) (by assumption) ?_
  · (try dsimp only at hSw); go_simp <;> (try rfl)
  change wpAnyH _ _ _ _ _ _ _ (Act.put _ (some (12 : Nat)) (.pointer (some ⟨w.heap.size, 2, none⟩))) _
  simp only [Act.put, List.setIfInBounds_toArray, List.set_cons_zero, List.set_cons_succ]
  refine wpAnyH_take (i := 9) (v := (.int .i64 c.op)) rfl (by kernel_rfl) (by kernel_rfl) (by kernel_rfl) (fun _ _ _ h => h) (yields_load_at (by kernel_rfl) 3 (.tmp 12) rfl (.pointer (some ⟨w.heap.size, 2, none⟩)) rfl (.int .i64 c.op) (fun W hW => load_one' (by kernel_rfl) ((H1.out.through hW).cellAt (i := 2) rfl))) (by assumption) ?_
  change wpAnyH _ _ _ _ _ _ _ (Act.put _ (some (13 : Nat)) (.int .i64 c.op)) _
  simp only [Act.put, List.setIfInBounds_toArray, List.set_cons_zero, List.set_cons_succ]
  refine wpAnyH_take (i := 10) (v := (.int .u64 ((u64N c.op : Nat) : Int))) rfl (by kernel_rfl) (by kernel_rfl) (by kernel_rfl) (fun _ _ _ h => h) (yields_conv (by kernel_rfl) 3 58 (.tmp 13) rfl (.int .i64 c.op) (by simp [Act.eval]) (.int .u64 ((u64N c.op : Nat) : Int)) (fun W hW => conv_u64 3 58 Tryd.underlying3 Tryd.underlying58 c.op W)) (by assumption) ?_
  change wpAnyH _ _ _ _ _ _ _ (Act.put _ (some (14 : Nat)) (.int .u64 ((u64N c.op : Nat) : Int))) _
  simp only [Act.put, List.setIfInBounds_toArray, List.set_cons_zero, List.set_cons_succ]
  refine wpAnyH_ready (rs := [3]) (by kernel_rfl) (by simp) ?_
  refine AllReadyH.cons rfl (fun K hK => ?_) AllReadyH.nil
  go_simp
  refine (rput_by (Q := fun _ => True) (A := none) (n := 0) (c := 0) (xs := []) 1 rfl (u64N c.cl) (u64N_lt64 _) By.none_ (by simp)).mono ?_
  rintro e wa ⟨Aa, na, ca, rfl, hya, _, _, hba⟩; have HYa := Lib.hid hya; have HKa := Lib.hid (below_step hHeld hba); clear hya hba
  go_wp2_with fail
  refine hK.out _ _ HKa.out (fun hHeld1 => ?_)
  clear hHeld hK K
  have hHeld := hHeld1
  clear hHeld1
  refine wpAnyH_ready (rs := [7]) (by kernel_rfl) (by simp) ?_
  refine AllReadyH.cons rfl (fun K hK => ?_) AllReadyH.nil
  go_simp
  refine (rput_by 8 rfl (u64N c.sp) (u64N_lt64 _) (HYa.out) (by first | (simp; done) | (simp; omega))).mono ?_
  rintro e wb ⟨Ab, nb, cb, rfl, hyb, _, _, hbb⟩; have HYb := Lib.hid hyb; have HKb := Lib.hid (below_step hHeld hbb); clear hyb hbb
  go_wp2_with fail
  refine hK.out _ _ HKb.out (fun hHeld1 => ?_)
  clear hHeld hK K
  have hHeld := hHeld1
  clear hHeld1
  refine wpAnyH_ready (rs := [11]) (by kernel_rfl) (by simp) ?_
  refine AllReadyH.cons rfl (fun K hK => ?_) AllReadyH.nil
  go_simp
  refine (rput_by 1 rfl (u64N c.op) (u64N_lt64 _) (HYb.out) (by first | (simp; done) | (simp; omega))).mono ?_
  rintro e we ⟨Ae, ne, ce, rfl, hye, _, _, hbe⟩; have HYe := Lib.hid hye; have HKe := Lib.hid (below_step hHeld hbe); clear hye hbe
  go_wp2_with fail
  refine hK.out _ _ HKe.out (fun hHeld1 => ?_)
  clear hHeld hK K
  have hHeld := hHeld1
  clear hHeld1
  refine wpAnyH_take (i := 12) (v := (.slice Ae ne ce)) rfl (by kernel_rfl) (by kernel_rfl) (by kernel_rfl) (fun _ _ _ h => h) (Or.inl ⟨by kernel_rfl, fun w hSw => ?_⟩) (by assumption) ?_
  · (try dsimp only at hSw); go_simp <;> (try rfl)
  change wpAnyH _ _ _ _ _ _ _ (Act.put _ (some (3 : Nat)) (.slice Ae ne ce)) _
  simp only [Act.put, List.setIfInBounds_toArray, List.set_cons_zero, List.set_cons_succ]
  refine wpAnyH_done (by kernel_rfl) ?_ _
  have HXe := Lib.hid (below_step HX1.out HKe.out)
  have k3 := (H1.out.through HKe.out).cellAt (i := 3) rfl
  go_wp2_with (first | (refine wpList_str_bytes rfl (.tmp 18) rfl c.lt rfl ?_; intro Sf df vf hysf hbsf; have HSf := Lib.hid hysf; have HTf := Lib.hid (HYe.out.through hbsf); have HUf := Lib.hid (below_step HXe.out hbsf); have H1s := Lib.hid ((H1.out.through HKe.out).through hbsf); clear hysf hbsf) | (go_at_call 23; (with_reducible refine (rrow_by HTf.out HSf.out (by first | (simp; done) | (simp; omega)) (by omega)).mono ?_); rintro e wf ⟨Af, nf, cf, rfl, hyf, hnf, hmf, hbf⟩; have HYf := Lib.hid hyf; have HXf := Lib.hid (below_step HUf.out hbf); have H1f := Lib.hid (H1s.out.through hbf); have HCf := Lib.hid (And.intro hnf hmf); clear hyf hbf hnf hmf))
  try dsimp only [Act.put]
  clear k3
  refine wp_region_held_drew (S := fun W => Below wf.heap.size wf W) (by kernel_rfl) (Below.refl _ _).drew (fun hHeld => ?_)
  change wpAnyH _ _ _ _ _ _ #[false, false, false, false, false, false, false, false, false, false] _ _
  refine wpAnyH_take (i := 0) (v := (.slice Af nf cf)) rfl (by kernel_rfl) (by kernel_rfl) (by kernel_rfl) (fun _ _ _ h => h) (Or.inl ⟨by kernel_rfl, fun w hSw => ?_⟩) (by assumption) ?_
  · (try dsimp only at hSw); go_simp <;> (try rfl)
  change wpAnyH _ _ _ _ _ _ _ (Act.put _ (some (21 : Nat)) (.slice Af nf cf)) _
  simp only [Act.put, List.setIfInBounds_toArray, List.set_cons_zero, List.set_cons_succ]
  refine wpAnyH_take (i := 1) (v := (.pointer (some ⟨w.heap.size, 4, none⟩))) rfl (by kernel_rfl) (by kernel_rfl) (by kernel_rfl) (fun _ _ _ h => h) (Or.inl ⟨by kernel_rfl, fun w hSw => ?_⟩) (by assumption) ?_
  · (try dsimp only at hSw); go_simp <;> (try rfl)
  change wpAnyH _ _ _ _ _ _ _ (Act.put _ (some (22 : Nat)) (.pointer (some ⟨w.heap.size, 4, none⟩))) _
  simp only [Act.put, List.setIfInBounds_toArray, List.set_cons_zero, List.set_cons_succ]
  refine wpAnyH_take (i := 2) (v := (.int .i64 c.a)) rfl (by kernel_rfl) (by kernel_rfl) (by kernel_rfl) (fun _ _ _ h => h) (yields_load_at (by kernel_rfl) 2 (.tmp 22) rfl (.pointer (some ⟨w.heap.size, 4, none⟩)) rfl (.int .i64 c.a) (fun W hW => load_one' (by kernel_rfl) ((H1f.out.through hW).cellAt (i := 4) rfl))) (by assumption) ?_
  change wpAnyH _ _ _ _ _ _ _ (Act.put _ (some (23 : Nat)) (.int .i64 c.a)) _
  simp only [Act.put, List.setIfInBounds_toArray, List.set_cons_zero, List.set_cons_succ]
  refine wpAnyH_take (i := 3) (v := (.int .u64 ((u64N c.a : Nat) : Int))) rfl (by kernel_rfl) (by kernel_rfl) (by kernel_rfl) (fun _ _ _ h => h) (yields_conv (by kernel_rfl) 2 58 (.tmp 23) rfl (.int .i64 c.a) (by simp [Act.eval]) (.int .u64 ((u64N c.a : Nat) : Int)) (fun W hW => conv_u64 2 58 Tryd.underlying2 Tryd.underlying58 c.a W)) (by assumption) ?_
  change wpAnyH _ _ _ _ _ _ _ (Act.put _ (some (24 : Nat)) (.int .u64 ((u64N c.a : Nat) : Int))) _
  simp only [Act.put, List.setIfInBounds_toArray, List.set_cons_zero, List.set_cons_succ]
  refine wpAnyH_take (i := 5) (v := (.pointer (some ⟨w.heap.size, 5, none⟩))) rfl (by kernel_rfl) (by kernel_rfl) (by kernel_rfl) (fun _ _ _ h => h) (Or.inl ⟨by kernel_rfl, fun w hSw => ?_⟩) (by assumption) ?_
  · (try dsimp only at hSw); go_simp <;> (try rfl)
  change wpAnyH _ _ _ _ _ _ _ (Act.put _ (some (26 : Nat)) (.pointer (some ⟨w.heap.size, 5, none⟩))) _
  simp only [Act.put, List.setIfInBounds_toArray, List.set_cons_zero, List.set_cons_succ]
  refine wpAnyH_take (i := 6) (v := (.int .i64 c.b)) rfl (by kernel_rfl) (by kernel_rfl) (by kernel_rfl) (fun _ _ _ h => h) (yields_load_at (by kernel_rfl) 2 (.tmp 26) rfl (.pointer (some ⟨w.heap.size, 5, none⟩)) rfl (.int .i64 c.b) (fun W hW => load_one' (by kernel_rfl) ((H1f.out.through hW).cellAt (i := 5) rfl))) (by assumption) ?_
  change wpAnyH _ _ _ _ _ _ _ (Act.put _ (some (27 : Nat)) (.int .i64 c.b)) _
  simp only [Act.put, List.setIfInBounds_toArray, List.set_cons_zero, List.set_cons_succ]
  refine wpAnyH_take (i := 7) (v := (.int .u64 ((u64N c.b : Nat) : Int))) rfl (by kernel_rfl) (by kernel_rfl) (by kernel_rfl) (fun _ _ _ h => h) (yields_conv (by kernel_rfl) 2 58 (.tmp 27) rfl (.int .i64 c.b) (by simp [Act.eval]) (.int .u64 ((u64N c.b : Nat) : Int)) (fun W hW => conv_u64 2 58 Tryd.underlying2 Tryd.underlying58 c.b W)) (by assumption) ?_
  change wpAnyH _ _ _ _ _ _ _ (Act.put _ (some (28 : Nat)) (.int .u64 ((u64N c.b : Nat) : Int))) _
  simp only [Act.put, List.setIfInBounds_toArray, List.set_cons_zero, List.set_cons_succ]
  refine wpAnyH_ready (rs := [4]) (by kernel_rfl) (by simp) ?_
  refine AllReadyH.cons rfl (fun K hK => ?_) AllReadyH.nil
  go_simp
  refine (rput_by 8 rfl (u64N c.a) (u64N_lt64 _) (HYf.out.through hHeld) (by first | (simp; done) | (simp; omega))).mono ?_
  rintro e wh ⟨Ah, nh, ch, rfl, hyh, _, _, hbh⟩; have HYh := Lib.hid hyh; have HKh := Lib.hid (below_step hHeld hbh); clear hyh hbh
  go_wp2_with fail
  refine hK.out _ _ HKh.out (fun hHeld1 => ?_)
  clear hHeld hK K
  have hHeld := hHeld1
  clear hHeld1
  refine wpAnyH_ready (rs := [8]) (by kernel_rfl) (by simp) ?_
  refine AllReadyH.cons rfl (fun K hK => ?_) AllReadyH.nil
  go_simp
  refine (rput_by 8 rfl (u64N c.b) (u64N_lt64 _) (HYh.out) (by first | (simp; done) | (simp; omega))).mono ?_
  rintro e wi ⟨Ai, ni, ci, rfl, hyi, _, _, hbi⟩; have HYi := Lib.hid hyi; have HKi := Lib.hid (below_step hHeld hbi); clear hyi hbi
  go_wp2_with fail
  refine hK.out _ _ HKi.out (fun hHeld1 => ?_)
  clear hHeld hK K
  have hHeld := hHeld1
  clear hHeld1
  refine wpAnyH_take (i := 9) (v := (.slice Ai ni ci)) rfl (by kernel_rfl) (by kernel_rfl) (by kernel_rfl) (fun _ _ _ h => h) (Or.inl ⟨by kernel_rfl, fun w hSw => ?_⟩) (by assumption) ?_
  · (try dsimp only at hSw); go_simp <;> (try rfl)
  change wpAnyH _ _ _ _ _ _ _ (Act.put _ (some (3 : Nat)) (.slice Ai ni ci)) _
  simp only [Act.put, List.setIfInBounds_toArray, List.set_cons_zero, List.set_cons_succ]
  refine wpAnyH_done (by kernel_rfl) ?_ _
  have HXi := Lib.hid (below_step HXf.out HKi.out)
  have k6 := (H1f.out.through HKi.out).cellAt (i := 6) rfl
  go_wp2_with (first | (refine wpList_str_bytes rfl (.tmp 32) rfl c.tx rfl ?_; intro Sj dj vj hysj hbsj; have HSj := Lib.hid hysj; have HTj := Lib.hid (HYi.out.through hbsj); have HUj := Lib.hid (below_step HXi.out hbsj); clear hysj hbsj) | (go_at_call 23; (with_reducible refine (rrow_by HTj.out HSj.out (by first | (simp; done) | (simp; omega)) (by omega)).mono ?_); rintro e wj ⟨Aj, nj, cj, rfl, hyj, hnj, hmj, hbj⟩; have HYj := Lib.hid hyj; have HXj := Lib.hid (below_step HUj.out hbj); have HCj := Lib.hid (And.intro hnj hmj); clear hyj hbj hnj hmj))
  go_ret
  exact ⟨Aj, nj, cj, rfl, (by have h9 := HYj.out; simpa only [encCr, List.nil_append, List.append_assoc] using h9), HCj.out.1, HCj.out.2, HXj.out⟩
end

section
open Go.RowKit
/-- may a name have this rune? -/
def nmR (r : Int) : Bool := (decide (97 ≤ r) && decide (r ≤ 122)) || (decide (48 ≤ r) && decide (r ≤ 57)) || (r == 45)
theorem nmR_byte (x : UInt8) : nmR (x.toNat : Int) = nmB x := by
  have h : ∀ a b : Bool, (a = true ↔ b = true) → a = b := fun a b h => by cases a <;> cases b <;> simp_all
  apply h
  simp only [nmR, nmB, Bool.or_eq_true, Bool.and_eq_true, decide_eq_true_eq, beq_iff_eq]
  omega
theorem nmR_high {r : Int} (h : 128 ≤ r) : nmR r = false := by
  cases hb : nmR r
  · rfl
  · simp only [nmR, Bool.or_eq_true, Bool.and_eq_true, decide_eq_true_eq, beq_iff_eq] at hb
    omega
theorem nmR_yes {x : Int} (h : 97 ≤ x ∧ x ≤ 122 ∨ 48 ≤ x ∧ x ≤ 57 ∨ x = 45) : nmR x = true := by
  simp only [nmR, Bool.or_eq_true, Bool.and_eq_true, decide_eq_true_eq, beq_iff_eq]
  omega
theorem nmR_no {x : Int} (h : ¬ (97 ≤ x ∧ x ≤ 122 ∨ 48 ≤ x ∧ x ≤ 57 ∨ x = 45)) : nmR x = false := by
  cases hb : nmR x
  · rfl
  · simp only [nmR, Bool.or_eq_true, Bool.and_eq_true, decide_eq_true_eq, beq_iff_eq] at hb
    omega

set_option maxHeartbeats 1000000 in
theorem isofname_any (r : Int) (w : World) : Calls Tryd.prog 53 #[.int .i32 r] w fun e w' => e = .returned (.bool (nmR r)) ∧ w' = w := by
  by_cases hy : 97 ≤ r ∧ r ≤ 122 ∨ 48 ≤ r ∧ r ≤ 57 ∨ r = 45
  · rw [nmR_yes hy]
    rcases hy with ⟨h, h'⟩ | ⟨h, h'⟩ | h
    all_goals
      go_enter Tryd.func53, Tryd.ntmps53
      go_wp2
      go_ret
      exact ⟨rfl, rfl⟩
  · rw [nmR_no hy]
    have hcases : r < 45 ∨ (45 < r ∧ r < 48) ∨ (57 < r ∧ r < 97) ∨ 122 < r := by omega
    have hne : (r == 45) = false := by simp; omega
    clear hy
    rcases hcases with h | ⟨h, h'⟩ | ⟨h, h'⟩ | h
    · go_enter Tryd.func53, Tryd.ntmps53
      go_wp2
      go_ret
      exact ⟨rfl, rfl⟩
    · go_enter Tryd.func53, Tryd.ntmps53
      go_wp2
      go_ret
      exact ⟨rfl, rfl⟩
    · have b57 : decide (r ≤ 57) = false := by simp; omega
      go_enter Tryd.func53, Tryd.ntmps53
      go_wp2
      go_ret
      exact ⟨rfl, rfl⟩
    · have b57 : decide (r ≤ 57) = false := by simp; omega
      have b122 : decide (r ≤ 122) = false := by simp; omega
      go_enter Tryd.func53, Tryd.ntmps53
      go_wp2
      go_ret
      exact ⟨rfl, rfl⟩

set_option maxHeartbeats 4000000 in
set_option maxRecDepth 100000 in
theorem isname_any (t : List UInt8) (w : World) (hl : t.length ≤ 140737488355328) : Calls Tryd.prog 47 #[.string (ba t)] w fun e w' => e = .returned (.bool (isNm t)) ∧ Below w.heap.size w w' := by
  have hsz := ba_size
  obtain ⟨bb, hbb⟩ : ∃ bb, isNm t = bb := ⟨_, rfl⟩
  rw [hbb]
  have HBB := Lib.hid hbb
  clear hbb
  by_cases h1 : t.length < 1
  · go_enter Tryd.func47, Tryd.ntmps47
    go_wp2
    go_ret
    exact ⟨ret_b (by rw [← HBB.out, isNm_eq]; simp; omega), Below.refl _ _⟩
  by_cases h16 : 16 < t.length
  · go_enter Tryd.func47, Tryd.ntmps47
    go_wp2
    go_ret
    exact ⟨ret_b (by rw [← HBB.out, isNm_eq]; simp; omega), Below.refl _ _⟩
  have hd1 : decide ((t.length : Int) < 1) = false := by simp; omega
  have hd2 : decide ((16 : Int) < t.length) = false := by simp; omega
  have H1 := Lib.hid h1
  have H16 := Lib.hid h16
  clear h1 h16
  go_enter Tryd.func47, Tryd.ntmps47
  go_wp2
  go_loopw [4] (fun ev wr => ∃ pos : Nat, pos ≤ t.length ∧ wr.heap[w.heap.size]? = some (.stringIter (ba t) pos) ∧ Below w.heap.size w wr ∧ (t.take pos).all nmB = true ∧ ∃ ev', ev' = ev) (fun _ wr => t.length - wr.iterPos w.heap.size)
  case atStart => exact ⟨0, Nat.zero_le _, World.iter_heap w (ba t) 0, (Below.refl _ w).alloc (Nat.le_refl _) _, rfl, _, rfl⟩
  case round =>
    obtain ⟨pos, hp, hit, hx, hs, ev', rfl⟩ := hrel
    have HX := Lib.hid hx
    have HS := Lib.hid hs
    have hmeas : wr.iterPos w.heap.size = pos := by simp only [World.iterPos, hit]
    clear hx hs
    by_cases hlt : pos < t.length
    · have hpz : pos < (ba t).size := by rw [ba_size]; exact hlt
      obtain ⟨x, hxx⟩ : ∃ x, t[pos]? = some x := ⟨_, List.getElem?_eq_getElem hlt⟩
      have hxe : (ba t)[pos]'hpz = x := by rw [ba_get]; exact (List.getElem?_eq_some_iff.1 hxx).2
      have hal : (t.take (pos + 1)).all nmB = nmB x := by
        rw [List.take_add_one, hxx]
        simp [HS.out]
      have hall : nmB x = false → t.all nmB = false := fun h => by
        rw [← List.take_append_drop (pos + 1) t, List.all_append, hal, h]
        rfl
      cases hq : nmB x with
      | true =>
        have ha : ((ba t)[pos]'hpz).toNat < 128 := by
          rw [hxe]
          have h9 := nmR_byte x
          rw [hq] at h9
          by_cases h8 : x.toNat < 128
          · exact h8
          · rw [nmR_high (by omega)] at h9; cases h9
        have hnx : ∀ ty, (Instr.next (.pointer (some ⟨w.heap.size, 0, none⟩)) true ty).run Tryd.prog wr = .ok (.tuple #[.bool true, .int .i64 (pos : Int), .int .i32 (x.toNat : Int)]) (wr.iterAt w.heap.size (ba t) (pos + 1)) := fun ty => by
          rw [← hxe]
          exact Lib.run_next_ascii_at wr w.heap.size (ba t) pos ty hit hpz ha
        have hk := fun W => isofname_any (x.toNat : Int) W
        rw [nmR_byte x, hq] at hk
        have HKd := Lib.hid hk
        have hit2 := Lib.iterAt_heap wr w.heap.size (ba t) pos (pos + 1) hit
        have hx2 := Lib.below_iterAt HX.out (Nat.le_refl _) (ba t) (pos + 1)
        have HSp := Lib.hid (hal.trans hq)
        generalize wr.iterAt w.heap.size (ba t) (pos + 1) = w2 at *
        have HI2 := Lib.hid hit2
        have HX2 := Lib.hid hx2
        clear hk hq hal hall hxe hxx hit2 hx2 ha
        go_wp2_with (go_at_call 53; (with_reducible refine (HKd.out _).mono ?_); rintro e w3 ⟨rfl, rfl⟩)
        go_roundw
        case rel => exact ⟨pos + 1, by omega, HI2.out, HX2.out, HSp.out, _, rfl⟩
        case measure => rw [hmeas]; have h9 := HI2.out; simp only [World.iterPos, h9]; omega
      | false =>
        have HN := Lib.hid (hall hq)
        obtain ⟨r, wd, hnx, hrk⟩ : ∃ (r : Int) (wd : Nat), (∀ ty, (Instr.next (.pointer (some ⟨w.heap.size, 0, none⟩)) true ty).run Tryd.prog wr = .ok (.tuple #[.bool true, .int .i64 (pos : Int), .int .i32 r]) (wr.iterAt w.heap.size (ba t) wd)) ∧ nmR r = false := by
          by_cases ha : ((ba t)[pos]'hpz).toNat < 128
          · refine ⟨x.toNat, pos + 1, fun ty => ?_, ?_⟩
            · rw [← hxe]
              exact Lib.run_next_ascii_at wr w.heap.size (ba t) pos ty hit hpz ha
            · rw [nmR_byte x, hq]
          · refine ⟨(Utf8.decode (ba t) pos).1, _, fun ty => Lib.run_next_any_at wr w.heap.size (ba t) pos ty hit hpz, ?_⟩
            have hd := (decode_high (ba t) pos hpz (by omega)).1
            exact nmR_high (by omega)
        have hk := fun W => isofname_any r W
        rw [hrk] at hk
        have HKd := Lib.hid hk
        have hx2 := Lib.below_iterAt HX.out (Nat.le_refl _) (ba t) wd
        generalize wr.iterAt w.heap.size (ba t) wd = w2 at *
        have HX2 := Lib.hid hx2
        clear hk hrk hq hal hall hxe hxx hx2 hit hmeas
        go_wp2_with (go_at_call 53; (with_reducible refine (HKd.out _).mono ?_); rintro e w3 ⟨rfl, rfl⟩)
        go_ret
        exact ⟨ret_b (by rw [← HBB.out, isNm_eq, HN.out]; rfl), HX2.out⟩
    · have hpe : pos = t.length := by omega
      have hs := HS.out
      rw [hpe, List.take_length] at hs
      have HA := Lib.hid hs
      subst hpe
      have hnx : ∀ ty, (Instr.next (.pointer (some ⟨w.heap.size, 0, none⟩)) true ty).run Tryd.prog wr = .ok (.tuple #[.bool false]) wr := fun ty => Lib.run_next_end_at wr w.heap.size (ba t) _ ty hit (by rw [ba_size]; omega)
      clear hs hmeas
      go_wp2
      go_ret
      exact ⟨ret_b (by rw [← HBB.out, isNm_eq, HA.out]; have := H1.out; have := H16.out; simp; omega), HX.out⟩
end

section
open Go.RowKit
/-- may there be n replicas? -/
def szB (n : Int) : Bool := decide (1 ≤ n) && decide (n ≤ 7)
theorem szB_no {n : Int} (h : n < 1 ∨ 7 < n) : szB n = false := by unfold szB; simp; omega
theorem szB_yes {n : Int} (h : ¬ (n < 1 ∨ 7 < n)) : szB n = true := by unfold szB; simp; omega
set_option maxHeartbeats 1000000 in
theorem issize_any (n : Int) (w : World) : Calls Tryd.prog 46 #[.int .i64 n] w fun e w' => e = .returned (.bool (szB n)) ∧ w' = w := by
  unfold szB
  by_cases h1 : 1 ≤ n
  · have d1 : decide (1 ≤ n) = true := by simpa using h1
    go_enter Tryd.func46, Tryd.ntmps46
    go_wp2
    go_ret
    exact ⟨ret_b (by simp [h1]), rfl⟩
  · have d1 : decide (1 ≤ n) = false := by simpa using h1
    go_enter Tryd.func46, Tryd.ntmps46
    go_wp2
    go_ret
    exact ⟨ret_b (by simp), rfl⟩

set_option maxHeartbeats 8000000 in
set_option maxRecDepth 100000 in
theorem chkC_any (c : Cr) (n : Int) (w : World) (hl : c.lt.length ≤ 140737488355328) :
    Calls Tryd.prog 33 #[.agg #[.int .i64 c.cl, .int .i64 c.sp, .int .i64 c.op, .string (ba c.lt), .int .i64 c.a, .int .i64 c.b, .string (ba c.tx)], .int .i64 n] w fun e w' => e = .returned (.int .i64 (chkC c n)) ∧ Below w.heap.size w w' := by
  have hsz := ba_size
  have HX : Hid (Below w.heap.size w (w.alloc (.cells #[.int .i64 c.cl, .int .i64 c.sp, .int .i64 c.op, .string (ba c.lt), .int .i64 c.a, .int .i64 c.b, .string (ba c.tx)] 40))) := Lib.hid ((Below.refl _ w).alloc (Nat.le_refl _) _)
  have HB : Hid (Blk (w.alloc (.cells #[.int .i64 c.cl, .int .i64 c.sp, .int .i64 c.op, .string (ba c.lt), .int .i64 c.a, .int .i64 c.b, .string (ba c.tx)] 40)) w.heap.size 40 [.int .i64 c.cl, .int .i64 c.sp, .int .i64 c.op, .string (ba c.lt), .int .i64 c.a, .int .i64 c.b, .string (ba c.tx)]) := Lib.hid (Blk.fresh rfl rfl)
  have c0 := HB.out.cellAt (i := 0) rfl
  have c1 := HB.out.cellAt (i := 1) rfl
  have c2 := HB.out.cellAt (i := 2) rfl
  have c3 := HB.out.cellAt (i := 3) rfl
  by_cases hz : n < 1 ∨ 7 < n
  case pos =>
    have HSZ := Lib.hid (fun W : World => szB_no hz ▸ issize_any n W)
    go_enter Tryd.func33, Tryd.ntmps33
    have hv : chkC c n = 1 := by unfold chkC; simp [hz]; try omega
    have HV := Lib.hid hv
    clear hv hz 
    go_wp2_with (first
      | (go_at_call 46; (with_reducible refine (HSZ.out _).mono ?_); rintro e w1 ⟨rfl, rfl⟩))
    go_ret
    exact ⟨ret_i HV.out.symm, HX.out⟩
  case neg =>
    have HSZ := Lib.hid (fun W : World => szB_yes hz ▸ issize_any n W)
    go_enter Tryd.func33, Tryd.ntmps33
    by_cases h0 : c.cl < n
    case pos =>
      have d0 : decide (c.cl < n) = true := by simpa using h0
      have hv : chkC c n = 17 := by unfold chkC; simp [hz, h0]; try omega
      have HV := Lib.hid hv
      clear hv hz h0
      go_wp2_with (first
        | (go_at_call 46; (with_reducible refine (HSZ.out _).mono ?_); rintro e w1 ⟨rfl, rfl⟩))
      go_ret
      exact ⟨ret_i HV.out.symm, HX.out⟩
    case neg =>
      have d0 : decide (c.cl < n) = false := by simpa using h0
      have hwr : IntKind.i64.wrap (n + 4) = n + 4 := IntWalk.i64_in _ (by omega)
      by_cases h1 : n + 4 ≤ c.cl
      case pos =>
        have d1 : decide (n + 4 ≤ c.cl) = true := by simpa using h1
        have h1b : n + 3 < c.cl := by omega
        have hv : chkC c n = 17 := by unfold chkC; simp [hz, h0, h1b]; try omega
        have HV := Lib.hid hv
        clear hv hz h0 h1
        go_wp2_with (first
          | (go_at_call 46; (with_reducible refine (HSZ.out _).mono ?_); rintro e w1 ⟨rfl, rfl⟩))
        go_ret
        exact ⟨ret_i HV.out.symm, HX.out⟩
      case neg =>
        have d1 : decide (n + 4 ≤ c.cl) = false := by simpa using h1
        have h1b : ¬ n + 3 < c.cl := by omega
        by_cases h2 : c.sp < 1
        case pos =>
          have d2 : decide (c.sp < 1) = true := by simpa using h2
          have hv : chkC c n = 5 := by unfold chkC; simp [hz, h0, h1b, h2]; try omega
          have HV := Lib.hid hv
          clear hv hz h0 h1 h2
          go_wp2_with (first
            | (go_at_call 46; (with_reducible refine (HSZ.out _).mono ?_); rintro e w1 ⟨rfl, rfl⟩))
          go_ret
          exact ⟨ret_i HV.out.symm, HX.out⟩
        case neg =>
          have d2 : decide (c.sp < 1) = false := by simpa using h2
          by_cases h3 : 1099511627776 < c.sp
          case pos =>
            have d3 : decide (1099511627776 < c.sp) = true := by simpa using h3
            have hv : chkC c n = 5 := by unfold chkC; simp [hz, h0, h1b, h2, h3]; try omega
            have HV := Lib.hid hv
            clear hv hz h0 h1 h2 h3
            go_wp2_with (first
              | (go_at_call 46; (with_reducible refine (HSZ.out _).mono ?_); rintro e w1 ⟨rfl, rfl⟩))
            go_ret
            exact ⟨ret_i HV.out.symm, HX.out⟩
          case neg =>
            have d3 : decide (1099511627776 < c.sp) = false := by simpa using h3
            by_cases h4 : c.op < 1
            case pos =>
              have d4 : decide (c.op < 1) = true := by simpa using h4
              have hv : chkC c n = 5 := by unfold chkC; simp [hz, h0, h1b, h2, h3, h4]; try omega
              have HV := Lib.hid hv
              clear hv hz h0 h1 h2 h3 h4
              go_wp2_with (first
                | (go_at_call 46; (with_reducible refine (HSZ.out _).mono ?_); rintro e w1 ⟨rfl, rfl⟩))
              go_ret
              exact ⟨ret_i HV.out.symm, HX.out⟩
            case neg =>
              have d4 : decide (c.op < 1) = false := by simpa using h4
              by_cases h5 : 9 < c.op
              case pos =>
                have d5 : decide (9 < c.op) = true := by simpa using h5
                have hv : chkC c n = 5 := by unfold chkC; simp [hz, h0, h1b, h2, h3, h4, h5]; try omega
                have HV := Lib.hid hv
                clear hv hz h0 h1 h2 h3 h4 h5
                go_wp2_with (first
                  | (go_at_call 46; (with_reducible refine (HSZ.out _).mono ?_); rintro e w1 ⟨rfl, rfl⟩))
                go_ret
                exact ⟨ret_i HV.out.symm, HX.out⟩
              case neg =>
                have d5 : decide (9 < c.op) = false := by simpa using h5
                cases hn : isNm c.lt with
                | false =>
                  have HNM := Lib.hid (fun W : World => hn ▸ isname_any c.lt W hl)
                  have hv : chkC c n = 7 := by unfold chkC; simp [hz, h0, h1b, h2, h3, h4, h5, hn]; try omega
                  have HV := Lib.hid hv
                  clear hv hz h0 h1 h2 h3 h4 h5
                  go_wp2_with (first
                    | (go_at_call 46; (with_reducible refine (HSZ.out _).mono ?_); rintro e w1 ⟨rfl, rfl⟩)
                    | (go_at_call 47; (with_reducible refine (HNM.out _).mono ?_); rintro e w2 ⟨rfl, hb⟩; have H2 := Lib.hid (HB.out.through hb); have HX2 := Lib.hid (below_step HX.out hb); have c6b := H2.out.cellAt (i := 6) rfl; clear hb))
                  go_ret
                  exact ⟨ret_i HV.out.symm, HX2.out⟩
                | true =>
                  have HNM := Lib.hid (fun W : World => hn ▸ isname_any c.lt W hl)
                  by_cases h6 : c.tx.length ≤ 200
                  case neg =>
                    have d6 : decide ((200 : Int) < (c.tx.length : Int)) = true := by simp; omega
                    have hv : chkC c n = 3 := by unfold chkC; simp [hz, h0, h1b, h2, h3, h4, h5, h6, hn]; try omega
                    have HV := Lib.hid hv
                    clear hv hz h0 h1 h2 h3 h4 h5 h6
                    go_wp2_with (first
                      | (go_at_call 46; (with_reducible refine (HSZ.out _).mono ?_); rintro e w1 ⟨rfl, rfl⟩)
                      | (go_at_call 47; (with_reducible refine (HNM.out _).mono ?_); rintro e w2 ⟨rfl, hb⟩; have H2 := Lib.hid (HB.out.through hb); have HX2 := Lib.hid (below_step HX.out hb); have c6b := H2.out.cellAt (i := 6) rfl; clear hb))
                    go_ret
                    exact ⟨ret_i HV.out.symm, HX2.out⟩
                  case pos =>
                    have d6 : decide ((200 : Int) < (c.tx.length : Int)) = false := by simp; omega
                    have hv : chkC c n = 0 := by unfold chkC; simp [hz, h0, h1b, h2, h3, h4, h5, h6, hn]; try omega
                    have HV := Lib.hid hv
                    clear hv hz h0 h1 h2 h3 h4 h5 h6
                    go_wp2_with (first
                      | (go_at_call 46; (with_reducible refine (HSZ.out _).mono ?_); rintro e w1 ⟨rfl, rfl⟩)
                      | (go_at_call 47; (with_reducible refine (HNM.out _).mono ?_); rintro e w2 ⟨rfl, hb⟩; have H2 := Lib.hid (HB.out.through hb); have HX2 := Lib.hid (below_step HX.out hb); have c6b := H2.out.cellAt (i := 6) rfl; clear hb))
                    go_ret
                    exact ⟨ret_i HV.out.symm, HX2.out⟩

theorem put1_by {Q : Nat → Prop} {A : Option Addr} {n c : Nat} {xs : List UInt8} {w : World} (v : Nat) (hv : v < 18446744073709551616) (h : By w Q A n xs) (hn : xs.length ≤ 1099511627776) (hnc : n ≤ c) :
    Calls Tryd.prog 21 #[.slice A n c, .int .u64 v, .int .i64 1] w (Byt w (xs ++ beB v 1)) := put_by 1 rfl v hv h hn hnc
theorem put2_by {Q : Nat → Prop} {A : Option Addr} {n c : Nat} {xs : List UInt8} {w : World} (v : Nat) (hv : v < 18446744073709551616) (h : By w Q A n xs) (hn : xs.length ≤ 1099511627776) (hnc : n ≤ c) :
    Calls Tryd.prog 21 #[.slice A n c, .int .u64 v, .int .i64 2] w (Byt w (xs ++ beB v 2)) := put_by 2 rfl v hv h hn hnc
theorem put8_by {Q : Nat → Prop} {A : Option Addr} {n c : Nat} {xs : List UInt8} {w : World} (v : Nat) (hv : v < 18446744073709551616) (h : By w Q A n xs) (hn : xs.length ≤ 1099511627776) (hnc : n ≤ c) :
    Calls Tryd.prog 21 #[.slice A n c, .int .u64 v, .int .i64 8] w (Byt w (xs ++ beB v 8)) := put_by 8 rfl v hv h hn hnc

set_option maxHeartbeats 8000000 in
set_option maxRecDepth 100000 in
theorem coreB_any (c : Cr) (w : World) (hl : c.lt.length ≤ 1000000) (ht : c.tx.length ≤ 1000000) :
    Calls Tryd.prog 45 #[.agg #[.int .i64 c.cl, .int .i64 c.sp, .int .i64 c.op, .string (ba c.lt), .int .i64 c.a, .int .i64 c.b, .string (ba c.tx)]] w (Byt w (encCr c)) := by
  have hcv0 := fun (v : Int) (W : World) => conv_u64 2 58 Tryd.underlying2 Tryd.underlying58 v W
  have hcv1 := fun (v : Int) (W : World) => conv_u64 3 58 Tryd.underlying3 Tryd.underlying58 v W
  have H0 : Hid (Blk (w.alloc (.cells #[.int .i64 c.cl, .int .i64 c.sp, .int .i64 c.op, .string (ba c.lt), .int .i64 c.a, .int .i64 c.b, .string (ba c.tx)] 40)) w.heap.size 40 [.int .i64 c.cl, .int .i64 c.sp, .int .i64 c.op, .string (ba c.lt), .int .i64 c.a, .int .i64 c.b, .string (ba c.tx)]) := Lib.hid (Blk.fresh rfl rfl)
  have HX0 : Hid (Below w.heap.size w (w.alloc (.cells #[.int .i64 c.cl, .int .i64 c.sp, .int .i64 c.op, .string (ba c.lt), .int .i64 c.a, .int .i64 c.b, .string (ba c.tx)] 40))) := Lib.hid ((Below.refl _ w).alloc (Nat.le_refl _) _)
  have c0 := H0.out.cellAt (i := 0) rfl
  go_enter Tryd.func45, Tryd.ntmps45
  go_wp2_with (first
    | (go_at_call 21; (with_reducible refine (put1_by (Q := fun _ => True) (A := none) (n := 0) (c := 0) (xs := []) (u64N c.cl) (u64N_lt64 _) By.none_ (by simp) (Nat.le_refl _)).mono ?_); rintro e w1 ⟨A1, n1, c1', rfl, hy1, hc1, hm1, hb1⟩; have H1 := Lib.hid (H0.out.through hb1); have HX1 : Hid (Below w.heap.size w w1) := Lib.hid (below_step HX0.out hb1); have HY1 := Lib.hid hy1; have HC1 := Lib.hid hc1; have HM1 := Lib.hid hm1; have c1 := H1.out.cellAt (i := 1) rfl; clear hy1 hb1 hc1 hm1)
    | (go_at_call 21; (with_reducible refine (put8_by (u64N c.sp) (u64N_lt64 _) HY1.out (by first | (simp; done) | (simp; omega)) HC1.out).mono ?_); rintro e w2 ⟨A2, n2, c2', rfl, hy2, hc2, hm2, hb2⟩; have H2 := Lib.hid (H1.out.through hb2); have HX2 : Hid (Below w.heap.size w w2) := Lib.hid (below_step HX1.out hb2); have HY2 := Lib.hid hy2; have HC2 := Lib.hid hc2; have HM2 := Lib.hid hm2; have c2 := H2.out.cellAt (i := 2) rfl; clear hy2 hb2 hc2 hm2)
    | (go_at_call 21; (with_reducible refine (put1_by (u64N c.op) (u64N_lt64 _) HY2.out (by first | (simp; done) | (simp; omega)) HC2.out).mono ?_); rintro e w3 ⟨A3, n3, c3', rfl, hy3, hc3, hm3, hb3⟩; have H3 := Lib.hid (H2.out.through hb3); have HX3 : Hid (Below w.heap.size w w3) := Lib.hid (below_step HX2.out hb3); have HY3 := Lib.hid hy3; have HC3 := Lib.hid hc3; have HM3 := Lib.hid hm3; have c3 := H3.out.cellAt (i := 3) rfl; clear hy3 hb3 hc3 hm3)
    | (refine wpList_str_bytes rfl (.tmp 20) rfl c.lt rfl ?_; intro Bs3 cs3 v3 hys3 hbs3; have HYs3 := Lib.hid hys3; have Hs3 := Lib.hid (H3.out.through hbs3); have HXs3 : Hid (Below w.heap.size w v3) := Lib.hid (below_step HX3.out hbs3); have HYt3 := Lib.hid (HY3.out.through hbs3); clear hys3 hbs3)
    | (go_at_call 44; (with_reducible refine (row_by HYt3.out HYs3.out (by first | (simp; done) | (simp; omega)) (by omega) HC3.out).mono ?_); rintro e w4 ⟨A4, n4, c4', rfl, hy4, hc4, hm4, hb4⟩; have H4 := Lib.hid (Hs3.out.through hb4); have HX4 : Hid (Below w.heap.size w w4) := Lib.hid (below_step HXs3.out hb4); have HY4 := Lib.hid hy4; have HC4 := Lib.hid hc4; have HM4 := Lib.hid hm4; have c4 := H4.out.cellAt (i := 4) rfl; clear hy4 hb4 hc4 hm4)
    | (go_at_call 21; (with_reducible refine (put8_by (u64N c.a) (u64N_lt64 _) HY4.out (by first | (simp; done) | (simp; omega)) HC4.out).mono ?_); rintro e w5 ⟨A5, n5, c5', rfl, hy5, hc5, hm5, hb5⟩; have H5 := Lib.hid (H4.out.through hb5); have HX5 : Hid (Below w.heap.size w w5) := Lib.hid (below_step HX4.out hb5); have HY5 := Lib.hid hy5; have HC5 := Lib.hid hc5; have HM5 := Lib.hid hm5; have c5 := H5.out.cellAt (i := 5) rfl; clear hy5 hb5 hc5 hm5)
    | (go_at_call 21; (with_reducible refine (put8_by (u64N c.b) (u64N_lt64 _) HY5.out (by first | (simp; done) | (simp; omega)) HC5.out).mono ?_); rintro e w6 ⟨A6, n6, c6', rfl, hy6, hc6, hm6, hb6⟩; have H6 := Lib.hid (H5.out.through hb6); have HX6 : Hid (Below w.heap.size w w6) := Lib.hid (below_step HX5.out hb6); have HY6 := Lib.hid hy6; have HC6 := Lib.hid hc6; have HM6 := Lib.hid hm6; have c6 := H6.out.cellAt (i := 6) rfl; clear hy6 hb6 hc6 hm6)
    | (refine wpList_str_bytes rfl (.tmp 35) rfl c.tx rfl ?_; intro Bs6 cs6 v6 hys6 hbs6; have HYs6 := Lib.hid hys6; have Hs6 := Lib.hid (H6.out.through hbs6); have HXs6 : Hid (Below w.heap.size w v6) := Lib.hid (below_step HX6.out hbs6); have HYt6 := Lib.hid (HY6.out.through hbs6); clear hys6 hbs6)
    | (go_at_call 44; (with_reducible refine (row_by HYt6.out HYs6.out (by first | (simp; done) | (simp; omega)) (by omega) HC6.out).mono ?_); rintro e w7 ⟨A7, n7, c7', rfl, hy7, hc7, hm7, hb7⟩; have H7 := Lib.hid (Hs6.out.through hb7); have HX7 : Hid (Below w.heap.size w w7) := Lib.hid (below_step HXs6.out hb7); have HY7 := Lib.hid hy7; have HC7 := Lib.hid hc7; have HM7 := Lib.hid hm7; clear hy7 hb7 hc7 hm7))
  go_ret
  exact ⟨A7, n7, c7', rfl, by have h9 := HY7.out; simpa only [encCr, List.nil_append, List.append_assoc] using h9, HC7.out, HM7.out, HX7.out⟩
end

section
open Go.RowKit
/-- s is the type of slices of e, whose elements have k cells. -/
structure El (P : Program) (s e : TypeId) (k bytes : Nat) (z : Value) : Prop where
  sl : P.underlying s = some (.slice e)
  info : (P.info? e).map (fun i => (i.zero, i.size, i.bytes)) = some (some z, k, bytes)
  zero : z.cells.size = k
  pos : 0 < k
  small : k ≤ 1000
  bsm : bytes ≤ 100000

/-- The slice '.slice A n _' reads as these elements, each so many cells. -/
def Sl (w : World) (k : Nat) (A : Option Addr) (n : Nat) (xs : List (List Value)) : Prop :=
  xs.length = n ∧ (0 < n → ∃ g o, A = some ⟨g, o, none⟩ ∧ ∀ (i : Nat) (cs : List Value), xs[i]? = some cs → w.rangeAt g (o + i * k) cs)
/-- v is the call's own slice of these elements: its memory from B on. -/
def Os (w : World) (B : Nat) (e : TypeId) (k : Nat) (v : Value) (xs : List (List Value)) : Prop :=
  w.ownsRow B e k v xs.length xs.flatten ∧ ∀ x ∈ xs, x.length = k

section
variable {w w' : World} {k n B : Nat} {A : Option Addr} {xs : List (List Value)} {v : Value} {e : TypeId}
theorem rangeAt.through {g o : Nat} {cs : List Value} (h : w.rangeAt g o cs) (hb : Below w.heap.size w w') : w'.rangeAt g o cs := fun j u hu =>
  (hb.cell (p := ⟨g, _, none⟩) (World.block_lt_of_cell? w ⟨g, o + j, none⟩ (h j u hu))).trans (h j u hu)
theorem rangeAt.only {g o g' : Nat} {cs : List Value} (h : w.rangeAt g o cs) (hb : w.grownBy w' (some g')) (hne : g ≠ g') : w'.rangeAt g o cs := fun j u hu =>
  hb.cell (h j u hu) (by simpa using hne)
theorem Sl.none_ : Sl w k A 0 [] := ⟨rfl, fun h => absurd h (by omega)⟩
theorem Sl.len (h : Sl w k A n xs) : xs.length = n := h.1
theorem Sl.through (h : Sl w k A n xs) (hb : Below w.heap.size w w') : Sl w' k A n xs := ⟨h.1, fun hn => by
  obtain ⟨g, o, e, hc⟩ := h.2 hn
  exact ⟨g, o, e, fun i cs hi => rangeAt.through (hc i cs hi) hb⟩⟩
theorem Sl.alloc (h : Sl w k A n xs) (o : Obj) : Sl (w.alloc o) k A n xs := h.through ((Below.refl _ w).alloc (Nat.le_refl _) o)
theorem Sl.drew (h : Sl w k A n xs) : Sl w.drew k A n xs := h
theorem Sl.drewN (h : Sl w k A n xs) (m : Nat) : Sl (w.drewN m) k A n xs := h
theorem Sl.at (h : Sl w k A n xs) {i : Nat} (hi : i < n) : ∃ g o x, A = some ⟨g, o, none⟩ ∧ xs[i]? = some x ∧ x ∈ xs ∧ xs.drop i = x :: xs.drop (i + 1) ∧ w.rangeAt g (o + i * k) x := by
  obtain ⟨g, o, e, hc⟩ := h.2 (by omega)
  have hl : i < xs.length := by rw [h.1]; exact hi
  exact ⟨g, o, xs[i], e, List.getElem?_eq_getElem hl, List.getElem_mem hl, List.drop_eq_getElem_cons hl, hc i _ (List.getElem?_eq_getElem hl)⟩

theorem Os.nil (w : World) (B : Nat) (e : TypeId) (k : Nat) : Os w B e k (.slice none 0 0) [] := ⟨World.ownsRow_nil w _ _ _, fun x h => by cases h⟩
theorem Os.keep (h : Os w B e k v xs) (hk : ∀ b, B ≤ b → b < w.heap.size → v.ownBlock = some b → w'.heap[b]? = w.heap[b]?) : Os w' B e k v xs := by
  refine ⟨⟨h.1.1, ?_⟩, h.2⟩
  rcases h.1.2 with h | ⟨g, cap, cur, hv, hb, hg, h1⟩
  · exact .inl h
  · exact .inr ⟨g, cap, cur, hv, hb, (hk g hb (Array.getElem?_eq_some_iff.1 hg).1 (by rw [hv]; rfl)).trans hg, h1⟩
theorem Os.through (h : Os w B e k v xs) (hb : Below w.heap.size w w') : Os w' B e k v xs := h.keep fun b _ hl _ => hb.block b hl
theorem Os.alloc (h : Os w B e k v xs) (o : Obj) : Os (w.alloc o) B e k v xs := h.through ((Below.refl _ w).alloc (Nat.le_refl _) o)
theorem Os.drew (h : Os w B e k v xs) : Os w.drew B e k v xs := h
theorem Os.drewN (h : Os w B e k v xs) (m : Nat) : Os (w.drewN m) B e k v xs := h
theorem Os.lt (h : Os w B e k v xs) : ∀ b, v.ownBlock = some b → B ≤ b ∧ b < w.heap.size := fun b hb => h.1.lt b hb
/-- A block of another type is turned. -/
theorem Os.only {g : Nat} {t : TypeId} {cs : Array Value} {fz : Nat × Nat} (h : Os w B e k v xs) (hb : w.grownBy w' (some g)) (hg : w.heap[g]? = some (.cells cs t fz)) (hne : t ≠ e) : Os w' B e k v xs := by
  refine ⟨⟨h.1.1, ?_⟩, h.2⟩
  rcases h.1.2 with h | ⟨g2, cap, cur, hv, hb2, hg2, h1⟩
  · exact .inl h
  · refine .inr ⟨g2, cap, cur, hv, hb2, (hb.block g2 (Array.getElem?_eq_some_iff.1 hg2).1 (fun e2 => ?_)).trans hg2, h1⟩
    have e3 : g2 = g := Option.some.inj e2
    subst e3
    rw [hg] at hg2
    injection hg2 with hg2
    injection hg2 with _ ht
    exact hne ht
/-- A block below is turned. -/
theorem Os.far {g : Nat} (h : Os w B e k v xs) (hb : w.grownBy w' (some g)) (hg : g < B) : Os w' B e k v xs :=
  h.keep fun b hB hl _ => hb.block b hl (fun e => by have := Option.some.inj e; omega)
theorem Os.weak {B' : Nat} (h : Os w B e k v xs) (hB : B' ≤ B) : Os w B' e k v xs := by
  refine ⟨⟨h.1.1, ?_⟩, h.2⟩
  rcases h.1.2 with h | ⟨g, cap, cur, hv, hb, r⟩
  · exact .inl h
  · exact .inr ⟨g, cap, cur, hv, Nat.le_trans hB hb, r⟩
theorem flatten_drop_take : ∀ (xs : List (List Value)) (i : Nat) (x : List Value), (∀ y ∈ xs, y.length = k) → xs[i]? = some x → ∀ (j : Nat) (u : Value), x[j]? = some u → xs.flatten[i * k + j]? = some u
  | [], _, _, _, h, _, _, _ => by simp at h
  | y :: ys, 0, x, hk, h, j, u, hu => by
    simp at h
    subst h
    rw [List.flatten_cons, Nat.zero_mul, Nat.zero_add, List.getElem?_append_left (List.getElem?_eq_some_iff.1 hu).1, hu]
  | y :: ys, i + 1, x, hk, h, j, u, hu => by
    have hy := hk y (List.mem_cons_self ..)
    have := flatten_drop_take ys i x (fun z hz => hk z (List.mem_cons_of_mem _ hz)) (by simpa using h) j u hu
    rw [List.flatten_cons, List.getElem?_append_right (by rw [hy, Nat.add_mul]; omega), hy]
    rw [show (i + 1) * k + j - k = i * k + j by rw [Nat.add_mul]; omega]
    exact this
theorem flatten_len : ∀ (xs : List (List Value)), (∀ y ∈ xs, y.length = k) → xs.flatten.length = xs.length * k
  | [], _ => by simp
  | y :: ys, h => by
    rw [List.flatten_cons, List.length_append, h y (List.mem_cons_self ..), flatten_len ys (fun z hz => h z (List.mem_cons_of_mem _ hz)), List.length_cons, Nat.add_mul]
    omega
/-- What a call owns, read. -/
theorem Os.out (h : Os w B e k v xs) : ∃ A c, v = .slice A xs.length c ∧ xs.length ≤ c ∧ c ≤ maxLen ∧ Sl w k A xs.length xs := by
  rcases h.1.2 with ⟨hv, hn⟩ | ⟨g, cap, cur, hv, hb, hg, hc, hm, hs, ht⟩
  · rw [hn]
    exact ⟨none, 0, hv, by omega, by simp [maxLen], hn, fun h0 => absurd h0 (by omega)⟩
  · refine ⟨_, cap, hv, hc, hm, rfl, fun _ => ⟨g, 0, rfl, fun i x hx j u hu => ?_⟩⟩
    have h1 := flatten_drop_take xs i x h.2 hx j u hu
    have hl := flatten_len xs h.2
    have hj : i * k + j < xs.flatten.length := (List.getElem?_eq_some_iff.1 h1).1
    rw [Nat.zero_add, cell_of_row w g _ _ _ _ hg, ← Array.getElem?_toList, ← List.getElem?_take_of_lt (show i * k + j < xs.length * k by omega), ht, h1]
end

section
variable {P : Program} {s e : TypeId} {k bytes : Nat} {z : Value}
/-- An element's place. -/
theorem El.index (E : El P s e k bytes z) (he : P.elem s = e) (W : World) (g o n c j : Nat) (hj : j < n) : (Instr.indexAt s (.slice (some ⟨g, o, none⟩) n c) (.int .i64 (j : Int))).run P W = .ok (.pointer (some ⟨g, o + j * k, none⟩)) W := by
  obtain ⟨i, hi, h1⟩ := Option.map_eq_some_iff.1 E.info
  simp only [Prod.mk.injEq] at h1
  have hs : (sizeOf e).run P W = .ok k W := by simp [sizeOf, typeInfo, hi, h1.2.1]
  rw [run_indexAt_slice (P := P) W s ⟨g, o, none⟩ n c .i64 j (by rw [he]; exact E.sl), if_pos ⟨by omega, by omega⟩, he, hs]
  simp only [Result.andThen_ok, Int.toNat_natCast]
  have ea : (⟨g, o, none⟩ : Addr).add (j * k) = ⟨g, o + j * k, none⟩ := by unfold Addr.add; split <;> simp_all
  rw [ea]
/-- '[]T{x}' -/
theorem El.run_build (E : El P s e k bytes z) (w : World) (q : List Value) (hq : q.length = k) : (Instr.buildSlice s 1 #[(0, .agg q.toArray)]).run P w = .ok (.slice (some ⟨w.heap.size, 0, none⟩) 1 1) (w.alloc (.cells q.toArray e)) := by
  obtain ⟨i, hi, h1⟩ := Option.map_eq_some_iff.1 E.info
  simp only [Prod.mk.injEq] at h1
  have hp := E.pos
  have hs := E.small
  refine run_buildSlice (P := P) w s e 1 _ q.toArray i z E.sl hi h1.1 (by omega) (by omega) ?_
  have h := Great.fill_whole (s := k) (by omega) [.agg q.toArray] ((Array.range (1 * i.size)).map fun x => z.cells[x % z.cells.size]!) (fun v hv => by
    obtain rfl : v = _ := by simpa using hv
    show q.toArray.size = k
    simpa using hq) (by simp [h1.2.1])
  rw [h1.2.1] at h ⊢
  have ef : ([Value.agg q.toArray].flatMap fun v => v.cells.toList) = q := by simp [Value.cells]
  rw [ef] at h
  exact h
theorem wpList_build_el {ops : Array Oper} {rest : List Oper} {o : Oper} {a : Act} {w : World} {Q : Exit → Act → World → Prop} (hgd : o.guard = none) (E : El P s e k bytes z) (x : Operand) (ho : o.op = .buildSlice s 1 #[(0, x)])
    (q : List Value) (hx : a.eval x = .agg q.toArray) (hq : q.length = k)
    (h : wpList P ops Q rest (a.put o.dst (.slice (some ⟨w.heap.size, 0, none⟩) 1 1)) (w.alloc (.cells q.toArray e))) : wpList P ops Q (o :: rest) a w := by
  exact wpList_plain hgd fun _ hK => by
    unfold Oper.wp execOp
    simp only [ho, Sem.run_bind, List.map_toArray, List.map_cons, List.map_nil, hx, E.run_build w q hq, Result.andThen_ok]
    exact hK _ _ h
/-- append of the one element that was just built -/
theorem wpList_append_el {ops : Array Oper} {rest : List Oper} {o : Oper} {a : Act} {w : World} {Q : Exit → Act → World → Prop} (hgd : o.guard = none) (E : El P s e k bytes z) (sl x : Operand)
    (ho : o.op = .call { callee := .builtin .append, args := #[sl, x], argTypes := #[s, s] })
    (B : Nat) (v : Value) (xs : List (List Value)) (hs : a.eval sl = v) (hown : Os w B e k v xs) (g : Nat) (q : List Value) (hx : a.eval x = .slice (some ⟨g, 0, none⟩) 1 1) (hg : Blk w g e q) (hq : q.length = k) (h1 : ∀ u ∈ q, u.oneCell' = true)
    (hn : xs.length ≤ 1000000) (hB : B ≤ w.heap.size)
    (h : ∀ v' w', Os w' B e k v' (xs ++ [q]) → w.grownBy w' v.ownBlock → wpList P ops Q rest (a.put o.dst v') w') : wpList P ops Q (o :: rest) a w := by
  obtain ⟨i, hi, h2⟩ := Option.map_eq_some_iff.1 E.info
  simp only [Prod.mk.injEq] at h2
  have hp := E.pos
  have hbs := E.bsm
  have hcell : ∀ j u, q[j]? = some u → w.cell? ((⟨g, 0, none⟩ : Addr).add j) = some u := fun j u hu => by
    have ea : (⟨g, 0, none⟩ : Addr).add j = ⟨g, j, none⟩ := by unfold Addr.add; split <;> simp_all
    rw [ea]
    exact hg.cellAt hu
  have hmul : (xs.length + 1) * bytes ≤ 1000001 * 100000 := Nat.mul_le_mul (by omega) hbs
  refine wpList_append_lies w hgd sl x s ho B e i z k bytes E.sl hi h2.1 h2.2.1 h2.2.2 E.zero hp v xs.length xs.flatten hs hown.1 ⟨g, 0, none⟩ 1 1 q hx (by rw [hq]; omega) hcell h1 (by omega) (by unfold maxLen; omega) (by omega) hB _ rfl fun g' cap w' h3 h4 _ _ => h _ w' ⟨?_, ?_⟩ h4
  · have e1 : (xs ++ [q]).flatten = xs.flatten ++ q := by simp
    rw [e1, List.length_append]
    exact h3
  · intro y hy
    rcases List.mem_append.1 hy with hy | hy
    · exact hown.2 y hy
    · rw [List.mem_singleton.1 hy]; exact hq
end
end

section
open Go.RowKit
section
variable {k : Nat}
theorem flatten_cells {w : World} {g : Nat} : ∀ (ys : List (List Value)) (o : Nat), (∀ y ∈ ys, y.length = k) → (∀ (i : Nat) (cs : List Value), ys[i]? = some cs → w.rangeAt g (o + i * k) cs) → ∀ (j : Nat) (u : Value), ys.flatten[j]? = some u → w.cell? ⟨g, o + j, none⟩ = some u
  | [], _, _, _, _, _, h => by simp at h
  | y :: ys, o, hk, hc, j, u, h => by
    have hy := hk y (List.mem_cons_self ..)
    rw [List.flatten_cons] at h
    rcases Nat.lt_or_ge j k with hj | hj
    · rw [List.getElem?_append_left (by omega)] at h
      have := hc 0 y rfl j u h
      simpa using this
    · rw [List.getElem?_append_right (by omega), hy] at h
      have := flatten_cells ys (o + k) (fun z hz => hk z (List.mem_cons_of_mem _ hz)) (fun i cs hi => by
        have h9 := hc (i + 1) cs (by simpa using hi)
        rw [show o + (i + 1) * k = o + k + i * k by rw [Nat.add_mul]; omega] at h9
        exact h9) (j - k) u h
      rw [show o + k + (j - k) = o + j by omega] at this
      exact this
end

section
variable {P : Program} {s e : TypeId} {k bytes : Nat} {z : Value}
/-- append(v, x...) -/
theorem El.run_append_sl (E : El P s e k bytes z) (w : World) (ty : TypeId) (B : Nat) (v : Value) (xs : List (List Value)) (hown : Os w B e k v xs) (A : Option Addr) (m c : Nat) (ys : List (List Value)) (hy : Sl w k A m ys) (hyk : ∀ y ∈ ys, y.length = k) (h1 : ∀ y ∈ ys, ∀ u ∈ y, u.oneCell' = true)
    (hn : xs.length + m ≤ 1000000) (hB : B ≤ w.heap.size) :
    ∃ v' w', (Builtin.append_ #[s, s] ty #[v, .slice A m c]).run P w = .ok v' w' ∧ Os w' B e k v' (xs ++ ys) ∧ w.grownBy w' v.ownBlock := by
  obtain ⟨i, hi, h2⟩ := Option.map_eq_some_iff.1 E.info
  simp only [Prod.mk.injEq] at h2
  have hp := E.pos
  have hbs := E.bsm
  have hall : ∀ y ∈ xs ++ ys, y.length = k := fun y hy2 => (List.mem_append.1 hy2).elim (hown.2 y) (hyk y)
  rcases A with _ | ad
  · obtain rfl : m = 0 := by
      rcases Nat.eq_zero_or_pos m with h0 | h0
      · exact h0
      · obtain ⟨_, _, h, _⟩ := hy.2 h0
        cases h
    obtain rfl : ys = [] := List.eq_nil_of_length_eq_zero hy.1
    refine ⟨v, w, ?_, by simpa using hown, World.grownBy.refl w _⟩
    rcases hown.1.2 with ⟨rfl, _⟩ | ⟨g, cap, cur, rfl, _, _, hnc, _⟩
    · simp [Builtin.append_, run_underlying E.sl, sizeOf, typeInfo, hi, Builtin.lenOf, Builtin.firstCells]
    · simp [Builtin.append_, run_underlying E.sl, sizeOf, typeInfo, hi, Builtin.lenOf, Builtin.firstCells, hnc, storeCells]
  · have hmul : (xs.length + m) * bytes ≤ 1000000 * 100000 := Nat.mul_le_mul hn hbs
    have hfl := flatten_len ys hyk
    obtain ⟨v', w', hr, h3, h4, _⟩ := run_append_own (P := P) w B s ty e i z k bytes E.sl hi h2.1 h2.2.1 h2.2.2 E.zero hp v xs.length xs.flatten hown.1 ad m c ys.flatten (by rw [hfl, hy.1]) (fun j u hu => by
      have hj : 0 < m := by
        rcases Nat.eq_zero_or_pos m with h0 | h0
        · subst h0
          obtain rfl : ys = [] := List.eq_nil_of_length_eq_zero hy.1
          simp at hu
        · exact h0
      obtain ⟨g, o, ea, hc⟩ := hy.2 hj
      injection ea with ea
      subst ea
      have e2 : (⟨g, o, none⟩ : Addr).add j = ⟨g, o + j, none⟩ := by unfold Addr.add; split <;> simp_all
      rw [e2]
      exact flatten_cells ys o hyk hc j u hu) (fun u hu => by
      obtain ⟨y, hy2, hu2⟩ := List.mem_flatten.1 hu
      exact h1 y hy2 u hu2) (by unfold maxLen; omega) (by omega) hB
    refine ⟨v', w', hr, ⟨?_, hall⟩, h4⟩
    rw [List.length_append, List.flatten_append, hy.1]
    exact h3
theorem wpList_append_sl {ops : Array Oper} {rest : List Oper} {o : Oper} {a : Act} {w : World} {Q : Exit → Act → World → Prop} (hgd : o.guard = none) (E : El P s e k bytes z) (sl x : Operand)
    (ho : o.op = .call { callee := .builtin .append, args := #[sl, x], argTypes := #[s, s] })
    (B : Nat) (v : Value) (xs : List (List Value)) (hs : a.eval sl = v) (hown : Os w B e k v xs) (A : Option Addr) (m c : Nat) (ys : List (List Value)) (hx : a.eval x = .slice A m c) (hy : Sl w k A m ys) (hyk : ∀ y ∈ ys, y.length = k) (h1 : ∀ y ∈ ys, ∀ u ∈ y, u.oneCell' = true)
    (hn : xs.length + m ≤ 1000000) (hB : B ≤ w.heap.size)
    (h : ∀ v' w', Os w' B e k v' (xs ++ ys) → w.grownBy w' v.ownBlock → wpList P ops Q rest (a.put o.dst v') w') : wpList P ops Q (o :: rest) a w := by
  refine wpList_plain hgd fun K hK => ?_
  obtain ⟨v', w', hrun, h2, h3⟩ := E.run_append_sl w o.type B v xs hown A m c ys hy hyk h1 hn hB
  unfold Oper.wp execOp
  simp only [ho, resolve, invoke, builtin, Sem.run_bind, Sem.run_pure, Result.andThen_ok, List.map_toArray, List.map_cons, List.map_nil, hs, hx, hrun]
  exact hK _ _ (h v' w' h2 h3)
theorem step_append_sl {ops : Array Oper} {o : Oper} {a : Act} {w : World} {K : Act → World → Prop} {Q : Exit → Act → World → Prop} {F : Prop} (hgd : o.guard = none) (E : El P s e k bytes z) (sl x : Operand)
    (ho : o.op = .call { callee := .builtin .append, args := #[sl, x], argTypes := #[s, s] })
    (B : Nat) (v : Value) (xs : List (List Value)) (hs : a.eval sl = v) (hown : Os w B e k v xs) (A : Option Addr) (m c : Nat) (ys : List (List Value)) (hx : a.eval x = .slice A m c) (hy : Sl w k A m ys) (hyk : ∀ y ∈ ys, y.length = k) (h1 : ∀ y ∈ ys, ∀ u ∈ y, u.oneCell' = true)
    (hn : xs.length + m ≤ 1000000) (hB : B ≤ w.heap.size)
    (h : ∀ A' n' c' w', n' = (xs ++ ys).length → Os w' B e k (.slice A' n' c') (xs ++ ys) → w.grownBy w' v.ownBlock → K (a.put o.dst (.slice A' n' c')) w') : if Region.wanted o (yielded ops a.tmps) = true then Oper.wp P o a w K Q else F := by
  have hw : Region.wanted o (yielded ops a.tmps) = true := by simp [Region.wanted, hgd]
  rw [if_pos hw]
  obtain ⟨v', w', hrun, h2, h3⟩ := E.run_append_sl w o.type B v xs hown A m c ys hy hyk h1 hn hB
  obtain ⟨A', c', rfl, _⟩ := h2.out
  unfold Oper.wp execOp
  simp only [ho, resolve, invoke, builtin, Sem.run_bind, Sem.run_pure, Result.andThen_ok, List.map_toArray, List.map_cons, List.map_nil, hs, hx, hrun]
  exact h _ _ _ w' rfl h2 h3
/-- append(nil, make([]T, m)...), m at least 1: a new row. -/
theorem El.run_append_zeros (E : El P s e k bytes z) (w : World) (ti ty : TypeId) (hti : P.underlying ti = some (.int .i64)) (m : Nat) (hpos : 0 < m) (hm : m ≤ 1000000) :
    ∃ cap w', (Builtin.append_ #[s, ti] ty #[.slice none 0 0, .int .i64 (m : Int)]).run P w = .ok (.slice (some ⟨w.heap.size, 0, none⟩) m cap) w' ∧ Os w' w.heap.size e k (.slice (some ⟨w.heap.size, 0, none⟩) 0 cap) [] ∧ m ≤ cap ∧ Below w.heap.size w w' := by
  obtain ⟨i, hi, h2⟩ := Option.map_eq_some_iff.1 E.info
  simp only [Prod.mk.injEq] at h2
  obtain ⟨hz, hsize, hby⟩ := h2
  have hp := E.pos
  have hbs := E.bsm
  have hw : IntKind.i64.wrap (m : Int) = m := IntWalk.i64_in _ (by omega)
  have h0 : ¬ ((m : Int) < 0) := by omega
  have hm0 : m ≠ 0 := by omega
  have hks := E.small
  have hmul : m * bytes ≤ 1000000 * 100000 := Nat.mul_le_mul hm hbs
  have h48 : ¬ (281474976710656 < (m : Int) * (bytes : Int)) := by
    rw [← Int.natCast_mul]
    omega
  have hmk : ¬ (m * k = 0) := fun h9 => by rcases Nat.mul_eq_zero.1 h9 with h9 | h9 <;> omega
  have hge := grownCap_ge w m 0 e
  have hcm : grownCap w m 0 e ≤ maxLen := grownCap_le_maxLen w m 0 e (by simp only [maxLen]; omega)
  have hfit := growslice_fits (need := m) (old := 0) (bytes := bytes) (by omega) (by omega)
  have hfit' : ¬ (281474976710656 < Builtin.nextslicecap m 0 * bytes) := by omega
  have h63 : ¬ (9223372036854775807 < (m : Int)) := by omega
  have hold : ∀ W, (Builtin.firstCells k 0 (.slice none 0 0)).run P W = .ok #[] W := fun W => run_firstCells_none W k 0 0 0
  obtain ⟨row, hrow⟩ : ∃ row, row = Builtin.zeroCells z.cells m ++ Builtin.zeroCells z.cells (grownCap w m 0 e - m) := ⟨_, rfl⟩
  have hrs : row.size = grownCap w m 0 e * k := by
    rw [hrow]
    simp only [Array.size_append, size_zeroCells, E.zero]
    rw [← Nat.add_mul]
    congr 1
    omega
  refine ⟨grownCap w m 0 e, w.drew.alloc (.cells row e), ?_, ⟨⟨by simp, .inr ⟨w.heap.size, _, row, rfl, Nat.le_refl _, heap_alloc_new w.drew _, Nat.zero_le _, hcm, hrs, by simp⟩⟩, fun x hx => by cases hx⟩, hge, ⟨rfl, rfl, rfl, by simp, fun q hq => Below.heap_alloc w.drew _ q hq⟩⟩
  simp [Builtin.append_, run_underlying E.sl, run_underlying hti, sizeOf, typeInfo, zeroValue, hi, hz, hsize, hby, asInt, asIntOf, hw, h0, h48, hmk, hm0, hold, hfit', h63, Question.forced, newRow, hrow, grownCap]
theorem wpList_append_zeros {ops : Array Oper} {rest : List Oper} {o : Oper} {a : Act} {w : World} {Q : Exit → Act → World → Prop} (hgd : o.guard = none) (E : El P s e k bytes z) (ti : TypeId) (hti : P.underlying ti = some (.int .i64)) (sl x : Operand)
    (ho : o.op = .call { callee := .builtin .append, args := #[sl, x], argTypes := #[s, ti] })
    (hs : a.eval sl = .slice none 0 0) (m : Nat) (hx : a.eval x = .int .i64 (m : Int)) (hpos : 0 < m) (hm : m ≤ 1000000)
    (h : ∀ cap w', Os w' w.heap.size e k (.slice (some ⟨w.heap.size, 0, none⟩) 0 cap) [] → m ≤ cap → Below w.heap.size w w' → wpList P ops Q rest (a.put o.dst (.slice (some ⟨w.heap.size, 0, none⟩) m cap)) w') : wpList P ops Q (o :: rest) a w := by
  refine wpList_plain hgd fun K hK => ?_
  obtain ⟨cap, w', hrun, h2, h3, h4⟩ := E.run_append_zeros w ti o.type hti m hpos hm
  unfold Oper.wp execOp
  simp only [ho, resolve, invoke, builtin, Sem.run_bind, Sem.run_pure, Result.andThen_ok, List.map_toArray, List.map_cons, List.map_nil, hs, hx, hrun]
  exact hK _ _ (h cap w' h2 h3 h4)
end

theorem yields_build {P : Program} {ops : Array Oper} {S : World → Prop} {op : Oper} {a : Act} (hw : Region.wanted op (yielded ops a.tmps) = true) (t : TypeId) (parts : Array (Nat × Operand)) (ho : op.op = .build t parts)
    (vs : Array (Nat × Value)) (hx : parts.map (fun (i, x) => (i, a.eval x)) = vs) (v : Value) (hS : ∀ w, S w → (Instr.build t vs).run P w = .ok v w) : YieldsIf P ops S op v a :=
  .inl ⟨hw, fun w hw' => by
    unfold execOp
    simp only [ho, hx, Sem.run_bind, hS w hw', Result.andThen_ok]
    rfl⟩
theorem step_build_el {P : Program} {s e : TypeId} {k bytes : Nat} {z : Value} {ops : Array Oper} {o : Oper} {a : Act} {w : World} {K : Act → World → Prop} {Q : Exit → Act → World → Prop} {F : Prop} (hgd : o.guard = none) (E : El P s e k bytes z) (x : Operand) (ho : o.op = .buildSlice s 1 #[(0, x)])
    (q : List Value) (hx : a.eval x = .agg q.toArray) (hq : q.length = k)
    (h : K (a.put o.dst (.slice (some ⟨w.heap.size, 0, none⟩) 1 1)) (w.alloc (.cells q.toArray e))) : if Region.wanted o (yielded ops a.tmps) = true then Oper.wp P o a w K Q else F := by
  have hw : Region.wanted o (yielded ops a.tmps) = true := by simp [Region.wanted, hgd]
  rw [if_pos hw]
  unfold Oper.wp execOp
  simp only [ho, Sem.run_bind, List.map_toArray, List.map_cons, List.map_nil, hx, E.run_build w q hq, Result.andThen_ok]
  exact h
theorem step_build_el_w {P : Program} {s e : TypeId} {k bytes : Nat} {z : Value} {ops : Array Oper} {o : Oper} {a : Act} {w : World} {K : Act → World → Prop} {Q : Exit → Act → World → Prop} {F : Prop} (hgd : o.guard = none) (E : El P s e k bytes z) (x : Operand) (ho : o.op = .buildSlice s 1 #[(0, x)])
    (q : List Value) (hx : a.eval x = .agg q.toArray) (hq : q.length = k)
    (h : ∀ g w', Blk w' g e q → Below w.heap.size w w' → K (a.put o.dst (.slice (some ⟨g, 0, none⟩) 1 1)) w') : if Region.wanted o (yielded ops a.tmps) = true then Oper.wp P o a w K Q else F :=
  step_build_el hgd E x ho q hx hq (h _ _ (Blk.fresh rfl rfl) ((Below.refl _ w).alloc (Nat.le_refl _) _))
theorem step_append_el {P : Program} {s e : TypeId} {k bytes : Nat} {z : Value} {ops : Array Oper} {o : Oper} {a : Act} {w : World} {K : Act → World → Prop} {Q : Exit → Act → World → Prop} {F : Prop} (hgd : o.guard = none) (E : El P s e k bytes z) (sl x : Operand)
    (ho : o.op = .call { callee := .builtin .append, args := #[sl, x], argTypes := #[s, s] })
    (B : Nat) (v : Value) (xs : List (List Value)) (hs : a.eval sl = v) (hown : Os w B e k v xs) (g : Nat) (q : List Value) (hx : a.eval x = .slice (some ⟨g, 0, none⟩) 1 1) (hg : Blk w g e q) (hq : q.length = k) (h1 : ∀ u ∈ q, u.oneCell' = true)
    (hn : xs.length ≤ 1000000) (hB : B ≤ w.heap.size)
    (h : ∀ A' n' c' w', n' = xs.length + 1 → Os w' B e k (.slice A' n' c') (xs ++ [q]) → w.grownBy w' v.ownBlock → K (a.put o.dst (.slice A' n' c')) w') : if Region.wanted o (yielded ops a.tmps) = true then Oper.wp P o a w K Q else F := by
  obtain ⟨i, hi, h2⟩ := Option.map_eq_some_iff.1 E.info
  simp only [Prod.mk.injEq] at h2
  have hp := E.pos
  have hbs := E.bsm
  have hcell : ∀ j u, q[j]? = some u → w.cell? ((⟨g, 0, none⟩ : Addr).add j) = some u := fun j u hu => by
    have ea : (⟨g, 0, none⟩ : Addr).add j = ⟨g, j, none⟩ := by unfold Addr.add; split <;> simp_all
    rw [ea]
    exact hg.cellAt hu
  have hmul : (xs.length + 1) * bytes ≤ 1000001 * 100000 := Nat.mul_le_mul (by omega) hbs
  refine step_append_lies w hgd sl x s ho B e i z k bytes E.sl hi h2.1 h2.2.1 h2.2.2 E.zero hp v xs.length xs.flatten hs hown.1 ⟨g, 0, none⟩ 1 1 q hx (by rw [hq]; omega) hcell h1 (by omega) (by unfold maxLen; omega) (by omega) hB _ rfl fun g' cap w' h3 h4 _ _ => h _ _ _ w' rfl ⟨?_, ?_⟩ h4
  · have e1 : (xs ++ [q]).flatten = xs.flatten ++ q := by simp
    rw [e1, List.length_append]
    exact h3
  · intro y hy
    rcases List.mem_append.1 hy with hy | hy
    · exact hown.2 y hy
    · rw [List.mem_singleton.1 hy]; exact hq
theorem step_store_cell {P : Program} {w : World} {ops : Array Oper} {o : Oper} {a : Act} {K : Act → World → Prop} {Q : Exit → Act → World → Prop} {E : Prop} (hw : Region.wanted o (yielded ops a.tmps) = true) (ty : TypeId) (x y : Operand) (ho : o.op = .store ty x y)
    (g i : Nat) (hx : a.eval x = .pointer (some ⟨g, i, none⟩)) (v : Value) (hy : a.eval y = v) (hv : v.cells = #[v]) (hv1 : v.oneCell' = true) (hsz : ∀ w, (sizeOf ty).run P w = .ok 1 w) (t : TypeId) (cs : List Value) (hb : Blk w g t cs) (hi : i < cs.length)
    (h : ∀ w', Blk w' g t (cs.set i v) → w.grownBy w' (some g) → K (a.put o.dst undef) w') : if Region.wanted o (yielded ops a.tmps) = true then Oper.wp P o a w K Q else E := by
  rw [if_pos hw]
  have hc := hb.cellAt (List.getElem?_eq_getElem hi)
  have hf := hb.frozen i
  have hrun : (Instr.storeAt ty (.pointer (some ⟨g, i, none⟩)) v).run P w = .ok () (w.setCell ⟨g, i, none⟩ v) := by
    simp only [Instr.storeAt, Instr.sureAddr, storeVar, Sem.run_bind, Sem.run_pure, Result.andThen_ok]
    have ha : (⟨g, i, none⟩ : Addr).add 0 = ⟨g, i, none⟩ := by simp [Addr.add]
    have hst := run_store P w ⟨g, i, none⟩ v .plain hv1
    simp only [hc, hf, Bool.false_eq_true, if_false] at hst
    simp [hv, storeCells, ha, hsz, hst]
  unfold Oper.wp execOp
  simp only [ho, hx, hy, Sem.run_bind, hrun, Result.andThen_ok]
  exact h _ (hb.set_ i v) (only_set w g i v)
end

section
open Go.RowKit
theorem one_u8 {xs : List UInt8} : (vs xs).toArray.all (·.oneCell') = true :=
  Array.all_eq_true_iff_forall_mem.2 fun v hv => vs_one v (by simpa using hv)

/-- Cells that are written from the head on: so many new ones, then the old ones. -/
def swp (new old : List Value) (k : Nat) : List Value := new.take k ++ old.drop k

theorem swp_0 (new old : List Value) : swp new old 0 = old := by simp [swp]

theorem swp_all (new old : List Value) (k : Nat) (h1 : new.length = k) (h2 : old.length = k) : swp new old k = new := by
  unfold swp
  rw [List.take_of_length_le (by omega), List.drop_eq_nil_of_le (by omega), List.append_nil]

theorem swp_at (new old : List Value) (k : Nat) (hn : k < new.length) : (swp new old k)[k]? = old[k]? := by
  unfold swp
  rw [List.getElem?_append_right (by simp; omega), List.length_take, Nat.min_eq_left (by omega), Nat.sub_self, List.getElem?_drop]
  rfl

theorem swp_set (new old : List Value) (k : Nat) (v : Value) (hn : new[k]? = some v) (ho : k < old.length) : (swp new old k).set k v = swp new old (k + 1) := by
  have hk : k < new.length := (List.getElem?_eq_some_iff.1 hn).1
  have hv : new[k] = v := (List.getElem?_eq_some_iff.1 hn).2
  unfold swp
  rw [List.set_append_right _ _ (by rw [List.length_take]; exact Nat.min_le_left _ _), List.length_take, Nat.min_eq_left (by omega), Nat.sub_self, List.take_succ_eq_append_getElem hk, List.append_assoc]
  congr 1
  rw [List.drop_eq_getElem_cons ho, hv]
  rfl

theorem wpList_build_to {P : Program} {ops : Array Oper} {rest : List Oper} {o : Oper} {a : Act} {w : World} {Q : Exit → Act → World → Prop} (hg : o.guard = none) (t : TypeId) (parts : List (Nat × Operand)) (ho : o.op = .build t parts.toArray)
    (vals : List (Nat × Value)) (hv : (parts.map fun p => (p.1, a.eval p.2)) = vals) (v : Value) (hrun : (Instr.build t vals.toArray).run P w = .ok v w)
    (h : wpList P ops Q rest (a.put o.dst v) w) : wpList P ops Q (o :: rest) a w :=
  wpList_plain hg fun _ hK => by
    unfold Oper.wp execOp
    subst hv
    simp only [ho, Sem.run_bind, List.map_toArray, hrun, Result.andThen_ok]
    exact hK _ _ h

/-- 'arr[:h]' of an array behind a pointer. -/
theorem run_sliceArr_h {P : Program} (w : World) (t e : TypeId) (n : Nat) (a : Addr) (k : IntKind) (h : Int) (ht : P.underlying t = some (.array n e)) (hs : ((P.info? e).map (·.size)).isSome = true) (h0 : 0 ≤ h) (h1 : h ≤ n) :
    (Instr.sliceAt t (.pointer (some a)) none (some (.int k h)) none).run P w = .ok (.slice (some a) h.toNat n) w := by
  have eh : (h.toNat : Int) = h := Int.toNat_of_nonneg h0
  have ea : a.add 0 = a := by simp [Addr.add]
  cases hq : P.info? e with
  | none => simp [hq] at hs
  | some info => simp [Instr.sliceAt, Instr.sureAddr, Sem.run_bind, run_underlying ht, Instr.sliceBounds, run_sliceBound, sizeOf, typeInfo, hq, h0, h1, ea]

/-- 'arr[l:]' of an array behind a pointer, of one-cell elements. -/
theorem run_sliceArr_l {P : Program} (w : World) (t e : TypeId) (n g o : Nat) (k : IntKind) (l : Int) (ht : P.underlying t = some (.array n e)) (hs : (P.info? e).map (·.size) = some 1) (h0 : 0 ≤ l) (h1 : l < n) :
    (Instr.sliceAt t (.pointer (some ⟨g, o, none⟩)) (some (.int k l)) none none).run P w = .ok (.slice (some ⟨g, o + l.toNat, none⟩) (n - l.toNat) (n - l.toNat)) w := by
  have hne : ¬ n = l.toNat := by omega
  have h1' : l ≤ n := by omega
  have ea : (⟨g, o, none⟩ : Addr).add l.toNat = ⟨g, o + l.toNat, none⟩ := by unfold Addr.add; split <;> simp_all
  cases hq : P.info? e with
  | none => simp [hq] at hs
  | some info =>
    have hi : info.size = 1 := by simpa [hq] using hs
    simp [Instr.sliceAt, Instr.sureAddr, Sem.run_bind, run_underlying ht, Instr.sliceBounds, run_sliceBound, sizeOf, typeInfo, hq, hi, h0, h1', ea, hne]

/-- An index into an array by value, of one-cell elements. -/
theorem run_index_row {P : Program} (w : World) (t e : TypeId) (n : Nat) (cs : List Value) (k : IntKind) (i : Nat) (v : Value) (h : P.underlying t = some (.array n e))
    (he : (isAgg e).run P w = .ok false w) (hs : (P.info? e).map (·.size) = some 1) (hi : i < n) (hv : cs[i]? = some v) : (Instr.index t (.agg cs.toArray) (.int k i)).run P w = .ok v w := by
  cases hq : P.info? e with
  | none => simp [hq] at hs
  | some info =>
    have hs1 : info.size = 1 := by simpa [hq] using hs
    simp [Instr.index, asIntOf, Sem.run_bind, run_underlying h, sizeOf, typeInfo, hq, hs1, part, he, hi, hv]

theorem vs_getD (b : List UInt8) (j : Nat) (h : j < b.length) : (vs b)[j]? = some (.int .u8 ((b.getD j 0).toNat : Int)) := by
  rw [vs_get, List.getElem?_eq_getElem h]
  simp [u8, List.getD, h]

/-- Many cells set in a block: the block, and the others. -/
theorem only_cells (g : Nat) : ∀ (vs : List Value) (o : Nat) (w : World), w.grownBy (w.setCells g o vs) (some g)
  | [], _, w => only_refl w g
  | v :: r, o, w => only_trans (only_set w g o v) (only_cells g r (o + 1) (w.setCell ⟨g, o, none⟩ v))

theorem Blk.cells {t : TypeId} (g : Nat) : ∀ (vs : List Value) (pre old rest : List Value) (w : World), old.length = vs.length → Blk w g t (pre ++ (old ++ rest)) → Blk (w.setCells g pre.length vs) g t (pre ++ (vs ++ rest))
  | [], pre, old, rest, w, hl, h => by
    obtain rfl : old = [] := List.eq_nil_of_length_eq_zero hl
    exact h
  | v :: r, pre, [], rest, w, hl, h => by simp at hl
  | v :: r, pre, x :: old, rest, w, hl, h => by
    rw [World.setCells]
    have h1 := h.set_ pre.length v
    rw [List.set_append_right _ _ (Nat.le_refl _), Nat.sub_self] at h1
    have h2 : Blk (w.setCell ⟨g, pre.length, none⟩ v) g t ((pre ++ [v]) ++ (old ++ rest)) := by
      rw [List.append_assoc]
      exact h1
    have h3 := Blk.cells g r (pre ++ [v]) old rest _ (by simpa using hl) h2
    rw [List.length_append] at h3
    rw [List.append_assoc] at h3
    exact h3

/-- copy into a block that is known whole, in a region that draws its order. -/
theorem step_copy_blk {P : Program} {ops : Array Oper} {o : Oper} {a : Act} {w : World} {K : Act → World → Prop} {Q : Exit → Act → World → Prop} {E : Prop} (hgd : o.guard = none) (d s : Operand) (dT sT : TypeId)
    (ho : o.op = .call { callee := .builtin .copy, args := #[d, s], argTypes := #[dT, sT] }) (elem : TypeId) (hu : P.underlying dT = some (.slice elem)) (hsz : (P.info? elem).map (·.size) = some 1)
    (g off dLen dCap : Nat) (sp : Option Addr) (sLen sCap : Nat) (hd : a.eval d = .slice (some ⟨g, off, none⟩) dLen dCap) (hs : a.eval s = .slice sp sLen sCap)
    (cur : List Value) (t : TypeId) (hg : Blk w g t cur) (cs : List Value) (kk : Nat) (hk : cs.length = kk) (hn : kk = Nat.min sLen dLen) (hpos : 0 < kk)
    (hsrc : ∃ ad, sp = some ad ∧ ∀ j v, cs[j]? = some v → w.cell? (ad.add j) = some v) (hfit : off + kk ≤ cur.length) (h1 : ∀ v ∈ cs, v.oneCell' = true)
    (h : ∀ w', Blk w' g t (splice cur off cs) → w.grownBy w' (some g) → K (a.put o.dst (.int .i64 (kk : Int))) w') :
    if Region.wanted o (yielded ops a.tmps) = true then Oper.wp P o a w K Q else E := by
  have hw : Region.wanted o (yielded ops a.tmps) = true := by simp [Region.wanted, hgd]
  rw [if_pos hw]
  obtain ⟨ad, rfl, hsrc⟩ := hsrc
  subst hk
  have hrun := run_copy_row (P := P) w dT sT o.type elem g off dLen dCap ad sLen sCap cur.toArray t cs hu hsz hg hn hsrc (by simpa using hfit) h1
  unfold Oper.wp
  simp [execOp, ho, resolve, invoke, builtin, hd, hs, hrun, Result.andThen]
  exact h _ (show _ = _ by simpa [splice] using setRow_heap w g _ _ t _ hg) (only_row w g _)

/-- '[]T{}', and append onto a row of the call's own, in a region that draws its order (guarded or not). -/
theorem step_build_empty {P : Program} {ops : Array Oper} {o : Oper} {a : Act} {w : World} {K : Act → World → Prop} {Q : Exit → Act → World → Prop} {E : Prop} (hw : Region.wanted o (yielded ops a.tmps) = true) (t : TypeId) (ho : o.op = .buildSlice t 0 #[])
    (v : Value) (w' : World) (hrun : (Instr.buildSlice t 0 #[]).run P w = .ok v w') (h : K (a.put o.dst v) w') : if Region.wanted o (yielded ops a.tmps) = true then Oper.wp P o a w K Q else E := by
  rw [if_pos hw]
  unfold Oper.wp execOp
  simp only [ho, Sem.run_bind, List.map_toArray, List.map_nil, hrun, Result.andThen_ok]
  exact h

theorem step_append_by {P : Program} {ops : Array Oper} {o : Oper} {a : Act} {w : World} {K : Act → World → Prop} {R : Exit → Act → World → Prop} {E : Prop} (hw : Region.wanted o (yielded ops a.tmps) = true) (s x : Operand) (t : TypeId)
    (ho : o.op = .call { callee := .builtin .append, args := #[s, x], argTypes := #[t, t] })
    (base : Nat) (i : TypeInfo) (ht : P.underlying t = some (.slice 5)) (hi : P.info? 5 = some i) (hz : i.zero = some (.int .u8 0))
    (hsize : i.size = 1) (hby : i.bytes = 1) (v : Value) (n : Nat) (ys : List UInt8) (hs : a.eval s = v) (hown : w.ownsRow base 5 1 v n (vs ys))
    (Q : Nat → Prop) (A : Option Addr) (m c : Nat) (xs : List UInt8) (hx : a.eval x = .slice A m c) (hr : By w Q A m xs) (hbytes : n + m ≤ 140737488355328) (hbase : base ≤ w.heap.size) (N : Nat) (hN : n + m = N) (zs : List UInt8) (hzs : ys ++ xs = zs)
    (h : ∀ A' c' w', w'.ownsRow base 5 1 (.slice A' N c') N (vs zs) → N ≤ c' → c' ≤ maxLen → Below base w w' → K (a.put o.dst (.slice A' N c')) w') :
    if Region.wanted o (yielded ops a.tmps) = true then Oper.wp P o a w K R else E := by
  rw [if_pos hw]
  obtain ⟨v', w', hrun, h2, h3, h4⟩ := run_append_by (P := P) w base t o.type i ht hi hz hsize hby v n (vs ys) hown Q A m c xs hr hbytes hbase
  rw [vs_append] at h2
  subst hN; subst hzs
  obtain ⟨A', c', rfl, hc1, hc2, _⟩ := own_form h2
  unfold Oper.wp execOp
  simp only [ho, resolve, invoke, builtin, Sem.run_bind, Sem.run_pure, Result.andThen_ok, List.map_toArray, List.map_cons, List.map_nil, hs, hx, hrun]
  exact h A' c' w' h2 hc1 hc2 ((Below.refl _ w).grown h3 hbase (fun k hk => (hown.lt k hk).1))

/-- 'b[k:]', whatever the capacity. -/
def cutA (A : Option Addr) (c k : Nat) : Option Addr := if c = k then A else A.map (·.add k)

theorem run_cut {P : Program} (w : World) (t e : TypeId) (A : Option Addr) (n c : Nat) (kd : IntKind) (k : Nat) (ht : P.underlying t = some (.slice e)) (hs : (P.info? e).map (·.size) = some 1) (hk : k ≤ n) :
    (Instr.slice t (.slice A n c) (some (.int kd (k : Int))) none none).run P w = .ok (.slice (cutA A c k) (n - k) (c - k)) w := by
  cases hq : P.info? e with
  | none => simp [hq] at hs
  | some info =>
    have hi : info.size = 1 := by simpa [hq] using hs
    simp [Instr.slice, Sem.run_bind, run_underlying ht, Instr.sliceBounds, run_sliceBound, sizeOf, typeInfo, hq, hi, hk, cutA]

def zero32 : List UInt8 := List.replicate 32 0

theorem By.fresh {w : World} {A : Array Value} {e : TypeId} {fr : Nat × Nat} (xs : List UInt8) (h : A = (vs xs).toArray) : By (w.alloc (.cells A e fr)) (fun _ => True) (some ⟨w.heap.size, 0, none⟩) xs.length xs :=
  ⟨rfl, fun _ => ⟨_, 0, rfl, trivial, fun j u hu => by
    subst h
    rw [Nat.zero_add, cell_of_row _ w.heap.size _ _ _ _ (heap_alloc_new w _), List.getElem?_toArray, vs_get, hu]
    rfl⟩⟩

theorem run_eqItems_bytes {P : Program} (d : Nat) (e : TypeId) (w : World) (he : P.underlying e = some (.int .u8)) (xs ys : List UInt8) :
    ∀ (m k : Nat), k + m = xs.length → xs.length = ys.length → (Op.eqItems (d + 1) e 1 (vs xs).toArray (vs ys).toArray (List.range' k m)).run P w = .ok (xs.drop k == ys.drop k) w
  | 0, k, h, hl => by
    rw [List.drop_eq_nil_of_le (by omega), List.drop_eq_nil_of_le (by omega)]
    rfl
  | m + 1, k, h, hl => by
    have hk : k < xs.length := by omega
    have hk2 : k < ys.length := by omega
    have hag : (isAgg e).run P w = .ok false w := by simp [isAgg, Sem.run_bind, run_underlying he]
    have hp : ∀ zs : List UInt8, (hz : k < zs.length) → (part e (vs zs).toArray (k * 1)).run P w = .ok (u8 zs[k]) w := fun zs hz => by
      have hv : (vs zs)[k]? = some (u8 zs[k]) := by rw [vs_get, List.getElem?_eq_getElem hz]; rfl
      simp [part, Sem.run_bind, hag, hv]
    have ih := run_eqItems_bytes d e w he xs ys m (k + 1) (by omega) hl
    rw [List.range'_succ]
    simp only [Op.eqItems, Sem.run_bind, hp xs hk, hp ys hk2, Result.andThen_ok]
    unfold u8
    rw [run_equalIn_int w d e .u8 .u8 _ _ he, List.drop_eq_getElem_cons hk, List.drop_eq_getElem_cons hk2]
    simp only [Result.andThen_ok, List.cons_beq_cons]
    by_cases hx : xs[k] = ys[k]
    · simp [hx, ih]
    · have hne : ((xs[k].toNat : Int) == (ys[k].toNat : Int)) = false := by
        simp only [beq_eq_false_iff_ne, ne_eq]
        intro h
        exact hx (UInt8.toNat_inj.1 (by omega))
      simp [hne, hx]

/-- WHETHER TWO ARRAYS OF BYTES ARE THE SAME. -/
theorem run_eql_bytes {P : Program} (w : World) (t e : TypeId) (n : Nat) (ht : P.underlying t = some (.array n e)) (he : P.underlying e = some (.int .u8)) (hs : (P.info? e).isSome = true) (hc : P.cellsOf e = 1) (xs ys : List UInt8) (hx : xs.length = n) (hy : ys.length = n) :
    (binOp .eql t (.agg (vs xs).toArray) (.agg (vs ys).toArray)).run P w = .ok (.bool (xs == ys)) w := by
  obtain ⟨i, hi⟩ := Option.isSome_iff_exists.1 hs
  rw [run_eql_struct, show (10000 : Nat) = 9998 + 1 + 1 from rfl, run_equalIn_array w (9998 + 1) _ _ ht hi, hc, List.range_eq_range', run_eqItems_bytes 9998 e w he xs ys n 0 (by omega) (by omega)]
  rfl

/-- A block that holds bytes reads as them. -/
theorem By.of_blk {w : World} {g : Nat} {t : TypeId} {xs : List UInt8} (h : Blk w g t (vs xs)) {Q : Nat → Prop} (hQ : Q g) : By w Q (some ⟨g, 0, none⟩) xs.length xs :=
  ⟨rfl, fun _ => ⟨g, 0, rfl, hQ, fun j u hu => by
    rw [Nat.zero_add, h.cell, vs_get, hu]
    rfl⟩⟩

theorem By.of_blk_n {w : World} {g n : Nat} {t : TypeId} {xs : List UInt8} (h : Blk w g t (vs xs)) (hn : xs.length = n) {Q : Nat → Prop} (hQ : Q g) : By w Q (some ⟨g, 0, none⟩) n xs := by
  subst hn
  exact By.of_blk h hQ

/-- what copy takes from it -/
theorem By.srcAll {w : World} {Q : Nat → Prop} {A : Option Addr} {n : Nat} {xs : List UInt8} (h : By w Q A n xs) (hpos : 0 < (vs xs).length) : ∃ ad, A = some ad ∧ ∀ j v, (vs xs)[j]? = some v → w.cell? (ad.add j) = some v := by
  rw [vs_length, h.1] at hpos
  obtain ⟨g, o, e, _, hc⟩ := h.2 hpos
  refine ⟨_, e, fun j v hv => ?_⟩
  rw [vs_get] at hv
  obtain ⟨x, hx, rfl⟩ := Option.map_eq_some_iff.1 hv
  have ea : (⟨g, o, none⟩ : Addr).add j = ⟨g, o + j, none⟩ := by unfold Addr.add; split <;> simp_all
  rw [ea]
  exact hc j x hx

/-- one byte, in a block of its own -/
theorem By.one8 {w : World} {Q : Nat → Prop} {b : UInt8} (t : TypeId) (hQ : Q w.heap.size) : By (w.alloc (.cells #[.int .u8 (b.toNat : Int)] t)) Q (some ⟨w.heap.size, 0, none⟩) 1 [b] := by
  refine ⟨rfl, fun _ => ⟨_, _, rfl, hQ, fun j u hu => ?_⟩⟩
  match j, hu with
  | 0, hu =>
    simp at hu
    subst hu
    rw [cell_of_row _ w.heap.size _ _ _ _ (heap_alloc_new w _)]
    rfl

theorem By.rowBy {w : World} {g n : Nat} {A : Option Addr} {xs : List UInt8} {b : Nat} {cs : Array Value} (h : By w (fun k => k < g) A n xs) (hb : ∀ k, k < g → k ≠ b) : By (w.setRow b cs) (fun k => k < g) A n xs :=
  h.keep fun k hk => setRow_other w b k cs (hb k hk)

/-- A lookup, taken first in a region that draws. -/
theorem yields_lookup {P : Program} {ops : Array Oper} {S : World → Prop} {op : Oper} {a : Act} (hw : Region.wanted op (yielded ops a.tmps) = true) (t : TypeId) (m x : Operand) (ho : op.op = .lookup t m x true)
    (vm vx : Value) (hm : a.eval m = vm) (hx : a.eval x = vx) (v : Value) (hS : ∀ w, S w → (Instr.lookup t vm vx true).run P w = .ok v w) : YieldsIf P ops S op v a :=
  .inl ⟨hw, fun w hw' => by
    unfold execOp
    simp only [ho, hm, hx, Sem.run_bind, hS w hw', Result.andThen_ok]
    rfl⟩

/-- Block g refers to the map in block k. -/
def Own (w : World) (g k : Nat) : Prop := ∃ (cs : Array Value) (t : TypeId) (fr : Nat × Nat) (i : Nat), w.heap[g]? = some (.cells cs t fr) ∧ cs[i]? = some (Value.map (some k))

theorem Own.congr {w w' : World} {g k : Nat} (e : w'.heap[g]? = w.heap[g]?) (h : Own w' g k) : Own w g k := by
  obtain ⟨cs, t, fr, i, h1, h2⟩ := h
  exact ⟨cs, t, fr, i, e ▸ h1, h2⟩

/-- WHAT A CALL OF THE OBJECT OF BLOCK g MAY TURN: the object itself, its own maps, and new blocks. -/
structure KF (g : Nat) (w w' : World) : Prop where
  low : Below g w w'
  cells : ∀ k, k ≠ g → (∃ cs t fr, w.heap[k]? = some (.cells cs t fr)) → w'.heap[k]? = w.heap[k]?
  rest : ∀ k, k < w.heap.size → k ≠ g → ¬ Own w g k → w'.heap[k]? = w.heap[k]?
  own : ∀ k, Own w' g k → Own w g k ∨ w.heap.size ≤ k

theorem KF.refl (g : Nat) (w : World) : KF g w w := ⟨Below.refl _ _, fun _ _ _ => rfl, fun _ _ _ _ => rfl, fun _ h => .inl h⟩

theorem KF.size {g : Nat} {w w' : World} (h : KF g w w') : w.heap.size ≤ w'.heap.size := h.low.size

theorem KF.trans {g : Nat} {a b c : World} (h : KF g a b) (k : KF g b c) : KF g a c :=
  ⟨h.low.trans k.low, fun i hi hc => by
    have e := h.cells i hi hc
    obtain ⟨cs, t, fr, hh⟩ := hc
    exact (k.cells i hi ⟨cs, t, fr, e.trans hh⟩).trans e,
   fun i hi hg ho => (k.rest i (Nat.lt_of_lt_of_le hi h.size) hg fun hb => by
      rcases h.own i hb with h1 | h1
      · exact ho h1
      · omega).trans (h.rest i hi hg ho),
   fun i ho => by
    rcases k.own i ho with h1 | h1
    · exact h.own i h1
    · exact .inr (Nat.le_trans h.size h1)⟩

theorem KF.of_below {g : Nat} {w w' : World} (hg : g < w.heap.size) (h : Below w.heap.size w w') : KF g w w' :=
  ⟨h.mono (Nat.le_of_lt hg), fun k _ ⟨_, _, _, hc⟩ => h.block k (Array.getElem?_eq_some_iff.1 hc).1, fun k hk _ _ => h.block k hk, fun _ ho => .inl (ho.congr (h.block g hg))⟩

theorem KF.blk {g k : Nat} {w w' : World} {t : TypeId} {cs : List Value} (h : KF g w w') (hb : Blk w k t cs) (hk : k ≠ g) : Blk w' k t cs := (h.cells k hk ⟨_, _, _, hb⟩).trans hb

theorem KF.drew {g : Nat} {w w' : World} (h : KF g w w') : KF g w w'.drew := ⟨h.low.drew, h.cells, h.rest, fun k hk => h.own k hk⟩

theorem KF.below {g : Nat} {w w' w'' : World} (h : KF g w w') (hg : g < w.heap.size) (hb : Below w'.heap.size w' w'') : KF g w w'' := h.trans (KF.of_below (Nat.lt_of_lt_of_le hg h.size) hb)

theorem KF.alloc {g : Nat} {w w' : World} (h : KF g w w') (hg : g < w.heap.size) (o : Obj) : KF g w (w'.alloc o) := h.below hg ((Below.refl _ w').alloc (Nat.le_refl _) o)

/-- one of its maps is turned -/
theorem KF.turn {g r : Nat} {w w' : World} (hg : w.grownBy w' (some r)) (hr : g < r) (ho : Own w g r) (hm : ∃ es ck, w.heap[r]? = some (.map es ck)) : KF g w w' := by
  have hrl : r < w.heap.size := by
    obtain ⟨_, _, hm⟩ := hm
    exact (Array.getElem?_eq_some_iff.1 hm).1
  refine ⟨⟨hg.os, hg.tape, hg.output, hg.size, fun k hk => hg.block k (by omega) (fun e => by have := Option.some.inj e; omega)⟩, fun k _ ⟨_, _, _, hc⟩ => hg.block k (Array.getElem?_eq_some_iff.1 hc).1 (fun e => ?_), fun k hk _ hno => hg.block k hk (fun e => hno (Option.some.inj e ▸ ho)), fun k hk => .inl (hk.congr (hg.block g (by omega) (fun e => by have := Option.some.inj e; omega)))⟩
  have e := Option.some.inj e
  subst e
  obtain ⟨es, ck, hm⟩ := hm
  rw [hm] at hc
  cases hc

/-- a new map is laid into one of its cells -/
theorem KF.newMap {g i : Nat} {w w' : World} {t : TypeId} {cs : List Value} {o : Obj} (hb : Blk w g t cs) (hb' : Blk w' g t (cs.set i (Value.map (some w.heap.size)))) (hg : (w.alloc o).grownBy w' (some g)) : KF g w w' := by
  have hl := hb.lt
  have hsz : (w.alloc o).heap.size = w.heap.size + 1 := by simp
  have hk' : ∀ k, k < w.heap.size → k ≠ g → w'.heap[k]? = w.heap[k]? := fun k hk hne => (hg.block k (by omega) (fun e => hne (Option.some.inj e))).trans (Below.heap_alloc w o k hk)
  refine ⟨((Below.refl _ w).alloc (Nat.le_of_lt hl) o).grown hg (by omega) (fun k hk => Option.some.inj hk ▸ Nat.le_refl _), fun k hne ⟨_, _, _, hc⟩ => hk' k (Array.getElem?_eq_some_iff.1 hc).1 hne, fun k hk hne _ => hk' k hk hne, fun k ho => ?_⟩
  obtain ⟨cs', t', fr, j, h1, h2⟩ := ho
  rw [show w'.heap[g]? = _ from hb'] at h1
  injection h1 with h1
  injection h1 with h1 _
  subst h1
  rw [List.getElem?_toArray, List.getElem?_set] at h2
  split at h2
  · split at h2
    · injection h2 with h2
      injection h2 with h2
      exact .inr (Nat.le_of_eq (Option.some.inj h2))
    · cases h2
  · exact .inl ⟨cs.toArray, t, (0, 0), j, hb, by simpa using h2⟩

/-- The answer's own block is written. -/
theorem KF.grownB {g b : Nat} {w W W' : World} (h : KF g w W) (ho : W.grownBy W' (some b)) (hb : w.heap.size ≤ b) (hg : g < w.heap.size) : KF g w W' :=
  ⟨h.low.grown ho (Nat.le_trans (Nat.le_of_lt hg) h.size) (fun k hk => Option.some.inj hk ▸ Nat.le_trans (Nat.le_of_lt hg) hb), fun k hk hc => by
    have e := h.cells k hk hc
    obtain ⟨_, _, _, hc⟩ := hc
    have hl := (Array.getElem?_eq_some_iff.1 hc).1
    exact (ho.block k (Nat.lt_of_lt_of_le hl h.size) (fun e' => by have := Option.some.inj e'; omega)).trans e,
   fun k hk hne hno => (ho.block k (Nat.lt_of_lt_of_le hk h.size) (fun e' => by have := Option.some.inj e'; omega)).trans (h.rest k hk hne hno),
   fun k hk => h.own k (hk.congr (ho.block g (Nat.lt_of_lt_of_le hg h.size) (fun e' => by have := Option.some.inj e'; omega)))⟩

theorem KF.row {g b : Nat} {w W : World} {cs : Array Value} (h : KF g w W) (hb : w.heap.size ≤ b) (hg : g < w.heap.size) : KF g w (W.setRow b cs) := h.grownB (only_row W b cs) hb hg

/-- Bytes read as they did behind such a call. -/
theorem By.kf {w w' : World} {Q : Nat → Prop} {g n : Nat} {A : Option Addr} {xs : List UInt8} (h : By w Q A n xs) (hf : KF g w w') (hQ : ∀ k, Q k → k ≠ g) : By w' Q A n xs :=
  ⟨h.1, fun hn => by
    obtain ⟨b, o, e, hq, hc⟩ := h.2 hn
    have hl : 0 < xs.length := by have := h.1; omega
    have h0 := hc 0 xs[0] (List.getElem?_eq_getElem hl)
    have hcell : ∃ cs t fr, w.heap[b]? = some (.cells cs t fr) := by
      unfold World.cell? at h0
      cases hb : w.heap[b]? with
      | none => simp [hb] at h0
      | some o => cases o <;> simp_all
    exact ⟨b, o, e, hq, fun j u hu => (World.cell?_of_block (a := ⟨b, o + j, none⟩) (hf.cells b (hQ b hq) hcell)).trans (hc j u hu)⟩⟩

/-- Bytes of a block below the object's. -/
theorem By.kfLow {w w' : World} {g n : Nat} {A : Option Addr} {xs : List UInt8} (h : By w (fun k => k < g) A n xs) (hf : KF g w w') : By w' (fun k => k < g) A n xs := h.below hf.low

/-- '!=' of arrays by their '=='. -/
theorem arr_neq {P : Program} {t : TypeId} {A B : Array Value} {b : Bool} (h : ∀ w, (binOp .eql t (.agg A) (.agg B)).run P w = .ok (.bool b) w) (w : World) : (binOp .neq t (.agg A) (.agg B)).run P w = .ok (.bool (!b)) w := by
  have h := h w
  rw [run_eql_struct] at h
  rw [run_neq_struct]
  cases hq : (Op.equalIn 10000 t (.agg A) (.agg B)).run P w with
  | ok c w' =>
    rw [hq] at h
    simp only [Result.andThen_ok] at h ⊢
    injection h with h1 h2
    injection h1 with h1
    rw [h1, h2]
  | halt x w' =>
    rw [hq] at h
    simp [Result.andThen] at h
end

section
open Go.RowKit
/-- A reader's bytes lie where blocks are already. -/
theorem Rs.lt_ {Q : Nat → Prop} {w : World} {g : Nat} {t : TypeId} {st : Option (List UInt8)} (h : Rs Q w g t st) : Rs (fun b => b < w.heap.size) w g t st := by
  obtain ⟨xs, er, ⟨A, n, c, h1, h2, h3, h4⟩, hs, hl⟩ := h
  exact ⟨xs, er, ⟨A, n, c, h1, h2, h3, fun h0 => (h4 h0).lt.weak fun _ h => h.2⟩, hs, hl⟩
theorem below1_ (w : World) (A : Obj) : Below w.heap.size w (w.alloc A) := (Below.refl _ w).alloc (Nat.le_refl _) A

/-- where an endorsement's tags lie: the parts of a slice -/
abbrev Pl := Option Addr × Nat × Nat
def Pl.val (s : Pl) : Value := .slice s.1 s.2.1 s.2.2
def enC (e : En) (s : Pl) : List Value := [.int .i64 e.og, .slice s.1 s.2.1 s.2.2]
def enR : List En → List Pl → List (List Value) := List.zipWith enC
theorem one2e (i : Int) (A : Option Addr) (n c : Nat) : ([.int .i64 i, .slice A n c] : List Value).toArray.all (·.oneCell') = true := by simp [Value.oneCell']
theorem enC_len (e : En) (s : Pl) : (enC e s).length = 2 := rfl
theorem enR_all : ∀ (es : List En) (ss : List Pl), ∀ x ∈ enR es ss, x.length = 2
  | [], _, x, h => by simp [enR] at h
  | _ :: _, [], x, h => by simp [enR] at h
  | e :: es, s :: ss, x, h => by
    rcases List.mem_cons.1 h with rfl | h
    · rfl
    · exact enR_all es ss x h
theorem enR_one : ∀ (es : List En) (ss : List Pl), ∀ x ∈ enR es ss, ∀ u ∈ x, u.oneCell' = true
  | [], _, x, h => by simp [enR] at h
  | _ :: _, [], x, h => by simp [enR] at h
  | e :: es, s :: ss, x, h => by
    rcases List.mem_cons.1 h with rfl | h
    · intro u hu
      simp [enC] at hu
      rcases hu with rfl | rfl <;> rfl
    · exact enR_one es ss x h
theorem enR_snoc {es : List En} {ss : List Pl} (h : es.length = ss.length) (e : En) (s : Pl) : enR (es ++ [e]) (ss ++ [s]) = enR es ss ++ [enC e s] := by
  unfold enR
  rw [List.zipWith_append h]
  rfl
theorem enR_append {es : List En} {ss : List Pl} (h : es.length = ss.length) (es' : List En) (ss' : List Pl) : enR (es ++ es') (ss ++ ss') = enR es ss ++ enR es' ss' := by
  unfold enR
  rw [List.zipWith_append h]
theorem enR_len {es : List En} {ss : List Pl} (h : es.length = ss.length) : (enR es ss).length = es.length := by
  unfold enR
  rw [List.length_zipWith, h, Nat.min_self]
theorem enR_get {es : List En} {ss : List Pl} {i : Nat} {e : En} {s : Pl} (he : es[i]? = some e) (hs : ss[i]? = some s) : (enR es ss)[i]? = some (enC e s) := by
  unfold enR
  rw [List.getElem?_zipWith, he, hs]
theorem vs_len32 {t : List UInt8} (h : t.length = 32) : (vs t).length = 32 := by rw [vs_length, h]

/-- These tags are read at a slice. -/
def TsIn (w : World) (s : Pl) (ts : List (List UInt8)) : Prop := Sl w 32 s.1 s.2.1 (ts.map vs) ∧ (∀ t ∈ ts, t.length = 32) ∧ s.2.1 ≤ s.2.2 ∧ s.2.2 ≤ maxLen
/-- Each endorsement's tags, where they lie. -/
def AllIn (w : World) : List En → List Pl → Prop
  | [], [] => True
  | e :: es, s :: ss => TsIn w s e.ts ∧ AllIn w es ss
  | [], _ :: _ => False
  | _ :: _, [] => False
/-- These endorsements are read at a slice. -/
def EsIn (w : World) (A : Option Addr) (n : Nat) (es : List En) : Prop := ∃ ss, Sl w 2 A n (enR es ss) ∧ AllIn w es ss

section
variable {w w' : World} {A : Option Addr} {n : Nat} {es : List En} {ss : List Pl} {s : Pl} {ts : List (List UInt8)}
theorem TsIn.through (h : TsIn w s ts) (hb : Below w.heap.size w w') : TsIn w' s ts := ⟨h.1.through hb, h.2⟩
theorem TsIn.len (h : TsIn w s ts) : ts.length = s.2.1 := by simpa using h.1.len
theorem TsIn.nil_ : TsIn w (none, 0, 0) [] := ⟨Sl.none_, (fun t h => by cases h), Nat.le_refl _, by simp [maxLen]⟩
theorem TsIn.at (h : TsIn w s ts) {j : Nat} (hj : j < s.2.1) : ∃ g o t, s.1 = some ⟨g, o, none⟩ ∧ ts[j]? = some t ∧ t ∈ ts ∧ ts.drop j = t :: ts.drop (j + 1) ∧ t.length = 32 ∧ w.rangeAt g (o + j * 32) (vs t) := by
  obtain ⟨g, o, cs, e, h1, _, _, h4⟩ := h.1.at hj
  have hl : j < ts.length := by rw [h.len]; exact hj
  rw [List.getElem?_map, List.getElem?_eq_getElem hl] at h1
  simp only [Option.map_some, Option.some.injEq] at h1
  subst h1
  exact ⟨g, o, ts[j], e, List.getElem?_eq_getElem hl, List.getElem_mem hl, List.drop_eq_getElem_cons hl, h.2.1 _ (List.getElem_mem hl), h4⟩
theorem AllIn.mono : ∀ {es : List En} {ss : List Pl}, AllIn w es ss → (∀ s ts, TsIn w s ts → TsIn w' s ts) → AllIn w' es ss
  | [], [], _, _ => trivial
  | _ :: _, _ :: _, h, hm => ⟨hm _ _ h.1, AllIn.mono h.2 hm⟩
  | [], _ :: _, h, _ => h.elim
  | _ :: _, [], h, _ => h.elim
theorem AllIn.len : ∀ {es : List En} {ss : List Pl}, AllIn w es ss → es.length = ss.length
  | [], [], _ => rfl
  | _ :: _, _ :: _, h => by simp [AllIn.len h.2]
  | [], _ :: _, h => h.elim
  | _ :: _, [], h => h.elim
theorem AllIn.at : ∀ {es : List En} {ss : List Pl} {i : Nat} {e : En}, AllIn w es ss → es[i]? = some e → ∃ s, ss[i]? = some s ∧ TsIn w s e.ts
  | [], _, _, _, _, h => by simp at h
  | _ :: _, [], _, _, h, _ => h.elim
  | x :: _, s :: _, 0, e, h, he => by
    simp at he
    subst he
    exact ⟨s, rfl, h.1⟩
  | _ :: _, _ :: _, i + 1, e, h, he => by
    obtain ⟨s, hs, ht⟩ := AllIn.at h.2 (by simpa using he)
    exact ⟨s, by simpa using hs, ht⟩
theorem AllIn.append : ∀ {es : List En} {ss : List Pl} {es' : List En} {ss' : List Pl}, AllIn w es ss → AllIn w es' ss' → AllIn w (es ++ es') (ss ++ ss')
  | [], [], _, _, _, h => h
  | _ :: _, _ :: _, _, _, h, h' => ⟨h.1, AllIn.append h.2 h'⟩
  | [], _ :: _, _, _, h, _ => h.elim
  | _ :: _, [], _, _, h, _ => h.elim
theorem AllIn.take : ∀ {es : List En} {ss : List Pl} (i : Nat), AllIn w es ss → AllIn w (es.take i) (ss.take i)
  | [], [], i, _ => by simp [AllIn]
  | _ :: _, _ :: _, 0, _ => trivial
  | _ :: _, _ :: _, i + 1, h => ⟨h.1, AllIn.take i h.2⟩
  | [], _ :: _, _, h => h.elim
  | _ :: _, [], _, h => h.elim
theorem AllIn.drop : ∀ {es : List En} {ss : List Pl} (i : Nat), AllIn w es ss → AllIn w (es.drop i) (ss.drop i)
  | [], [], i, _ => by simp [AllIn]
  | _ :: _, _ :: _, 0, h => h
  | _ :: _, _ :: _, i + 1, h => AllIn.drop i h.2
  | [], _ :: _, _, h => h.elim
  | _ :: _, [], _, h => h.elim
theorem EsIn.none_ : EsIn w A 0 [] := ⟨[], Sl.none_, trivial⟩
theorem EsIn.through (h : EsIn w A n es) (hb : Below w.heap.size w w') : EsIn w' A n es := by
  obtain ⟨ss, h1, h2⟩ := h
  exact ⟨ss, h1.through hb, h2.mono fun _ _ h => h.through hb⟩
theorem EsIn.alloc (h : EsIn w A n es) (o : Obj) : EsIn (w.alloc o) A n es := h.through ((Below.refl _ w).alloc (Nat.le_refl _) o)
theorem EsIn.len (h : EsIn w A n es) : es.length = n := by
  obtain ⟨ss, h1, h2⟩ := h
  rw [← enR_len h2.len]
  exact h1.len
theorem EsIn.at (h : EsIn w A n es) {i : Nat} (hi : i < n) : ∃ g o e B m c, A = some ⟨g, o, none⟩ ∧ es[i]? = some e ∧ e ∈ es ∧ es.drop i = e :: es.drop (i + 1) ∧ w.rangeAt g (o + i * 2) [.int .i64 e.og, .slice B m c] ∧ TsIn w (B, m, c) e.ts := by
  have hl : i < es.length := by rw [h.len]; exact hi
  obtain ⟨ss, h1, h2⟩ := h
  obtain ⟨g, o, cs, e, h3, _, _, h4⟩ := h1.at hi
  obtain ⟨s, hs, ht⟩ := h2.at (List.getElem?_eq_getElem hl)
  rw [enR_get (List.getElem?_eq_getElem hl) hs] at h3
  injection h3 with h3
  subst h3
  exact ⟨g, o, es[i], s.1, s.2.1, s.2.2, e, List.getElem?_eq_getElem hl, List.getElem_mem hl, List.drop_eq_getElem_cons hl, h4, ht⟩
theorem EsIn.en_len (h : EsIn w A n es) : ∀ e ∈ es, ∀ t ∈ e.ts, t.length = 32 := fun e he => by
  obtain ⟨ss, h1, h2⟩ := h
  obtain ⟨i, hi⟩ := List.mem_iff_getElem?.1 he
  obtain ⟨s, _, ht⟩ := h2.at hi
  exact ht.2.1
end

/-- Tags that a call made itself. -/
def OTs (w : World) (B : Nat) (s : Pl) (ts : List (List UInt8)) : Prop := Os w B 123 32 s.val (ts.map vs) ∧ ∀ t ∈ ts, t.length = 32
def OAll (w : World) (B : Nat) : List En → List Pl → Prop
  | [], [] => True
  | e :: es, s :: ss => OTs w B s e.ts ∧ OAll w B es ss
  | [], _ :: _ => False
  | _ :: _, [] => False
section
variable {w w' : World} {B : Nat} {v : Value} {es : List En} {ss : List Pl} {s : Pl} {ts : List (List UInt8)} {e e2 : TypeId} {k k2 : Nat} {v2 : Value} {xs ys : List (List Value)}
/-- A block that isn't its own is turned. -/
theorem Os.ne {row : Option Nat} (h : Os w B e k v xs) (hb : w.grownBy w' row) (hne : ∀ b, v.ownBlock = some b → row ≠ some b) : Os w' B e k v xs :=
  h.keep fun b _ hl hv => hb.block b hl (fun e => hne b hv e.symm)
/-- The own block of a slice of another type is turned. -/
theorem Os.beside {B2 : Nat} (h : Os w B e k v xs) (h2 : Os w B2 e2 k2 v2 ys) (hb : w.grownBy w' v2.ownBlock) (hne : e2 ≠ e) : Os w' B e k v xs := by
  refine h.ne hb fun b hv hv2 => hne ?_
  rcases h.1.2 with ⟨rfl, _⟩ | ⟨g, _, _, rfl, _, hg, _⟩
  · cases hv
  rcases h2.1.2 with ⟨rfl, _⟩ | ⟨g2, _, _, rfl, _, hg2, _⟩
  · cases hv2
  obtain rfl : g = b := Option.some.inj hv
  obtain rfl : g2 = g := Option.some.inj hv2
  rw [hg] at hg2
  injection hg2 with hg2
  injection hg2 with _ ht _
  exact ht.symm
theorem OTs.mono (h : OTs w B s ts) (hm : ∀ xs, Os w B 123 32 s.val xs → Os w' B 123 32 s.val xs) : OTs w' B s ts := ⟨hm _ h.1, h.2⟩
theorem OTs.weak {B' : Nat} (h : OTs w B s ts) (hB : B' ≤ B) : OTs w B' s ts := ⟨h.1.weak hB, h.2⟩
theorem OTs.out (h : OTs w B s ts) : TsIn w s ts := by
  obtain ⟨A, c, hv, h1, h2, h3⟩ := h.1.out
  obtain ⟨s1, s2, s3⟩ := s
  unfold Pl.val at hv
  injection hv with e1 e2 e3
  simp only at e1 e2 e3
  subst e1; subst e2; subst e3
  exact ⟨h3, h.2, h1, h2⟩
theorem OAll.mono : ∀ {es : List En} {ss : List Pl}, OAll w B es ss → (∀ s xs, Os w B 123 32 (Pl.val s) xs → Os w' B 123 32 (Pl.val s) xs) → OAll w' B es ss
  | [], [], _, _ => trivial
  | _ :: _, _ :: _, h, hm => ⟨h.1.mono (hm _), OAll.mono h.2 hm⟩
  | [], _ :: _, h, _ => h.elim
  | _ :: _, [], h, _ => h.elim
theorem OAll.len : ∀ {es : List En} {ss : List Pl}, OAll w B es ss → es.length = ss.length
  | [], [], _ => rfl
  | _ :: _, _ :: _, h => by simp [OAll.len h.2]
  | [], _ :: _, h => h.elim
  | _ :: _, [], h => h.elim
theorem OAll.snoc : ∀ {es : List En} {ss : List Pl} {e : En} {s : Pl}, OAll w B es ss → OTs w B s e.ts → OAll w B (es ++ [e]) (ss ++ [s])
  | [], [], _, _, _, h => ⟨h, trivial⟩
  | _ :: _, _ :: _, _, _, h, h' => ⟨h.1, OAll.snoc h.2 h'⟩
  | [], _ :: _, _, _, h, _ => h.elim
  | _ :: _, [], _, _, h, _ => h.elim
theorem OAll.out : ∀ {es : List En} {ss : List Pl}, OAll w B es ss → AllIn w es ss
  | [], [], _ => trivial
  | _ :: _, _ :: _, h => ⟨h.1.out, OAll.out h.2⟩
  | [], _ :: _, h => h.elim
  | _ :: _, [], h => h.elim
theorem OAll.weak {B' : Nat} (hB : B' ≤ B) : ∀ {es : List En} {ss : List Pl}, OAll w B es ss → OAll w B' es ss
  | [], [], _ => trivial
  | _ :: _, _ :: _, h => ⟨h.1.weak hB, OAll.weak hB h.2⟩
  | [], _ :: _, h => h.elim
  | _ :: _, [], h => h.elim
end
end

section
open Go.RowKit
theorem wrap_sx (v : Nat) (h : v < 18446744073709551616) : IntKind.i64.wrap (v : Int) = sx 8 v := by
  have e : ∀ V, sx 8 V = if V < 9223372036854775808 then (V : Int) else V - 18446744073709551616 := fun V => by simp [sx]
  rw [e]
  simp [IntKind.wrap, IntKind.signed, IntKind.bits]
  split <;> omega
theorem sx_small {v : Nat} (h : v < 9223372036854775808) : sx 8 v = v := by simp [sx, h]
theorem conv_i64 {P : Program} (t t' : TypeId) (ht : P.underlying t = some (.int .u64)) (ht' : P.underlying t' = some (.int .i64)) (v : Nat) (h : v < 18446744073709551616) (w : World) : (convert t t' (.int .u64 (v : Int))).run P w = .ok (.int .i64 (sx 8 v)) w := by
  simp [convert, run_underlying ht, run_underlying ht', Conv.intToInt, wrap_sx v h]
theorem conv_small {P : Program} (t t' : TypeId) (ht : P.underlying t = some (.int .u64)) (ht' : P.underlying t' = some (.int .i64)) (v : Nat) (h : v < 9223372036854775808) (w : World) : (convert t t' (.int .u64 (v : Int))).run P w = .ok (.int .i64 (v : Int)) w := by
  rw [conv_i64 t t' ht ht' v (by omega), sx_small h]

theorem only_new {a b c : World} {g h : Nat} (hab : a.grownBy b (some g)) (hbc : b.grownBy c (some h)) (hh : a.heap.size ≤ h) : a.grownBy c (some g) :=
  ⟨hbc.os.trans hab.os, hbc.tape.trans hab.tape, hbc.output.trans hab.output, Nat.le_trans hab.size hbc.size, fun i hi hne => (hbc.block i (Nat.lt_of_lt_of_le hi hab.size) (fun e => by have := Option.some.inj e; omega)).trans (hab.block i hi hne)⟩
/-- A block of cells that are no bytes is turned. -/
theorem By.far {w w' : World} {A : Option Addr} {n g : Nat} {xs : List UInt8} {t : TypeId} {cs : List Value} (h : By w (fun _ => True) A n xs) (hg : w.grownBy w' (some g)) (hb : Blk w g t cs) (hc : ∀ v ∈ cs, ∀ u : UInt8, v ≠ u8 u) : By w' (fun _ => True) A n xs :=
  ⟨h.1, fun hn => by
    obtain ⟨b, o, e, _, hc1⟩ := h.2 hn
    refine ⟨b, o, e, trivial, fun j u hu => hg.cell (hc1 j u hu) (fun e2 => ?_)⟩
    have e3 : b = g := Option.some.inj e2
    subst e3
    have h2 := hc1 j u hu
    rw [hb.cell] at h2
    exact hc _ (List.mem_of_getElem? h2) u rfl⟩

theorem results_cell_row_tmp1 {P : Program} {fn : Func} {p u : Tmp} {ty : TypeId} (h : fn.results = #[.cell p ty, .tmp u]) (tmps : Array Value) (w : World) (g : Nat) (t : TypeId) (cs : Array Value) (fr : Nat × Nat) (d : TypeDesc)
    (hp : tmps.getD p undef = .pointer (some ⟨g, 0, none⟩)) (hg : w.heap[g]? = some (.cells cs t fr))
    (hu : P.underlying ty = some d) (hd : (match d with | .struct _ | .array _ _ => true | _ => false) = true) (hi : (P.info? ty).map (·.size) = some cs.size) :
    (results fn tmps).run P w = .ok (.tuple #[.agg cs, tmps.getD u undef]) w := by
  have hp' : tmps[p]?.getD undef = .pointer (some ⟨g, 0, none⟩) := by simpa using hp
  simp [results, h, hp', asAddr, run_loadVar_row w g t ty cs fr d hg hu hd hi]
def stL : Option (List UInt8) → Nat
  | some r => r.length
  | none => 0
theorem nnext_stL (k : Nat) (st : Option (List UInt8)) : stL (nnext k st) ≤ stL st := by
  cases st with
  | none => exact Nat.le_refl _
  | some xs => rw [nnext_some]; split <;> simp [stL]
theorem tval_stL (k : Nat) (st : Option (List UInt8)) : (tval k st).length ≤ stL st := by
  cases st with
  | none => simp [tval_none]
  | some xs => rw [tval_some]; split <;> simp [stL]; omega
theorem rval_stL (m : Nat) (st : Option (List UInt8)) : (rval m st).length ≤ stL st := by
  unfold rval
  split
  · exact Nat.le_trans (tval_stL _ _) (nnext_stL _ _)
  · simp
theorem Tryd.alloc_cr (g : Nat) (w : World) (hg : w.heap.size = g) : (Instr.alloc 40 true (.tuple #[])).run Tryd.prog w = .ok (.pointer (some ⟨g, 0, none⟩)) (w.alloc (.cells #[.int .i64 0, .int .i64 0, .int .i64 0, .string (ba []), .int .i64 0, .int .i64 0, .string (ba [])] 40)) := by
  subst hg
  kernel_rfl
theorem Tryd.zero_cr (w : World) : (zeroValue 40).run Tryd.prog w = .ok (.agg #[.int .i64 0, .int .i64 0, .int .i64 0, .string (ba []), .int .i64 0, .int .i64 0, .string (ba [])]) w := by kernel_rfl
theorem Tryd.build_cr (w : World) : (Instr.build 40 #[]).run Tryd.prog w = .ok (.agg #[.int .i64 0, .int .i64 0, .int .i64 0, .string (ba []), .int .i64 0, .int .i64 0, .string (ba [])]) w := by kernel_rfl
theorem Tryd.build_c7 (a b : ByteArray) (i j k p q : Int) (w : World) : (Instr.build 40 #[(0, .int .i64 i), (1, .int .i64 j), (2, .int .i64 k), (3, .string a), (4, .int .i64 p), (5, .int .i64 q), (6, .string b)]).run Tryd.prog w = .ok (.agg #[.int .i64 i, .int .i64 j, .int .i64 k, .string a, .int .i64 p, .int .i64 q, .string b]) w := by kernel_rfl
theorem no_u8c (a b : ByteArray) (i j k p q : Int) : ∀ v ∈ ([.int .i64 i, .int .i64 j, .int .i64 k, .string a, .int .i64 p, .int .i64 q, .string b] : List Value), ∀ u : UInt8, v ≠ u8 u := by
  intro v hv u
  simp at hv
  rcases hv with rfl | rfl | rfl | rfl | rfl | rfl | rfl <;> simp [u8]
theorem one7 (a b : ByteArray) (i j k p q : Int) : ([.int .i64 i, .int .i64 j, .int .i64 k, .string a, .int .i64 p, .int .i64 q, .string b] : List Value).toArray.all (·.oneCell') = true := by simp [Value.oneCell']
end

section
open Go.RowKit
theorem rnext_stL (m : Nat) (st : Option (List UInt8)) : stL (rnext m st) ≤ stL st := by
  unfold rnext
  split
  · exact Nat.le_trans (nnext_stL _ _) (nnext_stL _ _)
  · exact Nat.zero_le _
theorem nnext_more {k : Nat} {st : Option (List UInt8)} (h : stL st < k) : nnext k st = none ∧ tval k st = [] := by
  cases st with
  | none => exact ⟨rfl, rfl⟩
  | some r =>
    have h' : ¬ k ≤ r.length := by simpa [stL] using h
    rw [nnext_some, tval_some, if_neg h', if_neg h']
    exact ⟨rfl, rfl⟩
/-- A row's bound doesn't matter where no more is left. -/
theorem row_free {m m' : Nat} {st : Option (List UInt8)} (h : stL st ≤ m) (h' : stL st ≤ m') : rval m st = rval m' st ∧ rnext m st = rnext m' st := by
  have key : ∀ k : Nat, stL st ≤ k → rval k st = tval (nval 4 st) (nnext 4 st) ∧ rnext k st = nnext (nval 4 st) (nnext 4 st) := by
    intro k hk
    unfold rval rnext
    by_cases hl : nval 4 st ≤ k
    · rw [if_pos hl, if_pos hl]; exact ⟨rfl, rfl⟩
    · rw [if_neg hl, if_neg hl]
      obtain ⟨h1, h2⟩ := nnext_more (k := nval 4 st) (st := nnext 4 st) (Nat.lt_of_le_of_lt (nnext_stL _ _) (by omega))
      exact ⟨h2.symm, h1.symm⟩
  exact ⟨(key m h).1.trans (key m' h').1.symm, (key m h).2.trans (key m' h').2.symm⟩
theorem rdCr_free {m m' : Nat} {st : Option (List UInt8)} (h : stL st ≤ m) (h' : stL st ≤ m') : rdCr m st = rdCr m' st := by
  have l1 : stL (nnext 1 (nnext 8 (nnext 1 st))) ≤ stL st := Nat.le_trans (nnext_stL _ _) (Nat.le_trans (nnext_stL _ _) (nnext_stL _ _))
  obtain ⟨a1, a2⟩ := row_free (m := m) (m' := m') (st := nnext 1 (nnext 8 (nnext 1 st))) (by omega) (by omega)
  have l2 : stL (nnext 8 (nnext 8 (rnext m' (nnext 1 (nnext 8 (nnext 1 st)))))) ≤ stL st := Nat.le_trans (nnext_stL _ _) (Nat.le_trans (nnext_stL _ _) (Nat.le_trans (rnext_stL _ _) l1))
  obtain ⟨b1, b2⟩ := row_free (m := m) (m' := m') (st := nnext 8 (nnext 8 (rnext m' (nnext 1 (nnext 8 (nnext 1 st)))))) (by omega) (by omega)
  unfold rdCr
  rw [a1, a2, b1, b2]
theorem parseCr_free {m m' : Nat} {xs : List UInt8} (N : Int) (h : xs.length ≤ m) (h' : xs.length ≤ m') : parseCr m xs N = parseCr m' xs N := by
  unfold parseCr
  rw [rdCr_free (m := m) (m' := m') (st := some xs) h h']
end

section
open Go.RowKit
theorem Blk.whole {w : World} {g : Nat} {t : TypeId} {cs : List Value} (h : Blk w g t cs) : w.rangeAt g 0 cs := Blk.range (pre := []) (post := []) (by simpa using h)
theorem eqb_ba (a b : List UInt8) : ((ba a).toList == (ba b).toList) = (a == b) := by rw [ba_list, ba_list]
set_option maxHeartbeats 4000000 in
theorem eq_cr (c d : Cr) (w : World) : (binOp .eql 40 (.agg #[.int .i64 c.cl, .int .i64 c.sp, .int .i64 c.op, .string (ba c.lt), .int .i64 c.a, .int .i64 c.b, .string (ba c.tx)]) (.agg #[.int .i64 d.cl, .int .i64 d.sp, .int .i64 d.op, .string (ba d.lt), .int .i64 d.a, .int .i64 d.b, .string (ba d.tx)])).run Tryd.prog w = .ok (.bool (c.eqb d)) w := by
  unfold Cr.eqb
  cases h0 : (c.cl == d.cl) with
  | false => simp [go_sem, eqb_ba, h0]
  | true =>
    cases h1 : (c.sp == d.sp) with
    | false => simp [go_sem, eqb_ba, h0, h1]
    | true =>
      cases h2 : (c.op == d.op) with
      | false => simp [go_sem, eqb_ba, h0, h1, h2]
      | true =>
        cases h3 : (c.lt == d.lt) with
        | false => simp [go_sem, eqb_ba, h0, h1, h2, h3]
        | true =>
          cases h4 : (c.a == d.a) with
          | false => simp [go_sem, eqb_ba, h0, h1, h2, h3, h4]
          | true =>
            cases h5 : (c.b == d.b) with
            | false => simp [go_sem, eqb_ba, h0, h1, h2, h3, h4, h5]
            | true =>
              cases h6 : (c.tx == d.tx) with
              | false => simp [go_sem, eqb_ba, h0, h1, h2, h3, h4, h5, h6]
              | true =>
                simp [go_sem, eqb_ba, h0, h1, h2, h3, h4, h5, h6]

theorem neq_cr (c d : Cr) (w : World) : (binOp .neq 40 (.agg #[.int .i64 c.cl, .int .i64 c.sp, .int .i64 c.op, .string (ba c.lt), .int .i64 c.a, .int .i64 c.b, .string (ba c.tx)]) (.agg #[.int .i64 d.cl, .int .i64 d.sp, .int .i64 d.op, .string (ba d.lt), .int .i64 d.a, .int .i64 d.b, .string (ba d.tx)])).run Tryd.prog w = .ok (.bool (!(c.eqb d))) w := arr_neq (fun w => eq_cr c d w) w
end

end Go.Proofs.YtgbobemhogeeeaaDoor
