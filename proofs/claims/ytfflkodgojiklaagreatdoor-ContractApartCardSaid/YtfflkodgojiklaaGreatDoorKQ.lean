/-
  Joined: RqA.
-/
import Derived.Test.YtfflkodgojiklaaGreatDoorKG4
namespace Go.Proofs.YtfflkodgojiklaaGreatDoor

section
open Go.RowKit
/-- may there be n replicas? -/
def szB (n : Int) : Bool := decide (1 ≤ n) && decide (n ≤ 7)
theorem szB_no {n : Int} (h : n < 1 ∨ 7 < n) : szB n = false := by unfold szB; simp; omega
theorem szB_yes {n : Int} (h : ¬ (n < 1 ∨ 7 < n)) : szB n = true := by unfold szB; simp; omega
set_option maxHeartbeats 1000000 in
theorem issize_any (n : Int) (w : World) : Calls Tryz.prog 35 #[.int .i64 n] w fun e w' => e = .returned (.bool (szB n)) ∧ w' = w := by
  unfold szB
  by_cases h1 : 1 ≤ n
  · have d1 : decide (1 ≤ n) = true := by simpa using h1
    go_enter Tryz.func35, Tryz.ntmps35
    go_wp2
    go_ret
    exact ⟨ret_b (by simp [h1]), rfl⟩
  · have d1 : decide (1 ≤ n) = false := by simpa using h1
    go_enter Tryz.func35, Tryz.ntmps35
    go_wp2
    go_ret
    exact ⟨ret_b (by simp), rfl⟩

set_option maxHeartbeats 8000000 in
set_option maxRecDepth 100000 in
theorem chkC_any (c : Cr) (n : Int) (w : World) (hl : c.lt.length ≤ 140737488355328) :
    Calls Tryz.prog 17 #[.agg #[.int .i64 c.cl, .int .i64 c.sp, .int .i64 c.op, .string (ba c.lt), .int .i64 c.a, .int .i64 c.b, .string (ba c.tx)], .int .i64 n] w fun e w' => e = .returned (.int .i64 (chkC c n)) ∧ Below w.heap.size w w' := by
  have hsz := ba_size
  have HX : Hid (Below w.heap.size w (w.alloc (.cells #[.int .i64 c.cl, .int .i64 c.sp, .int .i64 c.op, .string (ba c.lt), .int .i64 c.a, .int .i64 c.b, .string (ba c.tx)] 27))) := Lib.hid ((Below.refl _ w).alloc (Nat.le_refl _) _)
  have HB : Hid (Blk (w.alloc (.cells #[.int .i64 c.cl, .int .i64 c.sp, .int .i64 c.op, .string (ba c.lt), .int .i64 c.a, .int .i64 c.b, .string (ba c.tx)] 27)) w.heap.size 27 [.int .i64 c.cl, .int .i64 c.sp, .int .i64 c.op, .string (ba c.lt), .int .i64 c.a, .int .i64 c.b, .string (ba c.tx)]) := Lib.hid (Blk.fresh rfl rfl)
  have c0 := HB.out.cellAt (i := 0) rfl
  have c1 := HB.out.cellAt (i := 1) rfl
  have c2 := HB.out.cellAt (i := 2) rfl
  have c3 := HB.out.cellAt (i := 3) rfl
  by_cases hz : n < 1 ∨ 7 < n
  case pos =>
    have HSZ := Lib.hid (fun W : World => szB_no hz ▸ issize_any n W)
    go_enter Tryz.func17, Tryz.ntmps17
    have hv : chkC c n = 1 := by unfold chkC; simp [hz]; try omega
    have HV := Lib.hid hv
    clear hv hz 
    go_wp2_with (first
      | (go_at_call 35; (with_reducible refine (HSZ.out _).mono ?_); rintro e w1 ⟨rfl, rfl⟩))
    go_ret
    exact ⟨ret_i HV.out.symm, HX.out⟩
  case neg =>
    have HSZ := Lib.hid (fun W : World => szB_yes hz ▸ issize_any n W)
    go_enter Tryz.func17, Tryz.ntmps17
    by_cases h0 : c.cl < n
    case pos =>
      have d0 : decide (c.cl < n) = true := by simpa using h0
      have hv : chkC c n = 17 := by unfold chkC; simp [hz, h0]; try omega
      have HV := Lib.hid hv
      clear hv hz h0
      go_wp2_with (first
        | (go_at_call 35; (with_reducible refine (HSZ.out _).mono ?_); rintro e w1 ⟨rfl, rfl⟩))
      go_ret
      exact ⟨ret_i HV.out.symm, HX.out⟩
    case neg =>
      have d0 : decide (c.cl < n) = false := by simpa using h0
      have hwr : IntKind.i64.wrap (n + 4) = n + 4 := IntWalk.i64_in _ (by omega)
      by_cases h1 : n + 4 ≤ c.cl
      case pos =>
        have d1 : decide (n + 4 ≤ c.cl) = true := by simpa using h1
        have h1b : n + 3 < c.cl := by omega
        have hv : chkC c n = 17 := by unfold chkC; simp [hz, h0, h1b]; try omega
        have HV := Lib.hid hv
        clear hv hz h0 h1
        go_wp2_with (first
          | (go_at_call 35; (with_reducible refine (HSZ.out _).mono ?_); rintro e w1 ⟨rfl, rfl⟩))
        go_ret
        exact ⟨ret_i HV.out.symm, HX.out⟩
      case neg =>
        have d1 : decide (n + 4 ≤ c.cl) = false := by simpa using h1
        have h1b : ¬ n + 3 < c.cl := by omega
        by_cases h2 : c.sp < 1
        case pos =>
          have d2 : decide (c.sp < 1) = true := by simpa using h2
          have hv : chkC c n = 5 := by unfold chkC; simp [hz, h0, h1b, h2]; try omega
          have HV := Lib.hid hv
          clear hv hz h0 h1 h2
          go_wp2_with (first
            | (go_at_call 35; (with_reducible refine (HSZ.out _).mono ?_); rintro e w1 ⟨rfl, rfl⟩))
          go_ret
          exact ⟨ret_i HV.out.symm, HX.out⟩
        case neg =>
          have d2 : decide (c.sp < 1) = false := by simpa using h2
          by_cases h3 : 1099511627776 < c.sp
          case pos =>
            have d3 : decide (1099511627776 < c.sp) = true := by simpa using h3
            have hv : chkC c n = 5 := by unfold chkC; simp [hz, h0, h1b, h2, h3]; try omega
            have HV := Lib.hid hv
            clear hv hz h0 h1 h2 h3
            go_wp2_with (first
              | (go_at_call 35; (with_reducible refine (HSZ.out _).mono ?_); rintro e w1 ⟨rfl, rfl⟩))
            go_ret
            exact ⟨ret_i HV.out.symm, HX.out⟩
          case neg =>
            have d3 : decide (1099511627776 < c.sp) = false := by simpa using h3
            by_cases h4 : c.op < 1
            case pos =>
              have d4 : decide (c.op < 1) = true := by simpa using h4
              have hv : chkC c n = 5 := by unfold chkC; simp [hz, h0, h1b, h2, h3, h4]; try omega
              have HV := Lib.hid hv
              clear hv hz h0 h1 h2 h3 h4
              go_wp2_with (first
                | (go_at_call 35; (with_reducible refine (HSZ.out _).mono ?_); rintro e w1 ⟨rfl, rfl⟩))
              go_ret
              exact ⟨ret_i HV.out.symm, HX.out⟩
            case neg =>
              have d4 : decide (c.op < 1) = false := by simpa using h4
              by_cases h5 : 9 < c.op
              case pos =>
                have d5 : decide (9 < c.op) = true := by simpa using h5
                have hv : chkC c n = 5 := by unfold chkC; simp [hz, h0, h1b, h2, h3, h4, h5]; try omega
                have HV := Lib.hid hv
                clear hv hz h0 h1 h2 h3 h4 h5
                go_wp2_with (first
                  | (go_at_call 35; (with_reducible refine (HSZ.out _).mono ?_); rintro e w1 ⟨rfl, rfl⟩))
                go_ret
                exact ⟨ret_i HV.out.symm, HX.out⟩
              case neg =>
                have d5 : decide (9 < c.op) = false := by simpa using h5
                cases hn : isNm c.lt with
                | false =>
                  have HNM := Lib.hid (fun W : World => hn ▸ isname_any c.lt W hl)
                  have hv : chkC c n = 7 := by unfold chkC; simp [hz, h0, h1b, h2, h3, h4, h5, hn]; try omega
                  have HV := Lib.hid hv
                  clear hv hz h0 h1 h2 h3 h4 h5
                  go_wp2_with (first
                    | (go_at_call 35; (with_reducible refine (HSZ.out _).mono ?_); rintro e w1 ⟨rfl, rfl⟩)
                    | (go_at_call 36; (with_reducible refine (HNM.out _).mono ?_); rintro e w2 ⟨rfl, hb⟩; have H2 := Lib.hid (HB.out.through hb); have HX2 := Lib.hid (below_step HX.out hb); have c6b := H2.out.cellAt (i := 6) rfl; clear hb))
                  go_ret
                  exact ⟨ret_i HV.out.symm, HX2.out⟩
                | true =>
                  have HNM := Lib.hid (fun W : World => hn ▸ isname_any c.lt W hl)
                  by_cases h6 : c.tx.length ≤ 200
                  case neg =>
                    have d6 : decide ((200 : Int) < (c.tx.length : Int)) = true := by simp; omega
                    have hv : chkC c n = 3 := by unfold chkC; simp [hz, h0, h1b, h2, h3, h4, h5, h6, hn]; try omega
                    have HV := Lib.hid hv
                    clear hv hz h0 h1 h2 h3 h4 h5 h6
                    go_wp2_with (first
                      | (go_at_call 35; (with_reducible refine (HSZ.out _).mono ?_); rintro e w1 ⟨rfl, rfl⟩)
                      | (go_at_call 36; (with_reducible refine (HNM.out _).mono ?_); rintro e w2 ⟨rfl, hb⟩; have H2 := Lib.hid (HB.out.through hb); have HX2 := Lib.hid (below_step HX.out hb); have c6b := H2.out.cellAt (i := 6) rfl; clear hb))
                    go_ret
                    exact ⟨ret_i HV.out.symm, HX2.out⟩
                  case pos =>
                    have d6 : decide ((200 : Int) < (c.tx.length : Int)) = false := by simp; omega
                    have hv : chkC c n = 0 := by unfold chkC; simp [hz, h0, h1b, h2, h3, h4, h5, h6, hn]; try omega
                    have HV := Lib.hid hv
                    clear hv hz h0 h1 h2 h3 h4 h5 h6
                    go_wp2_with (first
                      | (go_at_call 35; (with_reducible refine (HSZ.out _).mono ?_); rintro e w1 ⟨rfl, rfl⟩)
                      | (go_at_call 36; (with_reducible refine (HNM.out _).mono ?_); rintro e w2 ⟨rfl, hb⟩; have H2 := Lib.hid (HB.out.through hb); have HX2 := Lib.hid (below_step HX.out hb); have c6b := H2.out.cellAt (i := 6) rfl; clear hb))
                    go_ret
                    exact ⟨ret_i HV.out.symm, HX2.out⟩
end

end Go.Proofs.YtfflkodgojiklaaGreatDoor
