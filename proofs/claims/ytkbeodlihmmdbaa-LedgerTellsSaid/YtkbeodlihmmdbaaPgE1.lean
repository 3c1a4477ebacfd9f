/-
  The program's mayStand, mayBeTold; all, with each of them.
-/
import Derived.Test.YtkbeodlihmmdbaaPgB2
import Derived.Test.YtkbeodlihmmdbaaLgRr
namespace Go.Proofs.Ytkbeodlihmmdbaa
open Go.RowKit

theorem ltOk_eq (x : Lt) : ltOk x = (isNm x.nm && decide (1 ≤ x.st) && decide (x.st ≤ 7) && decide (1 ≤ x.am) && isM x.am && (decide (0 ≤ x.du) && decide (x.du ≤ 1099511627776)) && decide (x.po.length ≤ 200) && decide (x.pa.length ≤ 200)) := rfl

set_option maxHeartbeats 16000000 in
set_option maxRecDepth 100000 in
theorem maystand_any (x : Lt) (w : World) (hx : x.nm.length ≤ 140737488355328) :
    Calls Try.prog 44 #[.agg #[.string (ba x.nm), .int .i64 x.st, .int .i64 x.am, .int .i64 x.du, .string (ba x.po), .string (ba x.pa)]] w fun e w' => e = .returned (.bool (ltOk x)) ∧ Below w.heap.size w w' := by
  have hsz := ba_size
  have hm := fun (W : World) => is_any x.am W
  have hn := fun (W : World) => isname_any x.nm W hx
  have H1 : Hid (Blk (w.alloc (.cells #[.string (ba x.nm), .int .i64 x.st, .int .i64 x.am, .int .i64 x.du, .string (ba x.po), .string (ba x.pa)] 27)) w.heap.size 27 [.string (ba x.nm), .int .i64 x.st, .int .i64 x.am, .int .i64 x.du, .string (ba x.po), .string (ba x.pa)]) := Lib.hid (Blk.fresh rfl rfl)
  by_cases h0 : 1 ≤ x.st
  case neg =>
    have d0 : decide (1 ≤ x.st) = false := by simpa using h0
    have hv : ltOk x = false := by rw [ltOk_eq]; simp [h0]
    have HV := Lib.hid hv
    clear hv
    go_enter Try.func44, Try.ntmps44
    go_wp2_with (first
      | (go_at_call 41; (with_reducible refine (HM.out _).mono ?_); rintro e w1 ⟨rfl, rfl⟩))
    go_ret
    exact ⟨ret_b HV.out.symm, (below1 w _)⟩
  case pos =>
    have d0 : decide (1 ≤ x.st) = true := by simpa using h0
    by_cases h1 : x.st ≤ 7
    case neg =>
      have d1 : decide (x.st ≤ 7) = false := by simpa using h1
      have hv : ltOk x = false := by rw [ltOk_eq]; simp [h1]
      have HV := Lib.hid hv
      clear hv
      go_enter Try.func44, Try.ntmps44
      go_wp2_with (first
        | (go_at_call 41; (with_reducible refine (HM.out _).mono ?_); rintro e w1 ⟨rfl, rfl⟩))
      go_ret
      exact ⟨ret_b HV.out.symm, (below1 w _)⟩
    case pos =>
      have d1 : decide (x.st ≤ 7) = true := by simpa using h1
      by_cases h2 : 1 ≤ x.am
      case neg =>
        have d2 : decide (1 ≤ x.am) = false := by simpa using h2
        have hv : ltOk x = false := by rw [ltOk_eq]; simp [h2]
        have HV := Lib.hid hv
        clear hv
        go_enter Try.func44, Try.ntmps44
        go_wp2_with (first
          | (go_at_call 41; (with_reducible refine (HM.out _).mono ?_); rintro e w1 ⟨rfl, rfl⟩))
        go_ret
        exact ⟨ret_b HV.out.symm, (below1 w _)⟩
      case pos =>
        have d2 : decide (1 ≤ x.am) = true := by simpa using h2
        cases h3 : isM x.am
        case false =>
          have hm2 : ∀ W, Calls Try.prog 41 #[.int .i64 x.am] W fun e w' => e = .returned (.bool false) ∧ w' = W := fun W => by have := hm W; rw [h3] at this; exact this
          have HM := Lib.hid hm2
          clear hm2
          have hv : ltOk x = false := by rw [ltOk_eq]; simp [h3]
          have HV := Lib.hid hv
          clear hv
          go_enter Try.func44, Try.ntmps44
          go_wp2_with (first
            | (go_at_call 41; (with_reducible refine (HM.out _).mono ?_); rintro e w1 ⟨rfl, rfl⟩))
          go_ret
          exact ⟨ret_b HV.out.symm, (below1 w _)⟩
        case true =>
          have hm2 : ∀ W, Calls Try.prog 41 #[.int .i64 x.am] W fun e w' => e = .returned (.bool true) ∧ w' = W := fun W => by have := hm W; rw [h3] at this; exact this
          have HM := Lib.hid hm2
          clear hm2
          by_cases h4 : 0 ≤ x.du
          case neg =>
            have d4 : decide (0 ≤ x.du) = false := by simpa using h4
            have hv : ltOk x = false := by rw [ltOk_eq]; simp [h4]
            have HV := Lib.hid hv
            clear hv
            go_enter Try.func44, Try.ntmps44
            go_wp2_with (first
              | (go_at_call 41; (with_reducible refine (HM.out _).mono ?_); rintro e w1 ⟨rfl, rfl⟩))
            go_ret
            exact ⟨ret_b HV.out.symm, (below1 w _)⟩
          case pos =>
            have d4 : decide (0 ≤ x.du) = true := by simpa using h4
            by_cases h5 : x.du ≤ 1099511627776
            case neg =>
              have d5 : decide (x.du ≤ 1099511627776) = false := by simpa using h5
              have hv : ltOk x = false := by rw [ltOk_eq]; simp [h5]
              have HV := Lib.hid hv
              clear hv
              go_enter Try.func44, Try.ntmps44
              go_wp2_with (first
                | (go_at_call 41; (with_reducible refine (HM.out _).mono ?_); rintro e w1 ⟨rfl, rfl⟩))
              go_ret
              exact ⟨ret_b HV.out.symm, (below1 w _)⟩
            case pos =>
              have d5 : decide (x.du ≤ 1099511627776) = true := by simpa using h5
              cases h6 : isNm x.nm
              case false =>
                have hn2 : ∀ W, Calls Try.prog 18 #[.string (ba x.nm)] W fun e w' => e = .returned (.bool false) ∧ Below W.heap.size W w' := fun W => by have := hn W; rw [h6] at this; exact this
                have HN := Lib.hid hn2
                clear hn2
                have hv : ltOk x = false := by rw [ltOk_eq]; simp [h6]
                have HV := Lib.hid hv
                clear hv
                go_enter Try.func44, Try.ntmps44
                go_wp2_with (first
                  | (go_at_call 41; (with_reducible refine (HM.out _).mono ?_); rintro e w1 ⟨rfl, rfl⟩)
                  | (go_at_call 18; (with_reducible refine (HN.out _).mono ?_); rintro e w2 ⟨rfl, hb2⟩; have HX2 : Hid (Below w.heap.size w w2) := Lib.hid (below_step (below1 w _) hb2); have H2 := Lib.hid (H1.out.through hb2); have c24 := H2.out.cellAt (i := 4) rfl; have c25 := H2.out.cellAt (i := 5) rfl; clear hb2))
                go_ret
                exact ⟨ret_b HV.out.symm, HX2.out⟩
              case true =>
                have hn2 : ∀ W, Calls Try.prog 18 #[.string (ba x.nm)] W fun e w' => e = .returned (.bool true) ∧ Below W.heap.size W w' := fun W => by have := hn W; rw [h6] at this; exact this
                have HN := Lib.hid hn2
                clear hn2
                by_cases h7 : x.po.length ≤ 200
                case neg =>
                  have d7 : decide (((x.po).length : Int) ≤ 200) = false := by simp; omega
                  have hv : ltOk x = false := by rw [ltOk_eq]; simp [h7]
                  have HV := Lib.hid hv
                  clear hv
                  go_enter Try.func44, Try.ntmps44
                  go_wp2_with (first
                    | (go_at_call 41; (with_reducible refine (HM.out _).mono ?_); rintro e w1 ⟨rfl, rfl⟩)
                    | (go_at_call 18; (with_reducible refine (HN.out _).mono ?_); rintro e w2 ⟨rfl, hb2⟩; have HX2 : Hid (Below w.heap.size w w2) := Lib.hid (below_step (below1 w _) hb2); have H2 := Lib.hid (H1.out.through hb2); have c24 := H2.out.cellAt (i := 4) rfl; have c25 := H2.out.cellAt (i := 5) rfl; clear hb2))
                  go_ret
                  exact ⟨ret_b HV.out.symm, HX2.out⟩
                case pos =>
                  have d7 : decide (((x.po).length : Int) ≤ 200) = true := by simp; omega
                  by_cases h8 : x.pa.length ≤ 200
                  case neg =>
                    have d8 : decide (((x.pa).length : Int) ≤ 200) = false := by simp; omega
                    have hv : ltOk x = false := by rw [ltOk_eq]; simp [h8]
                    have HV := Lib.hid hv
                    clear hv
                    go_enter Try.func44, Try.ntmps44
                    go_wp2_with (first
                      | (go_at_call 41; (with_reducible refine (HM.out _).mono ?_); rintro e w1 ⟨rfl, rfl⟩)
                      | (go_at_call 18; (with_reducible refine (HN.out _).mono ?_); rintro e w2 ⟨rfl, hb2⟩; have HX2 : Hid (Below w.heap.size w w2) := Lib.hid (below_step (below1 w _) hb2); have H2 := Lib.hid (H1.out.through hb2); have c24 := H2.out.cellAt (i := 4) rfl; have c25 := H2.out.cellAt (i := 5) rfl; clear hb2))
                    go_ret
                    exact ⟨ret_b HV.out.symm, HX2.out⟩
                  case pos =>
                    have d8 : decide (((x.pa).length : Int) ≤ 200) = true := by simp; omega
                    have hv : ltOk x = true := by rw [ltOk_eq]; simp [h0, h1, h2, h3, h4, h5, h6, h7, h8]
                    have HV := Lib.hid hv
                    clear hv
                    go_enter Try.func44, Try.ntmps44
                    go_wp2_with (first
                      | (go_at_call 41; (with_reducible refine (HM.out _).mono ?_); rintro e w1 ⟨rfl, rfl⟩)
                      | (go_at_call 18; (with_reducible refine (HN.out _).mono ?_); rintro e w2 ⟨rfl, hb2⟩; have HX2 : Hid (Below w.heap.size w w2) := Lib.hid (below_step (below1 w _) hb2); have H2 := Lib.hid (H1.out.through hb2); have c24 := H2.out.cellAt (i := 4) rfl; have c25 := H2.out.cellAt (i := 5) rfl; clear hb2))
                    go_ret
                    exact ⟨ret_b HV.out.symm, HX2.out⟩

set_option maxHeartbeats 16000000 in
set_option maxRecDepth 100000 in
theorem maybetold_any (x : Oc) (w : World) :
    Calls Try.prog 47 #[.agg #[.int .i64 x.cl, .int .i64 x.sp, .int .i64 x.rs]] w fun e w' => e = .returned (.bool (ocOk x)) ∧ Below w.heap.size w w' := by
  by_cases h0 : 0 ≤ x.cl
  case neg =>
    have d0 : decide (0 ≤ x.cl) = false := by simpa using h0
    have hv : ocOk x = false := by simp [ocOk, h0]
    have HV := Lib.hid hv
    clear hv
    go_enter Try.func47, Try.ntmps47
    go_wp2
    go_ret
    exact ⟨ret_b HV.out.symm, below1 w _⟩
  case pos =>
    have d0 : decide (0 ≤ x.cl) = true := by simpa using h0
    by_cases h1 : x.cl ≤ 63
    case neg =>
      have d1 : decide (x.cl ≤ 63) = false := by simpa using h1
      have hv : ocOk x = false := by simp [ocOk, h1]
      have HV := Lib.hid hv
      clear hv
      go_enter Try.func47, Try.ntmps47
      go_wp2
      go_ret
      exact ⟨ret_b HV.out.symm, below1 w _⟩
    case pos =>
      have d1 : decide (x.cl ≤ 63) = true := by simpa using h1
      by_cases h2 : 1 ≤ x.sp
      case neg =>
        have d2 : decide (1 ≤ x.sp) = false := by simpa using h2
        have hv : ocOk x = false := by simp [ocOk, h2]
        have HV := Lib.hid hv
        clear hv
        go_enter Try.func47, Try.ntmps47
        go_wp2
        go_ret
        exact ⟨ret_b HV.out.symm, below1 w _⟩
      case pos =>
        have d2 : decide (1 ≤ x.sp) = true := by simpa using h2
        by_cases h3 : x.sp ≤ 1099511627776
        case neg =>
          have d3 : decide (x.sp ≤ 1099511627776) = false := by simpa using h3
          have hv : ocOk x = false := by simp [ocOk, h3]
          have HV := Lib.hid hv
          clear hv
          go_enter Try.func47, Try.ntmps47
          go_wp2
          go_ret
          exact ⟨ret_b HV.out.symm, below1 w _⟩
        case pos =>
          have d3 : decide (x.sp ≤ 1099511627776) = true := by simpa using h3
          by_cases h4 : 0 ≤ x.rs
          case neg =>
            have d4 : decide (0 ≤ x.rs) = false := by simpa using h4
            have hv : ocOk x = false := by simp [ocOk, h4]
            have HV := Lib.hid hv
            clear hv
            go_enter Try.func47, Try.ntmps47
            go_wp2
            go_ret
            exact ⟨ret_b HV.out.symm, below1 w _⟩
          case pos =>
            have d4 : decide (0 ≤ x.rs) = true := by simpa using h4
            by_cases h5 : x.rs ≤ 99
            case neg =>
              have d5 : decide (x.rs ≤ 99) = false := by simpa using h5
              have hv : ocOk x = false := by simp [ocOk, h5]
              have HV := Lib.hid hv
              clear hv
              go_enter Try.func47, Try.ntmps47
              go_wp2
              go_ret
              exact ⟨ret_b HV.out.symm, below1 w _⟩
            case pos =>
              have d5 : decide (x.rs ≤ 99) = true := by simpa using h5
              have hv : ocOk x = true := by simp [ocOk, h0, h1, h2, h3, h4, h5]
              have HV := Lib.hid hv
              clear hv
              go_enter Try.func47, Try.ntmps47
              go_wp2
              go_ret
              exact ⟨ret_b HV.out.symm, below1 w _⟩

theorem ixF_all {α : Type} {p : α → Bool} {l : List α} : (!decide (0 ≤ ixF (fun x => !p x) l)) = l.all p := by
  cases h : l.findIdx? (fun x => !p x) with
  | some i =>
    have h1 : ixF (fun x => !p x) l = (i : Int) := by unfold ixF; rw [h]
    obtain ⟨_, x, h2, h3⟩ := findIdx_of_some h
    have h4 : l.all p = false := by
      rw [List.all_eq_false]
      exact ⟨x, List.mem_of_getElem? h2, by simpa using h3⟩
    rw [h1, h4]
    simp
  | none =>
    have h1 : ixF (fun x => !p x) l = -1 := by unfold ixF; rw [h]
    rw [List.findIdx?_eq_none_iff] at h
    have h4 : l.all p = true := by
      rw [List.all_eq_true]
      exact fun x hx => by simpa using h x hx
    rw [h1, h4]
    simp

set_option maxHeartbeats 4000000 in
theorem isnotL_any (x : Lt) (gk : Nat) (w : World) (hb : Blk w gk 69 [.func (.func 44) #[] #[]]) (hx : x.nm.length ≤ 140737488355328) :
    Calls Try.prog 73 #[.agg #[.string (ba x.nm), .int .i64 x.st, .int .i64 x.am, .int .i64 x.du, .string (ba x.po), .string (ba x.pa)], .pointer (some ⟨gk, 0, none⟩)] w fun e w' => e = .returned (.bool (!ltOk x)) ∧ Below w.heap.size w w' := by
  have c0 := (hb.alloc (.cells #[.string (ba x.nm), .int .i64 x.st, .int .i64 x.am, .int .i64 x.du, .string (ba x.po), .string (ba x.pa)] 27)).cellAt (i := 0) rfl
  clear hb
  go_enter Try.func73, Try.ntmps73
  go_wp2_with (go_at_call 44; (with_reducible refine (maystand_any x _ hx).mono ?_); rintro e w1 ⟨rfl, hb1⟩; have HX1 : Hid (Below w.heap.size w w1) := Lib.hid ((below1 w _).trans (hb1.mono (by simp))); clear hb1)
  go_ret
  exact ⟨rfl, HX1.out⟩

set_option maxHeartbeats 4000000 in
set_option maxRecDepth 100000 in
theorem idxAL_any (ls : List Lt) (A : Option Addr) (n c : Nat) (gk : Nat) (w : World) (h : Sl w 6 A n (ls.map Lt.cells)) (hn : n ≤ 1000000) (hb : Blk w gk 69 [.func (.func 44) #[] #[]]) (hx : ∀ x ∈ ls, x.nm.length ≤ 140737488355328)  :
    Calls Try.prog 86 #[.slice A n c, .func (.func 73) #[] #[.pointer (some ⟨gk, 0, none⟩)]] w fun e w' => e = .returned (.int .i64 (ixF (fun x : Lt => !ltOk x) ls)) ∧ Below w.heap.size w w' := by
  have HI := Lib.hid h
  have hlen : ls.length = n := by simpa using h.len
  have HLn := Lib.hid hlen
  have HIX := Lib.hid Try.ix_lt
  have hcall : ∀ (W : World) (x : Lt), x ∈ ls → Below w.heap.size w W → Calls Try.prog 73 #[.agg #[.string (ba x.nm), .int .i64 x.st, .int .i64 x.am, .int .i64 x.du, .string (ba x.po), .string (ba x.pa)], .pointer (some ⟨gk, 0, none⟩)] W fun e w' => e = .returned (.bool ((fun x : Lt => !ltOk x) x)) ∧ Below W.heap.size W w' := fun W x hx2 hW => isnotL_any x gk W (hb.through hW) (hx x hx2)
  have HC := Lib.hid hcall
  obtain ⟨pr, hpr⟩ : ∃ pr : Lt → Bool, (fun x : Lt => !ltOk x) = pr := ⟨_, rfl⟩
  rw [hpr] at HC ⊢
  clear hpr
  obtain ⟨bb, hbb⟩ : ∃ bb, ixF pr ls = bb := ⟨_, rfl⟩
  rw [hbb]
  have HBB := Lib.hid hbb
  clear h hbb hlen hcall
  go_enter Try.func86, Try.ntmps86
  go_wp2
  go_loopw [8] (fun iv wr => ∃ i : Nat, i ≤ n ∧ iv = .int .i64 i ∧ (∀ (j : Nat) (y : Lt), j < i → ls[j]? = some y → pr y = false) ∧ Below w.heap.size w wr) (fun iv _ => n - (intOf iv).toNat)
  case atStart => exact ⟨0, Nat.zero_le _, rfl, fun j y hj _ => absurd hj (Nat.not_lt_zero _), Below.refl _ _⟩
  case round =>
    obtain ⟨i, hi, rfl, hp, hx⟩ := hrel
    have HX := Lib.hid hx
    have HP := Lib.hid hp
    clear hx hp
    by_cases hlt : i < n
    · obtain ⟨g, o, x, rfl, hxi, hmem, hd, hrx⟩ := (HI.out.through HX.out).at_lt hlt
      have HRx := Lib.hid hrx
      have hix := HIX.out wr g o n c i hlt
      have hc := fun W hW => HC.out W x hmem hW
      have HXi := Lib.hid hxi
      clear hrx hd hmem hxi
      cases hq : pr x with
      | true =>
        rw [hq] at hc
        have HC2 := Lib.hid hc
        have HE : Hid (ixF pr ls = (i : Int)) := Lib.hid (by unfold ixF; rw [findIdx?_of HXi.out hq HP.out])
        clear hc hq
        go_wp2_with (first
          | (refine wpList_load_mid rfl 27 (.tmp 14) rfl g (o + i * 6) rfl [.string (ba x.nm), .int .i64 x.st, .int .i64 x.am, .int .i64 x.du, .string (ba x.po), .string (ba x.pa)] _ HRx.out Try.underlying27 rfl (by kernel_rfl) ?_)
          | (go_at_call 73; (with_reducible refine (HC2.out _ HX.out).mono ?_); rintro e w5 ⟨rfl, hb5⟩; have HX5 : Hid (Below w.heap.size w w5) := Lib.hid (below_step HX.out hb5); clear hb5))
        go_ret
        exact ⟨ret_i (by rw [← HBB.out, HE.out]), HX5.out⟩
      | false =>
        rw [hq] at hc
        have HC2 := Lib.hid hc
        have HQ := Lib.hid hq
        clear hc hq
        go_wp2_with (first
          | (refine wpList_load_mid rfl 27 (.tmp 14) rfl g (o + i * 6) rfl [.string (ba x.nm), .int .i64 x.st, .int .i64 x.am, .int .i64 x.du, .string (ba x.po), .string (ba x.pa)] _ HRx.out Try.underlying27 rfl (by kernel_rfl) ?_)
          | (go_at_call 73; (with_reducible refine (HC2.out _ HX.out).mono ?_); rintro e w5 ⟨rfl, hb5⟩; have HX5 : Hid (Below w.heap.size w w5) := Lib.hid (below_step HX.out hb5); clear hb5))
        go_roundw
        case rel => exact ⟨i + 1, by omega, by go_num, fun j y hj hy => (Nat.lt_or_ge j i).elim (fun h9 => HP.out j y h9 hy) (fun h9 => by
          have h8 : j = i := by omega
          subst h8
          rw [HXi.out] at hy
          injection hy with hy
          rw [← hy]
          exact HQ.out), HX5.out⟩
        case measure => simp [intOf]; omega
    · have HE : Hid (ixF pr ls = -1) := Lib.hid (by
        unfold ixF
        rw [findIdx?_none_of fun x hx => by
          obtain ⟨j, hj, rfl⟩ := List.mem_iff_getElem.1 hx
          exact HP.out j _ (by have := HLn.out; omega) (List.getElem?_eq_getElem hj)])
      go_wp2
      go_ret
      exact ⟨ret_i (by rw [← HBB.out, HE.out]), HX.out⟩

set_option maxHeartbeats 4000000 in
theorem containsL_any (ls : List Lt) (A : Option Addr) (n c : Nat) (gk : Nat) (w : World) (h : Sl w 6 A n (ls.map Lt.cells)) (hn : n ≤ 1000000) (hb : Blk w gk 69 [.func (.func 44) #[] #[]]) (hx : ∀ x ∈ ls, x.nm.length ≤ 140737488355328) :
    Calls Try.prog 72 #[.slice A n c, .func (.func 73) #[] #[.pointer (some ⟨gk, 0, none⟩)]] w fun e w' => e = .returned (.bool (decide (0 ≤ ixF (fun x : Lt => !ltOk x) ls))) ∧ Below w.heap.size w w' := by
  go_enter Try.func72, Try.ntmps72
  go_wp2_with (go_at_call 86; (with_reducible refine (idxAL_any ls A n c gk w h hn hb hx).mono ?_); rintro e w1 ⟨rfl, hb1⟩; have HX1 := Lib.hid hb1; clear hb1; generalize hq : ixF (fun x : Lt => !ltOk x) ls = q; have HQ := Lib.hid hq; clear hq)
  go_ret
  exact ⟨by rw [HQ.out]; rfl, HX1.out⟩

set_option maxHeartbeats 4000000 in
theorem allL_any (ls : List Lt) (A : Option Addr) (n c : Nat) (w : World) (h : Sl w 6 A n (ls.map Lt.cells)) (hn : n ≤ 1000000) (hx : ∀ x ∈ ls, x.nm.length ≤ 140737488355328) :
    Calls Try.prog 43 #[.slice A n c, .func (.func 44) #[] #[]] w fun e w' => e = .returned (.bool (ls.all ltOk)) ∧ Below w.heap.size w w' := by
  rw [← ixF_all]
  go_enter Try.func43, Try.ntmps43
  go_wp2_with (go_at_call 72; (with_reducible refine (containsL_any ls A n c w.heap.size _ (h.alloc (.cells #[.func (.func 44) #[] #[]] 69)) hn (Blk.fresh rfl rfl) hx).mono ?_); rintro e w1 ⟨rfl, hb1⟩; have HX1 : Hid (Below w.heap.size w w1) := Lib.hid ((below1 w _).trans (hb1.mono (by simp))); clear hb1; generalize hq : decide (0 ≤ ixF (fun x : Lt => !ltOk x) ls) = q; have HQ := Lib.hid hq; clear hq)
  go_ret
  exact ⟨by rw [HQ.out]; rfl, HX1.out⟩

set_option maxHeartbeats 4000000 in
theorem isnotO_any (x : Oc) (gk : Nat) (w : World) (hb : Blk w gk 72 [.func (.func 47) #[] #[]]) :
    Calls Try.prog 75 #[.agg #[.int .i64 x.cl, .int .i64 x.sp, .int .i64 x.rs], .pointer (some ⟨gk, 0, none⟩)] w fun e w' => e = .returned (.bool (!ocOk x)) ∧ Below w.heap.size w w' := by
  have c0 := (hb.alloc (.cells #[.int .i64 x.cl, .int .i64 x.sp, .int .i64 x.rs] 30)).cellAt (i := 0) rfl
  clear hb
  go_enter Try.func75, Try.ntmps75
  go_wp2_with (go_at_call 47; (with_reducible refine (maybetold_any x _).mono ?_); rintro e w1 ⟨rfl, hb1⟩; have HX1 : Hid (Below w.heap.size w w1) := Lib.hid ((below1 w _).trans (hb1.mono (by simp))); clear hb1)
  go_ret
  exact ⟨rfl, HX1.out⟩

set_option maxHeartbeats 4000000 in
set_option maxRecDepth 100000 in
theorem idxAO_any (ls : List Oc) (A : Option Addr) (n c : Nat) (gk : Nat) (w : World) (h : Sl w 3 A n (ls.map Oc.cells)) (hn : n ≤ 1000000) (hb : Blk w gk 72 [.func (.func 47) #[] #[]])  :
    Calls Try.prog 93 #[.slice A n c, .func (.func 75) #[] #[.pointer (some ⟨gk, 0, none⟩)]] w fun e w' => e = .returned (.int .i64 (ixF (fun x : Oc => !ocOk x) ls)) ∧ Below w.heap.size w w' := by
  have HI := Lib.hid h
  have hlen : ls.length = n := by simpa using h.len
  have HLn := Lib.hid hlen
  have HIX := Lib.hid Try.ix_oc
  have hcall : ∀ (W : World) (x : Oc), x ∈ ls → Below w.heap.size w W → Calls Try.prog 75 #[.agg #[.int .i64 x.cl, .int .i64 x.sp, .int .i64 x.rs], .pointer (some ⟨gk, 0, none⟩)] W fun e w' => e = .returned (.bool ((fun x : Oc => !ocOk x) x)) ∧ Below W.heap.size W w' := fun W x hx2 hW => isnotO_any x gk W (hb.through hW)
  have HC := Lib.hid hcall
  obtain ⟨pr, hpr⟩ : ∃ pr : Oc → Bool, (fun x : Oc => !ocOk x) = pr := ⟨_, rfl⟩
  rw [hpr] at HC ⊢
  clear hpr
  obtain ⟨bb, hbb⟩ : ∃ bb, ixF pr ls = bb := ⟨_, rfl⟩
  rw [hbb]
  have HBB := Lib.hid hbb
  clear h hbb hlen hcall
  go_enter Try.func93, Try.ntmps93
  go_wp2
  go_loopw [8] (fun iv wr => ∃ i : Nat, i ≤ n ∧ iv = .int .i64 i ∧ (∀ (j : Nat) (y : Oc), j < i → ls[j]? = some y → pr y = false) ∧ Below w.heap.size w wr) (fun iv _ => n - (intOf iv).toNat)
  case atStart => exact ⟨0, Nat.zero_le _, rfl, fun j y hj _ => absurd hj (Nat.not_lt_zero _), Below.refl _ _⟩
  case round =>
    obtain ⟨i, hi, rfl, hp, hx⟩ := hrel
    have HX := Lib.hid hx
    have HP := Lib.hid hp
    clear hx hp
    by_cases hlt : i < n
    · obtain ⟨g, o, x, rfl, hxi, hmem, hd, hrx⟩ := (HI.out.through HX.out).at_oc hlt
      have HRx := Lib.hid hrx
      have hix := HIX.out wr g o n c i hlt
      have hc := fun W hW => HC.out W x hmem hW
      have HXi := Lib.hid hxi
      clear hrx hd hmem hxi
      cases hq : pr x with
      | true =>
        rw [hq] at hc
        have HC2 := Lib.hid hc
        have HE : Hid (ixF pr ls = (i : Int)) := Lib.hid (by unfold ixF; rw [findIdx?_of HXi.out hq HP.out])
        clear hc hq
        go_wp2_with (first
          | (refine wpList_load_mid rfl 30 (.tmp 14) rfl g (o + i * 3) rfl [.int .i64 x.cl, .int .i64 x.sp, .int .i64 x.rs] _ HRx.out Try.underlying30 rfl (by kernel_rfl) ?_)
          | (go_at_call 75; (with_reducible refine (HC2.out _ HX.out).mono ?_); rintro e w5 ⟨rfl, hb5⟩; have HX5 : Hid (Below w.heap.size w w5) := Lib.hid (below_step HX.out hb5); clear hb5))
        go_ret
        exact ⟨ret_i (by rw [← HBB.out, HE.out]), HX5.out⟩
      | false =>
        rw [hq] at hc
        have HC2 := Lib.hid hc
        have HQ := Lib.hid hq
        clear hc hq
        go_wp2_with (first
          | (refine wpList_load_mid rfl 30 (.tmp 14) rfl g (o + i * 3) rfl [.int .i64 x.cl, .int .i64 x.sp, .int .i64 x.rs] _ HRx.out Try.underlying30 rfl (by kernel_rfl) ?_)
          | (go_at_call 75; (with_reducible refine (HC2.out _ HX.out).mono ?_); rintro e w5 ⟨rfl, hb5⟩; have HX5 : Hid (Below w.heap.size w w5) := Lib.hid (below_step HX.out hb5); clear hb5))
        go_roundw
        case rel => exact ⟨i + 1, by omega, by go_num, fun j y hj hy => (Nat.lt_or_ge j i).elim (fun h9 => HP.out j y h9 hy) (fun h9 => by
          have h8 : j = i := by omega
          subst h8
          rw [HXi.out] at hy
          injection hy with hy
          rw [← hy]
          exact HQ.out), HX5.out⟩
        case measure => simp [intOf]; omega
    · have HE : Hid (ixF pr ls = -1) := Lib.hid (by
        unfold ixF
        rw [findIdx?_none_of fun x hx => by
          obtain ⟨j, hj, rfl⟩ := List.mem_iff_getElem.1 hx
          exact HP.out j _ (by have := HLn.out; omega) (List.getElem?_eq_getElem hj)])
      go_wp2
      go_ret
      exact ⟨ret_i (by rw [← HBB.out, HE.out]), HX.out⟩

set_option maxHeartbeats 4000000 in
theorem containsO_any (ls : List Oc) (A : Option Addr) (n c : Nat) (gk : Nat) (w : World) (h : Sl w 3 A n (ls.map Oc.cells)) (hn : n ≤ 1000000) (hb : Blk w gk 72 [.func (.func 47) #[] #[]]) :
    Calls Try.prog 74 #[.slice A n c, .func (.func 75) #[] #[.pointer (some ⟨gk, 0, none⟩)]] w fun e w' => e = .returned (.bool (decide (0 ≤ ixF (fun x : Oc => !ocOk x) ls))) ∧ Below w.heap.size w w' := by
  go_enter Try.func74, Try.ntmps74
  go_wp2_with (go_at_call 93; (with_reducible refine (idxAO_any ls A n c gk w h hn hb).mono ?_); rintro e w1 ⟨rfl, hb1⟩; have HX1 := Lib.hid hb1; clear hb1; generalize hq : ixF (fun x : Oc => !ocOk x) ls = q; have HQ := Lib.hid hq; clear hq)
  go_ret
  exact ⟨by rw [HQ.out]; rfl, HX1.out⟩

set_option maxHeartbeats 4000000 in
theorem allO_any (ls : List Oc) (A : Option Addr) (n c : Nat) (w : World) (h : Sl w 3 A n (ls.map Oc.cells)) (hn : n ≤ 1000000) :
    Calls Try.prog 46 #[.slice A n c, .func (.func 47) #[] #[]] w fun e w' => e = .returned (.bool (ls.all ocOk)) ∧ Below w.heap.size w w' := by
  rw [← ixF_all]
  go_enter Try.func46, Try.ntmps46
  go_wp2_with (go_at_call 74; (with_reducible refine (containsO_any ls A n c w.heap.size _ (h.alloc (.cells #[.func (.func 47) #[] #[]] 72)) hn (Blk.fresh rfl rfl)).mono ?_); rintro e w1 ⟨rfl, hb1⟩; have HX1 : Hid (Below w.heap.size w w1) := Lib.hid ((below1 w _).trans (hb1.mono (by simp))); clear hb1; generalize hq : decide (0 ≤ ixF (fun x : Oc => !ocOk x) ls) = q; have HQ := Lib.hid hq; clear hq)
  go_ret
  exact ⟨by rw [HQ.out]; rfl, HX1.out⟩

end Go.Proofs.Ytkbeodlihmmdbaa
