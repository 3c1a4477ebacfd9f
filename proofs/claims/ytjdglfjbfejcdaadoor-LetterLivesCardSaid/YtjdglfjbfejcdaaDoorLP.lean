/-
  What each step does, walked: the program's present, apply, amend, expiry; the document's apply, amend.
-/
import Derived.Test.YtjdglfjbfejcdaaDoorLN
namespace Go.Proofs.YtjdglfjbfejcdaaDoor
open Go.RowKit

theorem results_cell_row_tmp1 {P : Program} {fn : Func} {p u : Tmp} {ty : TypeId} (h : fn.results = #[.cell p ty, .tmp u]) (tmps : Array Value) (w : World) (g : Nat) (t : TypeId) (cs : Array Value) (fr : Nat × Nat) (d : TypeDesc)
    (hp : tmps.getD p undef = .pointer (some ⟨g, 0, none⟩)) (hg : w.heap[g]? = some (.cells cs t fr))
    (hu : P.underlying ty = some d) (hd : (match d with | .struct _ | .array _ _ => true | _ => false) = true) (hi : (P.info? ty).map (·.size) = some cs.size) :
    (results fn tmps).run P w = .ok (.tuple #[.agg cs, tmps.getD u undef]) w := by
  have hp' : tmps[p]?.getD undef = .pointer (some ⟨g, 0, none⟩) := by simpa using hp
  simp [results, h, hp', asAddr, run_loadVar_row w g t ty cs fr d hg hu hd hi]
theorem fin1 (w : World) (A : Obj) : (w.alloc A).heap[w.heap.size]? = some A := heap_alloc_new w A
theorem fin2 (w : World) (A B : Obj) : ((w.alloc A).alloc B).heap[w.heap.size + 1]? = some B := by have := heap_alloc_new (w.alloc A) B; simpa using this
theorem below1 (w : World) (A : Obj) : Below w.heap.size w (w.alloc A) := (Below.refl _ w).alloc (Nat.le_refl _) A
theorem below2 (w : World) (A B : Obj) : Below w.heap.size w ((w.alloc A).alloc B) := (below1 w A).alloc (by simp) B
theorem Tryd.zero_lt (w : World) : (zeroValue 23).run Tryd.prog w = .ok (.agg #[.string (ba []), .int .i64 0, .int .i64 0, .int .i64 0, .string (ba []), .string (ba [])]) w := by kernel_rfl
theorem Tryd.build_no (w : World) : (Instr.build 23 #[]).run Tryd.prog w = .ok (.agg #[.string (ba []), .int .i64 0, .int .i64 0, .int .i64 0, .string (ba []), .string (ba [])]) w := by kernel_rfl
theorem Tryd.build_lt (nm po : ByteArray) (am du : Int) (w : World) : (Instr.build 23 #[(0, .string nm), (2, .int .i64 am), (3, .int .i64 du), (4, .string po)]).run Tryd.prog w = .ok (.agg #[.string nm, .int .i64 0, .int .i64 am, .int .i64 du, .string po, .string (ba [])]) w := by kernel_rfl

set_option maxHeartbeats 4000000 in
theorem present_any (l : Lt) (t : List UInt8) (w : World) : Calls Tryd.prog 19 #[l.val, .string (ba t)] w fun e w' => e = .returned (ltE (presentL l t)) ∧ Below w.heap.size w w' := by
  obtain ⟨nm, st, am, du, po, pa⟩ := l
  have hsz := ba_size
  have hz := Tryd.zero_lt
  unfold presentL Lt.val
  by_cases hl : 200 < t.length
  · rw [if_pos hl]
    go_enter Tryd.func19, Tryd.ntmps19
    go_wp2
    exact bodyPost_ret (results_cell_row_tmp1 rfl _ _ (w.heap.size + 1) 23 _ (0, 0) _ rfl (fin2 w _ _) Tryd.underlying23 rfl (by kernel_rfl)) rfl ⟨rfl, below2 w _ _⟩
  · rw [if_neg hl]
    go_enter Tryd.func19, Tryd.ntmps19
    go_wp2
    exact bodyPost_ret (results_cell_row_tmp1 rfl _ _ (w.heap.size + 1) 23 _ (0, 0) _ rfl (fin2 w _ _) Tryd.underlying23 rfl (by kernel_rfl)) rfl ⟨rfl, below2 w _ _⟩

set_option maxHeartbeats 4000000 in
theorem apply_any (nm : List UInt8) (a b : Int) (t : List UInt8) (w : World) : Calls Tryd.prog 17 #[.string (ba nm), .int .i64 a, .int .i64 b, .string (ba t)] w fun e w' => e = .returned (ltE (applyL nm a b t)) ∧ Below w.heap.size w w' := by
  have hsz := ba_size
  have hz := Tryd.zero_lt
  have hbn := Tryd.build_no
  have hbl := Tryd.build_lt
  have hm : ∀ W, Calls Tryd.prog 22 #[.int .i64 a] W fun e w' => e = .returned (.bool (isM a)) ∧ w' = W := fun W => is_any a W
  have hd : ∀ W, Calls Tryd.prog 23 #[.int .i64 b] W fun e w' => e = .returned (.bool (isM b)) ∧ w' = W := fun W => isday_any b W
  unfold applyL
  have HM := Lib.hid hm
  have HD := Lib.hid hd
  clear hm hd
  by_cases hl : 200 < t.length
  · rw [if_pos hl]
    clear HM HD
    go_enter Tryd.func17, Tryd.ntmps17
    go_wp2
    exact bodyPost_ret (results_cell_row_tmp1 rfl _ _ w.heap.size 23 _ (0, 0) _ rfl (fin1 w _) Tryd.underlying23 rfl (by kernel_rfl)) rfl ⟨rfl, below1 w _⟩
  rw [if_neg hl]
  by_cases ha : a < 1
  · rw [if_pos ha]
    clear HM HD
    go_enter Tryd.func17, Tryd.ntmps17
    go_wp2
    exact bodyPost_ret (results_cell_row_tmp1 rfl _ _ w.heap.size 23 _ (0, 0) _ rfl (fin1 w _) Tryd.underlying23 rfl (by kernel_rfl)) rfl ⟨rfl, below1 w _⟩
  rw [if_neg ha]
  have hm := HM.out
  have hd := HD.out
  clear HM HD
  cases ham : isM a <;> rw [ham] at hm <;> cases hbm : isM b <;> rw [hbm] at hd
  all_goals
    simp only [if_true, if_false, Bool.true_eq_false]
    have HM := Lib.hid hm
    have HD := Lib.hid hd
    clear hm hd ham hbm
    go_enter Tryd.func17, Tryd.ntmps17
    go_wp2_with (first
      | (go_at_call 22; (with_reducible refine (HM.out _).mono ?_); rintro e w1 ⟨rfl, rfl⟩)
      | (go_at_call 23; (with_reducible refine (HD.out _).mono ?_); rintro e w1 ⟨rfl, rfl⟩))
    exact bodyPost_ret (results_cell_row_tmp1 rfl _ _ w.heap.size 23 _ (0, 0) _ rfl (fin1 w _) Tryd.underlying23 rfl (by kernel_rfl)) rfl ⟨rfl, below1 w _⟩

set_option maxHeartbeats 4000000 in
theorem expiry_any (du a : Int) (w : World) : Calls Tryd.prog 20 #[.int .i64 du, .int .i64 a] w fun e w' => e = .returned (.int .i64 (expiryL du a)) ∧ w' = w := by
  have hd := isday_any a w
  unfold expiryL
  cases ham : isM a <;> rw [ham] at hd
  · simp only [if_true]
    clear ham
    go_enter Tryd.func20, Tryd.ntmps20
    go_wp2_with (go_at_call 23; (with_reducible refine hd.mono ?_); rintro e w1 ⟨rfl, rfl⟩)
    go_ret
    exact ⟨rfl, rfl⟩
  · simp only [Bool.true_eq_false, if_false]
    clear ham
    by_cases hlt : a < du
    · rw [if_pos hlt]
      go_enter Tryd.func20, Tryd.ntmps20
      go_wp2_with (go_at_call 23; (with_reducible refine hd.mono ?_); rintro e w1 ⟨rfl, rfl⟩)
      go_ret
      exact ⟨rfl, rfl⟩
    · rw [if_neg hlt]
      go_enter Tryd.func20, Tryd.ntmps20
      go_wp2_with (go_at_call 23; (with_reducible refine hd.mono ?_); rintro e w1 ⟨rfl, rfl⟩)
      go_ret
      exact ⟨rfl, rfl⟩

set_option maxHeartbeats 4000000 in
theorem amend_any (l : Lt) (a b : Int) (w : World) : Calls Tryd.prog 18 #[l.val, .int .i64 a, .int .i64 b] w fun e w' => e = .returned (ltE (amendL l a b)) ∧ Below w.heap.size w w' := by
  obtain ⟨nm, st, am, du, po, pa⟩ := l
  have hz := Tryd.zero_lt
  have hbn := Tryd.build_no
  have hc : ∀ W, Calls Tryd.prog 24 #[.int .i64 am, .int .i64 a] W fun e w' => e = .returned (two (chgM am a)) ∧ w' = W := fun W => chg_any am a W
  have hd : ∀ W, Calls Tryd.prog 23 #[.int .i64 b] W fun e w' => e = .returned (.bool (isM b)) ∧ w' = W := fun W => isday_any b W
  unfold amendL Lt.val
  simp only
  unfold two at hc
  generalize (chgM am a).1 = x at *
  generalize (chgM am a).2 = y at *
  by_cases hy : y = 0
  · subst hy
    simp only [ne_eq, not_true_eq_false, if_false]
    by_cases hx : x = 0
    · subst hx
      simp only [if_true]
      have HC := Lib.hid hc
      clear hc hd
      go_enter Tryd.func18, Tryd.ntmps18
      go_wp2_with (go_at_call 24; (with_reducible refine (HC.out _).mono ?_); rintro e w1 ⟨rfl, rfl⟩)
      exact bodyPost_ret (results_cell_row_tmp1 rfl _ _ (w.heap.size + 1) 23 _ (0, 0) _ rfl (fin2 w _ _) Tryd.underlying23 rfl (by kernel_rfl)) rfl ⟨rfl, below2 w _ _⟩
    · simp only [if_neg hx]
      have hxb : (x == 0) = false := by simpa using hx
      clear hx
      cases hbm : isM b <;> rw [hbm] at hd
      · simp only [if_true]
        have HC := Lib.hid hc
        have HD := Lib.hid hd
        clear hc hd hbm
        go_enter Tryd.func18, Tryd.ntmps18
        go_wp2_with (first
          | (go_at_call 24; (with_reducible refine (HC.out _).mono ?_); rintro e w1 ⟨rfl, rfl⟩)
          | (go_at_call 23; (with_reducible refine (HD.out _).mono ?_); rintro e w1 ⟨rfl, rfl⟩))
        exact bodyPost_ret (results_cell_row_tmp1 rfl _ _ (w.heap.size + 1) 23 _ (0, 0) _ rfl (fin2 w _ _) Tryd.underlying23 rfl (by kernel_rfl)) rfl ⟨rfl, below2 w _ _⟩
      · simp only [Bool.true_eq_false, if_false]
        have HC := Lib.hid hc
        have HD := Lib.hid hd
        clear hc hd hbm
        by_cases hb0 : b = 0
        · subst hb0
          simp only [if_true]
          go_enter Tryd.func18, Tryd.ntmps18
          go_wp2_with (first
            | (go_at_call 24; (with_reducible refine (HC.out _).mono ?_); rintro e w1 ⟨rfl, rfl⟩)
            | (go_at_call 23; (with_reducible refine (HD.out _).mono ?_); rintro e w1 ⟨rfl, rfl⟩))
          exact bodyPost_ret (results_cell_row_tmp1 rfl _ _ (w.heap.size + 1) 23 _ (0, 0) _ rfl (fin2 w _ _) Tryd.underlying23 rfl (by kernel_rfl)) rfl ⟨rfl, below2 w _ _⟩
        · simp only [if_neg hb0]
          have hbb : (b == 0) = false := by simpa using hb0
          clear hb0
          go_enter Tryd.func18, Tryd.ntmps18
          go_wp2_with (first
            | (go_at_call 24; (with_reducible refine (HC.out _).mono ?_); rintro e w1 ⟨rfl, rfl⟩)
            | (go_at_call 23; (with_reducible refine (HD.out _).mono ?_); rintro e w1 ⟨rfl, rfl⟩))
          exact bodyPost_ret (results_cell_row_tmp1 rfl _ _ (w.heap.size + 1) 23 _ (0, 0) _ rfl (fin2 w _ _) Tryd.underlying23 rfl (by kernel_rfl)) rfl ⟨rfl, below2 w _ _⟩
  · simp only [ne_eq, hy, not_false_eq_true, if_true]
    have hyb : (y == 0) = false := by simpa using hy
    have HC := Lib.hid hc
    clear hc hd hy
    go_enter Tryd.func18, Tryd.ntmps18
    go_wp2_with (go_at_call 24; (with_reducible refine (HC.out _).mono ?_); rintro e w1 ⟨rfl, rfl⟩)
    exact bodyPost_ret (results_cell_row_tmp1 rfl _ _ (w.heap.size + 1) 23 _ (0, 0) _ rfl (fin2 w _ _) Tryd.underlying23 rfl (by kernel_rfl)) rfl ⟨rfl, below2 w _ _⟩

end Go.Proofs.YtjdglfjbfejcdaaDoor
