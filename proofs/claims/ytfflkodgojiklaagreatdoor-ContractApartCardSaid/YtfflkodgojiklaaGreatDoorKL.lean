/-
  Joined: LMon Lt LN LP LC LS LL.
-/
import Derived.Test.YtfflkodgojiklaaGreatDoorKP
namespace Go.Proofs.YtfflkodgojiklaaGreatDoor

section
open Go.RowKit
set_option maxHeartbeats 1000000 in
theorem is_any (a : Int) (w : World) : Calls Tryz.prog 65 #[.int .i64 a] w fun e w' => e = .returned (.bool (isM a)) ∧ w' = w := by
  go_enter Tryz.func65, Tryz.ntmps65
  go_wp2
  all_goals go_ret
  all_goals refine ⟨?_, rfl⟩
  all_goals (simp only [isM]; congr 2; simp <;> omega)

set_option maxHeartbeats 1000000 in
theorem ris_any (a : Int) (w : World) : Calls Tryz.prog 30 #[.int .i64 a] w fun e w' => e = .returned (.bool (isM a)) ∧ w' = w := by
  go_enter Tryz.func30, Tryz.ntmps30
  go_wp2
  all_goals go_ret
  all_goals refine ⟨?_, rfl⟩
  all_goals (simp only [isM]; congr 2; simp <;> omega)

set_option maxHeartbeats 1000000 in
theorem amount_any (a : Int) (w : World) : Calls Tryz.prog 66 #[.int .i64 a] w fun e w' => e = .returned (two (outM a)) ∧ w' = w := by
  have h1 := is_any a w
  unfold outM
  cases ha : isM a <;> rw [ha] at h1
  all_goals
    go_enter Tryz.func66, Tryz.ntmps66
    go_wp2_with (go_at_call 65; (with_reducible refine h1.mono ?_); rintro e w1 ⟨rfl, rfl⟩)
    go_ret2
    exact ⟨rfl, rfl⟩

set_option maxHeartbeats 1000000 in
theorem chg_any (a b : Int) (w : World) : Calls Tryz.prog 111 #[.int .i64 a, .int .i64 b] w fun e w' => e = .returned (two (chgM a b)) ∧ w' = w := by
  have h1 := is_any a w
  have h3 := amount_any (a + b) w
  unfold chgM
  cases ha : isM a <;> rw [ha] at h1 <;> cases hb : isBy b
  case' true.false => have ho := isBy_no hb
  case' true.true => have ho := isBy_yes hb; have ho2 := isM_yes ha
  case' true.false => rcases ho with ho | ho
  all_goals
    go_enter Tryz.func111, Tryz.ntmps111
    go_wp2_with (first
      | (go_at_call 65; (with_reducible refine h1.mono ?_); rintro e w1 ⟨rfl, rfl⟩)
      | (go_at_call 66; (with_reducible refine h3.mono ?_); rintro e w1 ⟨rfl, rfl⟩; simp only [two]))
    all_goals go_ret2
    all_goals exact ⟨rfl, rfl⟩
end

section
open Go.RowKit
/-- where a step leads -/
def nextL (st op : Int) : Int :=
  if op = 1 then (if st = 0 then 1 else 0)
  else if op = 2 then (if st = 1 then 2 else 0)
  else if op = 3 then (if st = 2 then 2 else 0)
  else if op = 4 then (if st = 2 then 3 else 0)
  else if op = 5 then (if st = 3 then 4 else 0)
  else if op = 6 then (if st = 3 then 2 else 0)
  else if op = 7 then (if st = 4 then 5 else 0)
  else if op = 8 then (if st = 1 then 6 else if st = 2 then 6 else if st = 3 then 6 else 0)
  else if op = 9 then (if st = 1 then 7 else if st = 2 then 7 else 0)
  else 0
/-- a step is one of these -/
theorem op_cases (op : Int) : op = 1 ∨ op = 2 ∨ op = 3 ∨ op = 4 ∨ op = 5 ∨ op = 6 ∨ op = 7 ∨ op = 8 ∨ op = 9 ∨ op < 1 ∨ 9 < op := by omega
theorem nextL_out {st op : Int} (h : op < 1 ∨ 9 < op) : nextL st op = 0 := by
  unfold nextL
  repeat rw [if_neg (by omega)]
theorem nextL_far {st op : Int} (h : st < 0 ∨ 7 < st) : nextL st op = 0 := by
  unfold nextL
  repeat' split
  all_goals first | rfl | omega
theorem nextL_rng (st op : Int) : 0 ≤ nextL st op ∧ nextL st op ≤ 7 := by
  unfold nextL
  repeat' split
  all_goals omega
/-- over -/
def overL (st : Int) : Bool := decide (5 ≤ st) && decide (st ≤ 7)
theorem over_next {st : Int} (op : Int) (h : overL st = true) : nextL st op = 0 := by
  simp [overL] at h
  unfold nextL
  repeat' split
  all_goals first | rfl | omega
theorem over_not {st : Int} (h : overL st = false) (h0 : 1 ≤ st) (h7 : st ≤ 7) : nextL st 8 ≠ 0 ∨ nextL st 7 ≠ 0 := by
  simp [overL] at h
  have : st = 1 ∨ st = 2 ∨ st = 3 ∨ st = 4 := by omega
  rcases this with rfl | rfl | rfl | rfl <;> decide

/-- what Apply does -/
def applyL (nm : List UInt8) (a b : Int) (t : List UInt8) : Lt × Int :=
  if 200 < t.length then (Lt.no, 3) else if a < 1 then (Lt.no, 5) else if isM a = false then (Lt.no, 6) else if isM b = false then (Lt.no, 5) else (⟨nm, 0, a, b, t, []⟩, 0)
/-- what Amend does -/
def amendL (l : Lt) (a b : Int) : Lt × Int :=
  if (chgM l.am a).2 ≠ 0 then (Lt.no, (chgM l.am a).2) else if (chgM l.am a).1 = 0 then (Lt.no, 5) else if isM b = false then (Lt.no, 5)
  else (⟨l.nm, l.st, (chgM l.am a).1, if b = 0 then l.du else b, l.po, l.pa⟩, 0)
/-- what Present does -/
def presentL (l : Lt) (t : List UInt8) : Lt × Int := if 200 < t.length then (Lt.no, 3) else (⟨l.nm, l.st, l.am, l.du, l.po, t⟩, 0)
/-- what Expire asks -/
def expiryL (du a : Int) : Int := if isM a = false then 5 else if a < du then 8 else 0
/-- what a step does beside the state -/
def changeL (l : Lt) (op a b : Int) (t : List UInt8) : Lt × Int :=
  if op = 1 then applyL l.nm a b t else if op = 3 then amendL l a b else if op = 4 then presentL l t
  else if op = 6 then (⟨l.nm, l.st, l.am, l.du, l.po, []⟩, 0) else if op = 8 then (l, expiryL l.du a) else (l, 0)
/-- a step -/
def stepL (l : Lt) (op a b : Int) (t : List UInt8) : Lt × Int :=
  if nextL l.st op = 0 then (Lt.no, if op < 1 ∨ 9 < op then 1 else 8)
  else if (changeL l op a b t).2 ≠ 0 then (Lt.no, (changeL l op a b t).2)
  else (⟨(changeL l op a b t).1.nm, nextL l.st op, (changeL l op a b t).1.am, (changeL l op a b t).1.du, (changeL l op a b t).1.po, (changeL l op a b t).1.pa⟩, 0)

/-- The table of states: ten rows of eight. -/
def leadsT : List Int := [0,0,0,0,0,0,0,0, 1,0,0,0,0,0,0,0, 0,2,0,0,0,0,0,0, 0,0,2,0,0,0,0,0, 0,0,3,0,0,0,0,0, 0,0,0,4,0,0,0,0, 0,0,0,2,0,0,0,0, 0,0,0,0,5,0,0,0, 0,6,6,6,0,0,0,0, 0,7,7,0,0,0,0,0]
/-- It stands as the program's text lays it. -/
def Led (w : World) : Prop := ∀ i : Nat, i < 80 → w.cell? ⟨0, i, none⟩ = some (.int .i64 (leadsT.getD i 0))
theorem Led.lt {w : World} (h : Led w) : 0 < w.heap.size := World.block_lt_of_cell? w ⟨0, 0, none⟩ (h 0 (by omega))
theorem Led.through {w w' : World} (h : Led w) (hb : Below w.heap.size w w') : Led w' := fun i hi => (hb.cell (p := ⟨0, i, none⟩) h.lt).trans (h i hi)
theorem Led.alloc {w : World} (h : Led w) (o : Obj) : Led (w.alloc o) := h.through ((Below.refl _ w).alloc (Nat.le_refl _) o)
theorem leads_next (j k : Nat) (hj : j < 10) (hk : k < 8) : leadsT.getD (j * 8 + k) 0 = nextL k j := by
  have h : ∀ (j : Fin 10) (k : Fin 8), leadsT.getD (j.val * 8 + k.val) 0 = nextL (k.val : Int) (j.val : Int) := by decide +kernel
  exact h ⟨j, hj⟩ ⟨k, hk⟩
end

section
open Go.RowKit
theorem ret_i64 {a b : Int} (h : a = b) : Ending.returned (Value.int .i64 a) = .returned (.int .i64 b) := by rw [h]
theorem ret_b {a b : Bool} (h : a = b) : Ending.returned (Value.bool a) = .returned (.bool b) := by rw [h]

set_option maxHeartbeats 1000000 in
theorem isstep_any (op : Int) (w : World) : Calls Tryz.prog 60 #[.int .i64 op] w fun e w' => e = .returned (.bool (decide (1 ≤ op) && decide (op ≤ 9))) ∧ w' = w := by
  go_enter Tryz.func60, Tryz.ntmps60
  go_wp2
  all_goals go_ret
  all_goals refine ⟨?_, rfl⟩
  all_goals (congr 2; simp <;> omega)

set_option maxHeartbeats 1000000 in
theorem isday_any (a : Int) (w : World) : Calls Tryz.prog 110 #[.int .i64 a] w fun e w' => e = .returned (.bool (isM a)) ∧ w' = w := by
  go_enter Tryz.func110, Tryz.ntmps110
  go_wp2
  all_goals go_ret
  all_goals refine ⟨?_, rfl⟩
  all_goals (simp only [isM]; congr 2; simp <;> omega)

set_option maxHeartbeats 1000000 in
theorem rday_any (a : Int) (w : World) : Calls Tryz.prog 51 #[.int .i64 a] w fun e w' => e = .returned (.bool (isM a)) ∧ w' = w := by
  go_enter Tryz.func51, Tryz.ntmps51
  go_wp2
  all_goals go_ret
  all_goals refine ⟨?_, rfl⟩
  all_goals (simp only [isM]; congr 2; simp <;> omega)

set_option maxHeartbeats 2000000 in
theorem next_any (st op : Int) (w : World) (ht : Led w) : Calls Tryz.prog 63 #[.int .i64 st, .int .i64 op] w fun e w' => e = .returned (.int .i64 (nextL st op)) ∧ w' = w := by
  have h1 := isstep_any op w
  by_cases hop : op < 1 ∨ 9 < op
  · rw [nextL_out hop]
    have hb : (decide (1 ≤ op) && decide (op ≤ 9)) = false := by simp; omega
    rw [hb] at h1
    go_enter Tryz.func63, Tryz.ntmps63
    go_wp2_with (go_at_call 60; (with_reducible refine h1.mono ?_); rintro e w1 ⟨rfl, rfl⟩)
    go_ret
    exact ⟨rfl, rfl⟩
  · have hb : (decide (1 ≤ op) && decide (op ≤ 9)) = true := by simp; omega
    rw [hb] at h1
    by_cases hst : st < 0
    · rw [nextL_far (.inl hst)]
      go_enter Tryz.func63, Tryz.ntmps63
      go_wp2_with (go_at_call 60; (with_reducible refine h1.mono ?_); rintro e w1 ⟨rfl, rfl⟩)
      go_ret
      exact ⟨rfl, rfl⟩
    by_cases hst2 : 7 < st
    · rw [nextL_far (.inr hst2)]
      go_enter Tryz.func63, Tryz.ntmps63
      go_wp2_with (go_at_call 60; (with_reducible refine h1.mono ?_); rintro e w1 ⟨rfl, rfl⟩)
      go_ret
      exact ⟨rfl, rfl⟩
    obtain ⟨j, rfl⟩ : ∃ j : Nat, op = (j : Int) := ⟨op.toNat, by omega⟩
    obtain ⟨k, rfl⟩ : ∃ k : Nat, st = (k : Int) := ⟨st.toNat, by omega⟩
    have hj : j < 10 := by omega
    have hk : k < 8 := by omega
    have hc := ht (j * 8 + k) (by omega)
    rw [leads_next j k hj hk] at hc
    generalize nextL (k : Int) (j : Int) = v at *
    clear ht hop hb
    go_enter Tryz.func63, Tryz.ntmps63
    go_wp2_with (go_at_call 60; (with_reducible refine h1.mono ?_); rintro e w1 ⟨rfl, rfl⟩)
    go_ret
    exact ⟨rfl, rfl⟩

set_option maxHeartbeats 2000000 in
theorem can_any (st op : Int) (w : World) (ht : Led w) : Calls Tryz.prog 61 #[.int .i64 st, .int .i64 op] w fun e w' => e = .returned (.bool (!(nextL st op == 0))) ∧ w' = w := by
  have h1 := next_any st op w ht
  generalize nextL st op = v at *
  clear ht
  go_enter Tryz.func61, Tryz.ntmps61
  go_wp2_with (go_at_call 63; (with_reducible refine h1.mono ?_); rintro e w1 ⟨rfl, rfl⟩)
  go_ret
  exact ⟨rfl, rfl⟩
end

section
open Go.RowKit
theorem results_cell_row_tmp1 {P : Program} {fn : Func} {p u : Tmp} {ty : TypeId} (h : fn.results = #[.cell p ty, .tmp u]) (tmps : Array Value) (w : World) (g : Nat) (t : TypeId) (cs : Array Value) (fr : Nat × Nat) (d : TypeDesc)
    (hp : tmps.getD p undef = .pointer (some ⟨g, 0, none⟩)) (hg : w.heap[g]? = some (.cells cs t fr))
    (hu : P.underlying ty = some d) (hd : (match d with | .struct _ | .array _ _ => true | _ => false) = true) (hi : (P.info? ty).map (·.size) = some cs.size) :
    (results fn tmps).run P w = .ok (.tuple #[.agg cs, tmps.getD u undef]) w := by
  have hp' : tmps[p]?.getD undef = .pointer (some ⟨g, 0, none⟩) := by simpa using hp
  simp [results, h, hp', asAddr, run_loadVar_row w g t ty cs fr d hg hu hd hi]
theorem fin1 (w : World) (A : Obj) : (w.alloc A).heap[w.heap.size]? = some A := heap_alloc_new w A
theorem fin2 (w : World) (A B : Obj) : ((w.alloc A).alloc B).heap[w.heap.size + 1]? = some B := by have := heap_alloc_new (w.alloc A) B; simpa using this
theorem below1 (w : World) (A : Obj) : Below w.heap.size w (w.alloc A) := (Below.refl _ w).alloc (Nat.le_refl _) A
theorem below2 (w : World) (A B : Obj) : Below w.heap.size w ((w.alloc A).alloc B) := (below1 w A).alloc (by simp) B
theorem Tryz.zero_lt (w : World) : (zeroValue 39).run Tryz.prog w = .ok (.agg #[.string (ba []), .int .i64 0, .int .i64 0, .int .i64 0, .string (ba []), .string (ba [])]) w := by kernel_rfl
theorem Tryz.build_no (w : World) : (Instr.build 39 #[]).run Tryz.prog w = .ok (.agg #[.string (ba []), .int .i64 0, .int .i64 0, .int .i64 0, .string (ba []), .string (ba [])]) w := by kernel_rfl
theorem Tryz.build_lt (nm po : ByteArray) (am du : Int) (w : World) : (Instr.build 39 #[(0, .string nm), (2, .int .i64 am), (3, .int .i64 du), (4, .string po)]).run Tryz.prog w = .ok (.agg #[.string nm, .int .i64 0, .int .i64 am, .int .i64 du, .string po, .string (ba [])]) w := by kernel_rfl

set_option maxHeartbeats 4000000 in
theorem present_any (l : Lt) (t : List UInt8) (w : World) : Calls Tryz.prog 85 #[l.val, .string (ba t)] w fun e w' => e = .returned (ltE (presentL l t)) ∧ Below w.heap.size w w' := by
  obtain ⟨nm, st, am, du, po, pa⟩ := l
  have hsz := ba_size
  have hz := Tryz.zero_lt
  unfold presentL Lt.val
  by_cases hl : 200 < t.length
  · rw [if_pos hl]
    go_enter Tryz.func85, Tryz.ntmps85
    go_wp2
    exact bodyPost_ret (results_cell_row_tmp1 rfl _ _ (w.heap.size + 1) 39 _ (0, 0) _ rfl (fin2 w _ _) Tryz.underlying39 rfl (by kernel_rfl)) rfl ⟨rfl, below2 w _ _⟩
  · rw [if_neg hl]
    go_enter Tryz.func85, Tryz.ntmps85
    go_wp2
    exact bodyPost_ret (results_cell_row_tmp1 rfl _ _ (w.heap.size + 1) 39 _ (0, 0) _ rfl (fin2 w _ _) Tryz.underlying39 rfl (by kernel_rfl)) rfl ⟨rfl, below2 w _ _⟩

set_option maxHeartbeats 4000000 in
theorem apply_any (nm : List UInt8) (a b : Int) (t : List UInt8) (w : World) : Calls Tryz.prog 83 #[.string (ba nm), .int .i64 a, .int .i64 b, .string (ba t)] w fun e w' => e = .returned (ltE (applyL nm a b t)) ∧ Below w.heap.size w w' := by
  have hsz := ba_size
  have hz := Tryz.zero_lt
  have hbn := Tryz.build_no
  have hbl := Tryz.build_lt
  have hm : ∀ W, Calls Tryz.prog 65 #[.int .i64 a] W fun e w' => e = .returned (.bool (isM a)) ∧ w' = W := fun W => is_any a W
  have hd : ∀ W, Calls Tryz.prog 110 #[.int .i64 b] W fun e w' => e = .returned (.bool (isM b)) ∧ w' = W := fun W => isday_any b W
  unfold applyL
  have HM := Lib.hid hm
  have HD := Lib.hid hd
  clear hm hd
  by_cases hl : 200 < t.length
  · rw [if_pos hl]
    clear HM HD
    go_enter Tryz.func83, Tryz.ntmps83
    go_wp2
    exact bodyPost_ret (results_cell_row_tmp1 rfl _ _ w.heap.size 39 _ (0, 0) _ rfl (fin1 w _) Tryz.underlying39 rfl (by kernel_rfl)) rfl ⟨rfl, below1 w _⟩
  rw [if_neg hl]
  by_cases ha : a < 1
  · rw [if_pos ha]
    clear HM HD
    go_enter Tryz.func83, Tryz.ntmps83
    go_wp2
    exact bodyPost_ret (results_cell_row_tmp1 rfl _ _ w.heap.size 39 _ (0, 0) _ rfl (fin1 w _) Tryz.underlying39 rfl (by kernel_rfl)) rfl ⟨rfl, below1 w _⟩
  rw [if_neg ha]
  have hm := HM.out
  have hd := HD.out
  clear HM HD
  cases ham : isM a <;> rw [ham] at hm <;> cases hbm : isM b <;> rw [hbm] at hd
  all_goals
    simp only [if_true, if_false, Bool.true_eq_false]
    have HM := Lib.hid hm
    have HD := Lib.hid hd
    clear hm hd ham hbm
    go_enter Tryz.func83, Tryz.ntmps83
    go_wp2_with (first
      | (go_at_call 65; (with_reducible refine (HM.out _).mono ?_); rintro e w1 ⟨rfl, rfl⟩)
      | (go_at_call 110; (with_reducible refine (HD.out _).mono ?_); rintro e w1 ⟨rfl, rfl⟩))
    exact bodyPost_ret (results_cell_row_tmp1 rfl _ _ w.heap.size 39 _ (0, 0) _ rfl (fin1 w _) Tryz.underlying39 rfl (by kernel_rfl)) rfl ⟨rfl, below1 w _⟩

set_option maxHeartbeats 4000000 in
theorem expiry_any (du a : Int) (w : World) : Calls Tryz.prog 86 #[.int .i64 du, .int .i64 a] w fun e w' => e = .returned (.int .i64 (expiryL du a)) ∧ w' = w := by
  have hd := isday_any a w
  unfold expiryL
  cases ham : isM a <;> rw [ham] at hd
  · simp only [if_true]
    clear ham
    go_enter Tryz.func86, Tryz.ntmps86
    go_wp2_with (go_at_call 110; (with_reducible refine hd.mono ?_); rintro e w1 ⟨rfl, rfl⟩)
    go_ret
    exact ⟨rfl, rfl⟩
  · simp only [Bool.true_eq_false, if_false]
    clear ham
    by_cases hlt : a < du
    · rw [if_pos hlt]
      go_enter Tryz.func86, Tryz.ntmps86
      go_wp2_with (go_at_call 110; (with_reducible refine hd.mono ?_); rintro e w1 ⟨rfl, rfl⟩)
      go_ret
      exact ⟨rfl, rfl⟩
    · rw [if_neg hlt]
      go_enter Tryz.func86, Tryz.ntmps86
      go_wp2_with (go_at_call 110; (with_reducible refine hd.mono ?_); rintro e w1 ⟨rfl, rfl⟩)
      go_ret
      exact ⟨rfl, rfl⟩

set_option maxHeartbeats 4000000 in
theorem amend_any (l : Lt) (a b : Int) (w : World) : Calls Tryz.prog 84 #[l.val, .int .i64 a, .int .i64 b] w fun e w' => e = .returned (ltE (amendL l a b)) ∧ Below w.heap.size w w' := by
  obtain ⟨nm, st, am, du, po, pa⟩ := l
  have hz := Tryz.zero_lt
  have hbn := Tryz.build_no
  have hc : ∀ W, Calls Tryz.prog 111 #[.int .i64 am, .int .i64 a] W fun e w' => e = .returned (two (chgM am a)) ∧ w' = W := fun W => chg_any am a W
  have hd : ∀ W, Calls Tryz.prog 110 #[.int .i64 b] W fun e w' => e = .returned (.bool (isM b)) ∧ w' = W := fun W => isday_any b W
  unfold amendL Lt.val
  simp only
  unfold two at hc
  generalize (chgM am a).1 = x at *
  generalize (chgM am a).2 = y at *
  by_cases hy : y = 0
  · subst hy
    simp only [ne_eq, not_true_eq_false, if_false]
    by_cases hx : x = 0
    · subst hx
      simp only [if_true]
      have HC := Lib.hid hc
      clear hc hd
      go_enter Tryz.func84, Tryz.ntmps84
      go_wp2_with (go_at_call 111; (with_reducible refine (HC.out _).mono ?_); rintro e w1 ⟨rfl, rfl⟩)
      exact bodyPost_ret (results_cell_row_tmp1 rfl _ _ (w.heap.size + 1) 39 _ (0, 0) _ rfl (fin2 w _ _) Tryz.underlying39 rfl (by kernel_rfl)) rfl ⟨rfl, below2 w _ _⟩
    · simp only [if_neg hx]
      have hxb : (x == 0) = false := by simpa using hx
      clear hx
      cases hbm : isM b <;> rw [hbm] at hd
      · simp only [if_true]
        have HC := Lib.hid hc
        have HD := Lib.hid hd
        clear hc hd hbm
        go_enter Tryz.func84, Tryz.ntmps84
        go_wp2_with (first
          | (go_at_call 111; (with_reducible refine (HC.out _).mono ?_); rintro e w1 ⟨rfl, rfl⟩)
          | (go_at_call 110; (with_reducible refine (HD.out _).mono ?_); rintro e w1 ⟨rfl, rfl⟩))
        exact bodyPost_ret (results_cell_row_tmp1 rfl _ _ (w.heap.size + 1) 39 _ (0, 0) _ rfl (fin2 w _ _) Tryz.underlying39 rfl (by kernel_rfl)) rfl ⟨rfl, below2 w _ _⟩
      · simp only [Bool.true_eq_false, if_false]
        have HC := Lib.hid hc
        have HD := Lib.hid hd
        clear hc hd hbm
        by_cases hb0 : b = 0
        · subst hb0
          simp only [if_true]
          go_enter Tryz.func84, Tryz.ntmps84
          go_wp2_with (first
            | (go_at_call 111; (with_reducible refine (HC.out _).mono ?_); rintro e w1 ⟨rfl, rfl⟩)
            | (go_at_call 110; (with_reducible refine (HD.out _).mono ?_); rintro e w1 ⟨rfl, rfl⟩))
          exact bodyPost_ret (results_cell_row_tmp1 rfl _ _ (w.heap.size + 1) 39 _ (0, 0) _ rfl (fin2 w _ _) Tryz.underlying39 rfl (by kernel_rfl)) rfl ⟨rfl, below2 w _ _⟩
        · simp only [if_neg hb0]
          have hbb : (b == 0) = false := by simpa using hb0
          clear hb0
          go_enter Tryz.func84, Tryz.ntmps84
          go_wp2_with (first
            | (go_at_call 111; (with_reducible refine (HC.out _).mono ?_); rintro e w1 ⟨rfl, rfl⟩)
            | (go_at_call 110; (with_reducible refine (HD.out _).mono ?_); rintro e w1 ⟨rfl, rfl⟩))
          exact bodyPost_ret (results_cell_row_tmp1 rfl _ _ (w.heap.size + 1) 39 _ (0, 0) _ rfl (fin2 w _ _) Tryz.underlying39 rfl (by kernel_rfl)) rfl ⟨rfl, below2 w _ _⟩
  · simp only [ne_eq, hy, not_false_eq_true, if_true]
    have hyb : (y == 0) = false := by simpa using hy
    have HC := Lib.hid hc
    clear hc hd hy
    go_enter Tryz.func84, Tryz.ntmps84
    go_wp2_with (go_at_call 111; (with_reducible refine (HC.out _).mono ?_); rintro e w1 ⟨rfl, rfl⟩)
    exact bodyPost_ret (results_cell_row_tmp1 rfl _ _ (w.heap.size + 1) 39 _ (0, 0) _ rfl (fin2 w _ _) Tryz.underlying39 rfl (by kernel_rfl)) rfl ⟨rfl, below2 w _ _⟩
end

section
open Go.RowKit
theorem one6 (a b c : ByteArray) (i j k : Int) : ([.string a, .int .i64 i, .int .i64 j, .int .i64 k, .string b, .string c] : List Value).toArray.all (·.oneCell') = true := by kernel_rfl
theorem fin2d (w : World) (A B : Obj) : ((w.alloc A).alloc B).drew.heap[w.heap.size + 1]? = some B := fin2 w A B
theorem beq_nope {a b : Int} (h : a ≠ b) : (a == b) = false := by simpa using h

set_option maxHeartbeats 4000000 in
set_option maxRecDepth 100000 in
theorem change_any (l : Lt) (op a b : Int) (t : List UInt8) (w : World) : Calls Tryz.prog 62 #[l.val, .int .i64 op, .int .i64 a, .int .i64 b, .string (ba t)] w fun e w' => e = .returned (ltE (changeL l op a b t)) ∧ Below w.heap.size w w' := by
  have hz := Tryz.zero_lt
  have hbn := Tryz.build_no
  unfold changeL
  by_cases h1 : op = 1
  · subst h1
    rw [if_pos rfl]
    have hc : ∀ W, Calls Tryz.prog 83 #[.string (ba l.nm), .int .i64 a, .int .i64 b, .string (ba t)] W fun e w' => e = .returned (ltE (applyL l.nm a b t)) ∧ Below W.heap.size W w' := fun W => apply_any _ a b t W
    obtain ⟨nm, st, am, du, po, pa⟩ := l
    unfold ltE at hc ⊢
    simp only at hc ⊢
    generalize (applyL nm a b t).1 = q at *
    generalize (applyL nm a b t).2 = x at *
    unfold Lt.val at hc ⊢
    have HC := Lib.hid hc
    clear hc
    go_enter Tryz.func62, Tryz.ntmps62
    go_wp2_with (first
      | (go_at_call 83; (with_reducible refine (HC.out _).mono ?_); rintro e w1 ⟨rfl, hb⟩; have HRa : Hid (Blk w1 (w.heap.size + 1) 39 [.string (ba []), .int .i64 0, .int .i64 0, .int .i64 0, .string (ba []), .string (ba [])]) := Lib.hid ((Blk.fresh (by simp) rfl : Blk ((w.alloc (.cells #[.string (ba nm), .int .i64 st, .int .i64 am, .int .i64 du, .string (ba po), .string (ba pa)] 39)).alloc (.cells #[.string (ba []), .int .i64 0, .int .i64 0, .int .i64 0, .string (ba []), .string (ba [])] 39)) (w.heap.size + 1) 39 [.string (ba []), .int .i64 0, .int .i64 0, .int .i64 0, .string (ba []), .string (ba [])]).through hb); have HXa : Hid (Below w.heap.size w w1) := Lib.hid (below_step (below2 w _ _) hb); clear hb)
      | (refine wpList_store_blk rfl 39 (.tmp 10) (.tmp 21) rfl (w.heap.size + 1) [.string (ba q.nm), .int .i64 q.st, .int .i64 q.am, .int .i64 q.du, .string (ba q.po), .string (ba q.pa)] rfl rfl 39 [.string (ba []), .int .i64 0, .int .i64 0, .int .i64 0, .string (ba []), .string (ba [])] HRa.out (by kernel_rfl) rfl (one6 _ _ _ _ _ _) ?_; intro wb hbb hgb; have HRb := Lib.hid hbb; have HXb : Hid (Below w.heap.size w wb) := Lib.hid (HXa.out.grown hgb HXa.out.size (fun k hk => by have := Option.some.inj hk; omega)); clear hbb hgb))
    exact bodyPost_ret (results_cell_row_tmp1 rfl _ _ (w.heap.size + 1) 39 _ (0, 0) _ rfl HRb.out Tryz.underlying39 rfl (by kernel_rfl)) rfl ⟨rfl, HXb.out⟩
  rw [if_neg h1]
  have n1 := beq_nope h1
  clear h1
  by_cases h3 : op = 3
  · subst h3
    rw [if_pos rfl]
    have hc : ∀ W, Calls Tryz.prog 84 #[l.val, .int .i64 a, .int .i64 b] W fun e w' => e = .returned (ltE (amendL l a b)) ∧ Below W.heap.size W w' := fun W => amend_any l a b W
    unfold ltE at hc ⊢
    generalize (amendL l a b).1 = q at *
    generalize (amendL l a b).2 = x at *
    obtain ⟨nm, st, am, du, po, pa⟩ := l
    unfold Lt.val at hc ⊢
    have HC := Lib.hid hc
    clear hc n1
    go_enter Tryz.func62, Tryz.ntmps62
    go_wp2_with (first
      | (go_at_call 84; (with_reducible refine (HC.out _).mono ?_); rintro e w1 ⟨rfl, hb⟩; have HRa : Hid (Blk w1 (w.heap.size + 1) 39 [.string (ba []), .int .i64 0, .int .i64 0, .int .i64 0, .string (ba []), .string (ba [])]) := Lib.hid ((Blk.fresh (by simp) rfl : Blk ((w.alloc (.cells #[.string (ba nm), .int .i64 st, .int .i64 am, .int .i64 du, .string (ba po), .string (ba pa)] 39)).alloc (.cells #[.string (ba []), .int .i64 0, .int .i64 0, .int .i64 0, .string (ba []), .string (ba [])] 39)) (w.heap.size + 1) 39 [.string (ba []), .int .i64 0, .int .i64 0, .int .i64 0, .string (ba []), .string (ba [])]).through hb); have HXa : Hid (Below w.heap.size w w1) := Lib.hid (below_step (below2 w _ _) hb); clear hb)
      | (refine wpList_store_blk rfl 39 (.tmp 10) (.tmp 29) rfl (w.heap.size + 1) [.string (ba q.nm), .int .i64 q.st, .int .i64 q.am, .int .i64 q.du, .string (ba q.po), .string (ba q.pa)] rfl rfl 39 [.string (ba []), .int .i64 0, .int .i64 0, .int .i64 0, .string (ba []), .string (ba [])] HRa.out (by kernel_rfl) rfl (one6 _ _ _ _ _ _) ?_; intro wb hbb hgb; have HRb := Lib.hid hbb; have HXb : Hid (Below w.heap.size w wb) := Lib.hid (HXa.out.grown hgb HXa.out.size (fun k hk => by have := Option.some.inj hk; omega)); clear hbb hgb))
    exact bodyPost_ret (results_cell_row_tmp1 rfl _ _ (w.heap.size + 1) 39 _ (0, 0) _ rfl HRb.out Tryz.underlying39 rfl (by kernel_rfl)) rfl ⟨rfl, HXb.out⟩
  rw [if_neg h3]
  have n3 := beq_nope h3
  clear h3
  by_cases h4 : op = 4
  · subst h4
    rw [if_pos rfl]
    have hc : ∀ W, Calls Tryz.prog 85 #[l.val, .string (ba t)] W fun e w' => e = .returned (ltE (presentL l t)) ∧ Below W.heap.size W w' := fun W => present_any l t W
    unfold ltE at hc ⊢
    generalize (presentL l t).1 = q at *
    generalize (presentL l t).2 = x at *
    obtain ⟨nm, st, am, du, po, pa⟩ := l
    unfold Lt.val at hc ⊢
    have HC := Lib.hid hc
    clear hc n1 n3
    go_enter Tryz.func62, Tryz.ntmps62
    go_wp2_with (first
      | (go_at_call 85; (with_reducible refine (HC.out _).mono ?_); rintro e w1 ⟨rfl, hb⟩; have HRa : Hid (Blk w1 (w.heap.size + 1) 39 [.string (ba []), .int .i64 0, .int .i64 0, .int .i64 0, .string (ba []), .string (ba [])]) := Lib.hid ((Blk.fresh (by simp) rfl : Blk ((w.alloc (.cells #[.string (ba nm), .int .i64 st, .int .i64 am, .int .i64 du, .string (ba po), .string (ba pa)] 39)).alloc (.cells #[.string (ba []), .int .i64 0, .int .i64 0, .int .i64 0, .string (ba []), .string (ba [])] 39)) (w.heap.size + 1) 39 [.string (ba []), .int .i64 0, .int .i64 0, .int .i64 0, .string (ba []), .string (ba [])]).through hb); have HXa : Hid (Below w.heap.size w w1) := Lib.hid (below_step (below2 w _ _) hb); clear hb)
      | (refine wpList_store_blk rfl 39 (.tmp 10) (.tmp 36) rfl (w.heap.size + 1) [.string (ba q.nm), .int .i64 q.st, .int .i64 q.am, .int .i64 q.du, .string (ba q.po), .string (ba q.pa)] rfl rfl 39 [.string (ba []), .int .i64 0, .int .i64 0, .int .i64 0, .string (ba []), .string (ba [])] HRa.out (by kernel_rfl) rfl (one6 _ _ _ _ _ _) ?_; intro wb hbb hgb; have HRb := Lib.hid hbb; have HXb : Hid (Below w.heap.size w wb) := Lib.hid (HXa.out.grown hgb HXa.out.size (fun k hk => by have := Option.some.inj hk; omega)); clear hbb hgb))
    exact bodyPost_ret (results_cell_row_tmp1 rfl _ _ (w.heap.size + 1) 39 _ (0, 0) _ rfl HRb.out Tryz.underlying39 rfl (by kernel_rfl)) rfl ⟨rfl, HXb.out⟩
  rw [if_neg h4]
  have n4 := beq_nope h4
  clear h4
  by_cases h6 : op = 6
  · subst h6
    rw [if_pos rfl]
    obtain ⟨nm, st, am, du, po, pa⟩ := l
    unfold Lt.val
    clear n1 n3 n4
    go_enter Tryz.func62, Tryz.ntmps62
    go_wp2
    exact bodyPost_ret (results_cell_row_tmp1 rfl _ _ (w.heap.size + 1) 39 _ (0, 0) _ rfl (fin2 w _ _) Tryz.underlying39 rfl (by kernel_rfl)) rfl ⟨rfl, below2 w _ _⟩
  rw [if_neg h6]
  have n6 := beq_nope h6
  clear h6
  by_cases h8 : op = 8
  · subst h8
    rw [if_pos rfl]
    have hc : ∀ W, Calls Tryz.prog 86 #[.int .i64 l.du, .int .i64 a] W fun e w' => e = .returned (.int .i64 (expiryL l.du a)) ∧ w' = W := fun W => expiry_any l.du a W
    obtain ⟨nm, st, am, du, po, pa⟩ := l
    simp only at hc ⊢
    generalize expiryL du a = x at *
    unfold Lt.val
    have HC := Lib.hid hc
    clear hc n1 n3 n4 n6
    go_enter Tryz.func62, Tryz.ntmps62
    go_wp2
    go_region_with ((go_at_call 86; (with_reducible refine (HC.out _).mono ?_); rintro e w1 ⟨rfl, rfl⟩))
    all_goals go_wp2
    all_goals exact bodyPost_ret (results_cell_row_tmp1 rfl _ _ (w.heap.size + 1) 39 _ (0, 0) _ rfl (fin2d w _ _) Tryz.underlying39 rfl (by kernel_rfl)) rfl ⟨rfl, (below2 w _ _).drew⟩
  rw [if_neg h8]
  have n8 := beq_nope h8
  clear h8
  obtain ⟨nm, st, am, du, po, pa⟩ := l
  unfold Lt.val
  go_enter Tryz.func62, Tryz.ntmps62
  go_wp2
  exact bodyPost_ret (results_cell_row_tmp1 rfl _ _ (w.heap.size + 1) 39 _ (0, 0) _ rfl (fin2 w _ _) Tryz.underlying39 rfl (by kernel_rfl)) rfl ⟨rfl, below2 w _ _⟩
end

section
open Go.RowKit
set_option maxHeartbeats 4000000 in
set_option maxRecDepth 100000 in
theorem step_any (l : Lt) (op a b : Int) (t : List UInt8) (w : World) (hl : Led w) : Calls Tryz.prog 40 #[l.val, .int .i64 op, .int .i64 a, .int .i64 b, .string (ba t)] w fun e w' => e = .returned (ltE (stepL l op a b t)) ∧ Below w.heap.size w w' := by
  have hz := Tryz.zero_lt
  have hbn := Tryz.build_no
  have hi : ∀ W, Calls Tryz.prog 60 #[.int .i64 op] W fun e w' => e = .returned (.bool (decide (1 ≤ op) && decide (op ≤ 9))) ∧ w' = W := fun W => isstep_any op W
  have hk : ∀ W, Led W → Calls Tryz.prog 61 #[.int .i64 l.st, .int .i64 op] W fun e w' => e = .returned (.bool (!(nextL l.st op == 0))) ∧ w' = W := fun W h => can_any l.st op W h
  have hn : ∀ W, Led W → Calls Tryz.prog 63 #[.int .i64 l.st, .int .i64 op] W fun e w' => e = .returned (.int .i64 (nextL l.st op)) ∧ w' = W := fun W h => next_any l.st op W h
  have hc : ∀ W, Calls Tryz.prog 62 #[l.val, .int .i64 op, .int .i64 a, .int .i64 b, .string (ba t)] W fun e w' => e = .returned (ltE (changeL l op a b t)) ∧ Below W.heap.size W w' := fun W => change_any l op a b t W
  unfold stepL
  by_cases hop : op < 1 ∨ 9 < op
  · rw [if_pos (nextL_out hop), if_pos hop]
    have hb : (decide (1 ≤ op) && decide (op ≤ 9)) = false := by simp; omega
    rw [hb] at hi
    obtain ⟨nm, st, am, du, po, pa⟩ := l
    unfold Lt.val
    have HI := Lib.hid hi
    clear hi hk hn hc hb hop hl
    go_enter Tryz.func40, Tryz.ntmps40
    go_wp2_with (go_at_call 60; (with_reducible refine (HI.out _).mono ?_); rintro e w1 ⟨rfl, rfl⟩)
    exact bodyPost_ret (results_cell_row_tmp1 rfl _ _ (w.heap.size + 1) 39 _ (0, 0) _ rfl (fin2 w _ _) Tryz.underlying39 rfl (by kernel_rfl)) rfl ⟨rfl, below2 w _ _⟩
  have hb : (decide (1 ≤ op) && decide (op ≤ 9)) = true := by simp; omega
  rw [hb] at hi
  clear hb
  by_cases h0 : nextL l.st op = 0
  · rw [if_pos h0, if_neg hop]
    rw [h0] at hk
    obtain ⟨nm, st, am, du, po, pa⟩ := l
    unfold Lt.val
    have HI := Lib.hid hi
    have HK := Lib.hid hk
    have HL2 : Hid (Led ((w.alloc (.cells #[.string (ba nm), .int .i64 st, .int .i64 am, .int .i64 du, .string (ba po), .string (ba pa)] 39)).alloc (.cells #[.string (ba []), .int .i64 0, .int .i64 0, .int .i64 0, .string (ba []), .string (ba [])] 39))) := Lib.hid ((hl.alloc _).alloc _)
    clear hi hk hn hc hop hl h0
    go_enter Tryz.func40, Tryz.ntmps40
    go_wp2_with (first
      | (go_at_call 60; (with_reducible refine (HI.out _).mono ?_); rintro e w1 ⟨rfl, rfl⟩)
      | (go_at_call 61; (with_reducible refine (HK.out _ HL2.out).mono ?_); rintro e w1 ⟨rfl, rfl⟩))
    exact bodyPost_ret (results_cell_row_tmp1 rfl _ _ (w.heap.size + 1) 39 _ (0, 0) _ rfl (fin2 w _ _) Tryz.underlying39 rfl (by kernel_rfl)) rfl ⟨rfl, below2 w _ _⟩
  rw [if_neg h0]
  have h0b : (!(nextL l.st op == 0)) = true := by simpa using h0
  rw [h0b] at hk
  unfold ltE at hc ⊢
  generalize (changeL l op a b t).1 = q at *
  generalize (changeL l op a b t).2 = x at *
  clear h0b h0 hop
  generalize nextL l.st op = n at *
  obtain ⟨nm, st, am, du, po, pa⟩ := l
  simp only at hk hn
  unfold Lt.val at hc ⊢
  have HI := Lib.hid hi
  have HK := Lib.hid hk
  have HN := Lib.hid hn
  have HC := Lib.hid hc
  have HL2 : Hid (Led ((w.alloc (.cells #[.string (ba nm), .int .i64 st, .int .i64 am, .int .i64 du, .string (ba po), .string (ba pa)] 39)).alloc (.cells #[.string (ba []), .int .i64 0, .int .i64 0, .int .i64 0, .string (ba []), .string (ba [])] 39))) := Lib.hid ((hl.alloc _).alloc _)
  clear hi hk hn hc hl
  by_cases hx : x = 0
  · subst hx
    simp only [ne_eq, not_true_eq_false, if_false]
    go_enter Tryz.func40, Tryz.ntmps40
    go_wp2_with (first
      | (go_at_call 60; (with_reducible refine (HI.out _).mono ?_); rintro e w1 ⟨rfl, rfl⟩)
      | (go_at_call 61; (with_reducible refine (HK.out _ HL2.out).mono ?_); rintro e w1 ⟨rfl, rfl⟩)
      | (go_at_call 62; (with_reducible refine (HC.out _).mono ?_); rintro e w1 ⟨rfl, hb⟩; have HRa : Hid (Blk w1 (w.heap.size + 1) 39 [.string (ba []), .int .i64 0, .int .i64 0, .int .i64 0, .string (ba []), .string (ba [])]) := Lib.hid ((Blk.fresh (by simp) rfl : Blk ((w.alloc (.cells #[.string (ba nm), .int .i64 st, .int .i64 am, .int .i64 du, .string (ba po), .string (ba pa)] 39)).alloc (.cells #[.string (ba []), .int .i64 0, .int .i64 0, .int .i64 0, .string (ba []), .string (ba [])] 39)) (w.heap.size + 1) 39 [.string (ba []), .int .i64 0, .int .i64 0, .int .i64 0, .string (ba []), .string (ba [])]).through hb); have HBa : Hid (Blk w1 w.heap.size 39 [.string (ba nm), .int .i64 st, .int .i64 am, .int .i64 du, .string (ba po), .string (ba pa)]) := Lib.hid (((Blk.fresh rfl rfl : Blk (w.alloc (.cells #[.string (ba nm), .int .i64 st, .int .i64 am, .int .i64 du, .string (ba po), .string (ba pa)] 39)) w.heap.size 39 [.string (ba nm), .int .i64 st, .int .i64 am, .int .i64 du, .string (ba po), .string (ba pa)]).alloc (.cells #[.string (ba []), .int .i64 0, .int .i64 0, .int .i64 0, .string (ba []), .string (ba [])] 39)).through hb); have HXa : Hid (Below w.heap.size w w1) := Lib.hid (below_step (below2 w _ _) hb); have HLa : Hid (Led w1) := Lib.hid (HL2.out.through hb); have c1 := (HBa.out.alloc (.cells #[.string (ba q.nm), .int .i64 q.st, .int .i64 q.am, .int .i64 q.du, .string (ba q.po), .string (ba q.pa)] 39)).cellAt (i := 1) rfl; clear hb)
      | (go_at_call 63; (with_reducible refine (HN.out _ (HLa.out.alloc (.cells #[.string (ba q.nm), .int .i64 q.st, .int .i64 q.am, .int .i64 q.du, .string (ba q.po), .string (ba q.pa)] 39))).mono ?_); rintro e w2 ⟨rfl, rfl⟩)
      | (refine wpList_store_blk rfl 39 (.tmp 10) (.tmp 42) rfl (w.heap.size + 1) [.string (ba q.nm), .int .i64 n, .int .i64 q.am, .int .i64 q.du, .string (ba q.po), .string (ba q.pa)] rfl rfl 39 [.string (ba []), .int .i64 0, .int .i64 0, .int .i64 0, .string (ba []), .string (ba [])] (HRa.out.alloc _) (by kernel_rfl) rfl (one6 _ _ _ _ _ _) ?_; intro wb hbb hgb; have HRb := Lib.hid hbb; have HXb : Hid (Below w.heap.size w wb) := Lib.hid ((HXa.out.alloc HXa.out.size _).grown hgb (by have := HXa.out.size; simp; omega) (fun k hk => by have := Option.some.inj hk; omega)); clear hbb hgb))
    exact bodyPost_ret (results_cell_row_tmp1 rfl _ _ (w.heap.size + 1) 39 _ (0, 0) _ rfl HRb.out Tryz.underlying39 rfl (by kernel_rfl)) rfl ⟨rfl, HXb.out⟩
  · simp only [ne_eq, hx, not_false_eq_true, if_true]
    have hxb := beq_nope hx
    clear hx
    go_enter Tryz.func40, Tryz.ntmps40
    go_wp2_with (first
      | (go_at_call 60; (with_reducible refine (HI.out _).mono ?_); rintro e w1 ⟨rfl, rfl⟩)
      | (go_at_call 61; (with_reducible refine (HK.out _ HL2.out).mono ?_); rintro e w1 ⟨rfl, rfl⟩)
      | (go_at_call 62; (with_reducible refine (HC.out _).mono ?_); rintro e w1 ⟨rfl, hb⟩; have HRa : Hid (Blk w1 (w.heap.size + 1) 39 [.string (ba []), .int .i64 0, .int .i64 0, .int .i64 0, .string (ba []), .string (ba [])]) := Lib.hid ((Blk.fresh (by simp) rfl : Blk ((w.alloc (.cells #[.string (ba nm), .int .i64 st, .int .i64 am, .int .i64 du, .string (ba po), .string (ba pa)] 39)).alloc (.cells #[.string (ba []), .int .i64 0, .int .i64 0, .int .i64 0, .string (ba []), .string (ba [])] 39)) (w.heap.size + 1) 39 [.string (ba []), .int .i64 0, .int .i64 0, .int .i64 0, .string (ba []), .string (ba [])]).through hb); have HBa : Hid (Blk w1 w.heap.size 39 [.string (ba nm), .int .i64 st, .int .i64 am, .int .i64 du, .string (ba po), .string (ba pa)]) := Lib.hid (((Blk.fresh rfl rfl : Blk (w.alloc (.cells #[.string (ba nm), .int .i64 st, .int .i64 am, .int .i64 du, .string (ba po), .string (ba pa)] 39)) w.heap.size 39 [.string (ba nm), .int .i64 st, .int .i64 am, .int .i64 du, .string (ba po), .string (ba pa)]).alloc (.cells #[.string (ba []), .int .i64 0, .int .i64 0, .int .i64 0, .string (ba []), .string (ba [])] 39)).through hb); have HXa : Hid (Below w.heap.size w w1) := Lib.hid (below_step (below2 w _ _) hb); have HLa : Hid (Led w1) := Lib.hid (HL2.out.through hb); have c1 := (HBa.out.alloc (.cells #[.string (ba q.nm), .int .i64 q.st, .int .i64 q.am, .int .i64 q.du, .string (ba q.po), .string (ba q.pa)] 39)).cellAt (i := 1) rfl; clear hb)
      | (refine wpList_store_blk rfl 39 (.tmp 10) (.tmp 35) rfl (w.heap.size + 1) [.string (ba []), .int .i64 0, .int .i64 0, .int .i64 0, .string (ba []), .string (ba [])] rfl rfl 39 [.string (ba []), .int .i64 0, .int .i64 0, .int .i64 0, .string (ba []), .string (ba [])] (HRa.out.alloc _) (by kernel_rfl) rfl (one6 _ _ _ _ _ _) ?_; intro wb hbb hgb; have HRb := Lib.hid hbb; have HXb : Hid (Below w.heap.size w wb) := Lib.hid ((HXa.out.alloc HXa.out.size _).grown hgb (by have := HXa.out.size; simp; omega) (fun k hk => by have := Option.some.inj hk; omega)); clear hbb hgb))
    exact bodyPost_ret (results_cell_row_tmp1 rfl _ _ (w.heap.size + 1) 39 _ (0, 0) _ rfl HRb.out Tryz.underlying39 rfl (by kernel_rfl)) rfl ⟨rfl, HXb.out⟩
end

section
open Go.RowKit
/-- What a letter under way keeps. -/
def Good (l : Lt) : Prop := l.nm = [110] ∧ (l.st = 0 ∨ (1 ≤ l.am ∧ l.am ≤ 1099511627776 ∧ 0 ≤ l.du))
theorem good_first : Good ⟨[110], 0, 0, 0, [], []⟩ := ⟨rfl, .inl rfl⟩
theorem step_no {l : Lt} {op a b : Int} {t : List UInt8} (h : (stepL l op a b t).2 ≠ 0) : (stepL l op a b t).1 = Lt.no := by
  unfold stepL at h ⊢
  by_cases h0 : nextL l.st op = 0
  · rw [if_pos h0]
  rw [if_neg h0] at h ⊢
  by_cases h1 : (changeL l op a b t).2 ≠ 0
  · rw [if_pos h1]
  · rw [if_neg h1] at h
    exact absurd rfl h
theorem step_over {l : Lt} {op a b : Int} {t : List UInt8} (h : overL l.st = true) : (stepL l op a b t).2 ≠ 0 := by
  unfold stepL
  rw [if_pos (over_next op h)]
  simp only
  split <;> decide
theorem next_none {op : Int} (h : op ≠ 1) : nextL 0 op = 0 := by
  unfold nextL
  rw [if_neg h]
  repeat' split
  all_goals first | rfl | omega
theorem apply_good {nm t : List UInt8} {a b : Int} (h : (applyL nm a b t).2 = 0) : (applyL nm a b t).1.nm = nm ∧ 1 ≤ (applyL nm a b t).1.am ∧ (applyL nm a b t).1.am ≤ 1099511627776 ∧ 0 ≤ (applyL nm a b t).1.du := by
  unfold applyL at h ⊢
  by_cases h1 : 200 < t.length
  · rw [if_pos h1] at h; exact absurd h (by decide)
  rw [if_neg h1] at h ⊢
  by_cases h2 : a < 1
  · rw [if_pos h2] at h; exact absurd h (by decide)
  rw [if_neg h2] at h ⊢
  by_cases h3 : isM a = false
  · rw [if_pos h3] at h; exact absurd h (by decide)
  rw [if_neg h3] at h ⊢
  by_cases h4 : isM b = false
  · rw [if_pos h4] at h; exact absurd h (by decide)
  rw [if_neg h4]
  have h5 := isM_yes (b := a) (by simpa using h3)
  have h6 := isM_yes (b := b) (by simpa using h4)
  exact ⟨rfl, by simp only; omega, by simp only; omega, by simp only; omega⟩
theorem amend_good {l : Lt} {a b : Int} (hd : 0 ≤ l.du) (h : (amendL l a b).2 = 0) : (amendL l a b).1.nm = l.nm ∧ 1 ≤ (amendL l a b).1.am ∧ (amendL l a b).1.am ≤ 1099511627776 ∧ 0 ≤ (amendL l a b).1.du := by
  have hm := isM_yes (isM_chg l.am a)
  unfold amendL at h ⊢
  by_cases h1 : (chgM l.am a).2 ≠ 0
  · rw [if_pos h1] at h; exact absurd h h1
  rw [if_neg h1] at h ⊢
  by_cases h2 : (chgM l.am a).1 = 0
  · rw [if_pos h2] at h; exact absurd h (by decide)
  rw [if_neg h2] at h ⊢
  by_cases h4 : isM b = false
  · rw [if_pos h4] at h; exact absurd h (by decide)
  rw [if_neg h4]
  have h6 := isM_yes (b := b) (by simpa using h4)
  refine ⟨rfl, by simp only; omega, by simp only; omega, ?_⟩
  simp only
  split <;> omega
theorem step_good {l : Lt} {op a b : Int} {t : List UInt8} (hg : Good l) (h : (stepL l op a b t).2 = 0) :
    (stepL l op a b t).1.nm = [110] ∧ 1 ≤ (stepL l op a b t).1.am ∧ (stepL l op a b t).1.am ≤ 1099511627776 ∧ 1 ≤ (stepL l op a b t).1.st ∧ (stepL l op a b t).1.st ≤ 7 ∧ 0 ≤ (stepL l op a b t).1.du := by
  obtain ⟨hn, hs⟩ := hg
  have hr := nextL_rng l.st op
  unfold stepL at h ⊢
  by_cases h0 : nextL l.st op = 0
  · rw [if_pos h0] at h
    simp only at h
    split at h <;> exact absurd h (by decide)
  rw [if_neg h0] at h ⊢
  by_cases h1 : (changeL l op a b t).2 ≠ 0
  · rw [if_pos h1] at h; exact absurd h h1
  rw [if_neg h1]
  simp only [ne_eq, Classical.not_not] at h1
  simp only
  have hkey : (changeL l op a b t).1.nm = [110] ∧ 1 ≤ (changeL l op a b t).1.am ∧ (changeL l op a b t).1.am ≤ 1099511627776 ∧ 0 ≤ (changeL l op a b t).1.du := by
    by_cases e1 : op = 1
    · unfold changeL at h1 ⊢
      rw [if_pos e1] at h1 ⊢
      have := apply_good h1
      exact ⟨this.1.trans hn, this.2⟩
    have hs' : 1 ≤ l.am ∧ l.am ≤ 1099511627776 ∧ 0 ≤ l.du := by
      rcases hs with hs | hs
      · rw [hs, next_none e1] at h0
        exact absurd rfl h0
      · exact hs
    unfold changeL at h1 ⊢
    rw [if_neg e1] at h1 ⊢
    by_cases e3 : op = 3
    · rw [if_pos e3] at h1 ⊢
      have := amend_good hs'.2.2 h1
      exact ⟨this.1.trans hn, this.2⟩
    rw [if_neg e3] at h1 ⊢
    by_cases e4 : op = 4
    · rw [if_pos e4] at h1 ⊢
      unfold presentL at h1 ⊢
      by_cases h2 : 200 < t.length
      · rw [if_pos h2] at h1; exact absurd h1 (by decide)
      · rw [if_neg h2]; exact ⟨hn, hs'⟩
    rw [if_neg e4]
    by_cases e6 : op = 6
    · rw [if_pos e6]; exact ⟨hn, hs'⟩
    rw [if_neg e6]
    by_cases e8 : op = 8
    · rw [if_pos e8]; exact ⟨hn, hs'⟩
    · rw [if_neg e8]; exact ⟨hn, hs'⟩
  exact ⟨hkey.1, hkey.2.1, hkey.2.2.1, by omega, by omega, hkey.2.2.2⟩

/-- A step of a life, as cells. -/
def stC (op a b : Int) (t : List UInt8) : List Value := [.int .i64 op, .int .i64 a, .int .i64 b, .string (ba t)]
/-- A slice of steps, as it lies in memory. -/
def Sts (w : World) (L : Option Addr) (m : Nat) : Prop :=
  0 < m → ∃ g o, L = some ⟨g, o, none⟩ ∧ ∀ i, i < m → ∃ op a b t, w.rangeAt g (o + i * 4) (stC op a b t)
theorem Sts.through {w w' : World} {L : Option Addr} {m : Nat} (h : Sts w L m) (hb : Below w.heap.size w w') : Sts w' L m := fun hm => by
  obtain ⟨g, o, e, hc⟩ := h hm
  refine ⟨g, o, e, fun i hi => ?_⟩
  obtain ⟨op, a, b, t, h0⟩ := hc i hi
  have lt : g < w.heap.size := World.block_lt_of_cell? w ⟨g, o + i * 4 + 0, none⟩ (h0 0 _ rfl)
  exact ⟨op, a, b, t, fun j v hv => (hb.cell (p := ⟨g, _, none⟩) lt).trans (h0 j v hv)⟩
end

end Go.Proofs.YtfflkodgojiklaaGreatDoor
