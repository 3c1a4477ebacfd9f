/-
  Joined: RTurn, RdW, RFixB, RNumB, Root, Root2, Wd, WdK, Const, BlockW, Block, RSum.
-/
import Derived.Test.YtolildehdibpbaaDoorLB
import Derived.Outline
import Derived.Test.YtolildehdibpbaaDoorLA
import Derived.Shelf.Bits.Mul64
import Derived.Deep.AppendLies
import Derived.RegionTactic
import Derived.ChangeAlike
import Derived.StillTailTactics
import Derived.Deep.QuietTactic
import Derived.BigQuiet
import Derived.IntWalk
import Derived.Deep.Onto
namespace Go.Proofs.YtolildehdibpbaaDoor
open Go.RowKit

theorem tmod_32 (n : Int) (k : Nat) (hn : n % 32 = k) : -32 < n.tmod 32 ∧ n.tmod 32 < 32 ∧ (n.tmod 32 + 32) % 32 = k := by
  rcases Int.le_total 0 n with h | h
  · rw [Int.tmod_eq_emod_of_nonneg h]
    omega
  · obtain ⟨m, rfl⟩ : ∃ m, n = -m := ⟨-n, by omega⟩
    rw [Int.neg_tmod, Int.tmod_eq_emod_of_nonneg (by omega)]
    omega

set_option maxHeartbeats 400000 in
theorem rturn_mod (x : UInt32) (n : Int) (k : Nat) (hk : k < 32) (hn : n % 32 = k) (w : World) :
    Calls Tryd.prog 49 #[.int .u32 (n32 x), .int .i64 n] w fun e w' => e = .returned (.int .u32 (n32 (rotr x k))) ∧ w = w' := by
  obtain ⟨h1, h2, h3⟩ := tmod_32 n k hn
  clear hn
  go_enter Tryd.func49, Tryd.ntmps49
  go_wp2
  go_loop [0, 5] (fun v i => ∃ j : Nat, j ≤ k ∧ i = .int .i64 j ∧ v = .int .u32 (n32 (rotr x j))) (fun _ i => k - (intOf i).toNat)
  case atStart => exact ⟨0, Nat.zero_le _, rfl, by rw [rotr_0]⟩
  case round =>
    obtain ⟨j, hj, rfl, rfl⟩ := hrel
    have hlo := n32_lo (rotr x j)
    have hhi := n32_hi (rotr x j)
    by_cases hlt : j < k
    · go_wp2
      go_round
      case rel => exact ⟨j + 1, by omega, by go_num, by rw [w32_turn1, rotr_succ x j (by omega)]⟩
      case measure => simp [intOf]; omega
    · obtain rfl : j = k := by omega
      go_wp2
      go_ret
      exact ⟨rfl, rfl⟩

theorem rturn_any (x : UInt32) (k : Nat) (hk : k < 32) (w : World) :
    Calls Tryd.prog 49 #[.int .u32 (n32 x), .int .i64 k] w fun e w' => e = .returned (.int .u32 (n32 (rotr x k))) ∧ w = w' :=
  rturn_mod x k k hk (by omega) w

set_option maxHeartbeats 400000 in
theorem rthree_any (x : UInt32) (i j k : Nat) (hi : i < 32) (hj : j < 32) (hk : k < 32) (w : World) :
    Calls Tryd.prog 50 #[.int .u32 (n32 x), .int .i64 i, .int .i64 j, .int .i64 k] w fun e w' => e = .returned (.int .u32 (n32 (three x i j k))) ∧ w = w' := by
  have hx := w32_xor
  go_enter Tryd.func50, Tryd.ntmps50
  go_wp2_with (go_at_call 49; refine (rturn_any _ _ (by omega) _).mono ?_; rintro e w' ⟨rfl, rfl⟩)
  go_ret
  exact ⟨rfl, rfl⟩

/-- Block g is a reader of type t: what is left reads as xs (as long as nothing failed), the failure is er. -/
def RS (w : World) (g : Nat) (t : TypeId) (xs : List UInt8) (er : Int) : Prop :=
  ∃ A n c, w.heap[g]? = some (.cells #[.slice A n c, .int .i64 er] t (0, 0)) ∧ n ≤ c ∧ c ≤ maxLen ∧ (er = 0 → By w (Bk w) A n xs)

section
variable {w w' : World} {g : Nat} {t : TypeId} {xs : List UInt8} {er : Int}
theorem Bk.keep {b : Nat} (h : Bk w b) {row : Option Nat} (hg : w.grownBy w' row) (hr : ∀ k, row = some k → ∃ cs t, w.heap[k]? = some (.cells cs t (0, 0)) ∧ t ≠ 5) : w'.heap[b]? = w.heap[b]? := by
  obtain ⟨cs, hcs⟩ := h
  refine hg.block b (Array.getElem?_eq_some_iff.1 hcs).1 (fun e => ?_)
  obtain ⟨cs', t', h', hne⟩ := hr b e.symm
  rw [hcs] at h'
  injection h' with h'
  injection h' with _ ht
  exact hne ht.symm
theorem By.keepBk {A : Option Addr} {n : Nat} (h : By w (Bk w) A n xs) {row : Option Nat} (hg : w.grownBy w' row) (hr : ∀ k, row = some k → ∃ cs t, w.heap[k]? = some (.cells cs t (0, 0)) ∧ t ≠ 5) : By w' (Bk w') A n xs :=
  (h.keep fun _ hb => hb.keep hg hr).weak fun b hb => by
    obtain ⟨cs, hcs⟩ := hb
    exact ⟨cs, (Bk.keep ⟨cs, hcs⟩ hg hr).trans hcs⟩
/-- Another reader stays as it is. -/
theorem RS.keep (h : RS w g t xs er) {g' : Nat} {cs : Array Value} {t' : TypeId} (hg : w.grownBy w' (some g')) (h' : w.heap[g']? = some (.cells cs t' (0, 0))) (hne : t ≠ t') (h5 : t' ≠ 5) : RS w' g t xs er := by
  obtain ⟨A, n, c, hc, hn, hm, hb⟩ := h
  refine ⟨A, n, c, ?_, hn, hm, fun h0 => (hb h0).keepBk hg fun k hk => by injection hk with hk; subst hk; exact ⟨cs, t', h', h5⟩⟩
  rw [hg.block g (Array.getElem?_eq_some_iff.1 hc).1 (fun e => ?_)]
  · exact hc
  · injection e with e
    subst e
    rw [hc] at h'
    injection h' with h'
    injection h' with _ ht
    exact hne ht
theorem RS.block (h : RS w g t xs er) : ∃ cs, w.heap[g]? = some (.cells cs t (0, 0)) := by
  obtain ⟨A, n, c, hc, _⟩ := h
  exact ⟨_, hc⟩
/-- Behind a call that makes memory alone. -/
theorem RS.below (h : RS w g t xs er) (hb : Below w.heap.size w w') : RS w' g t xs er := by
  obtain ⟨A, n, c, hc, hn, hm, hy⟩ := h
  have hg : w.grownBy w' none := ⟨hb.os, hb.tape, hb.output, hb.size, fun k hk _ => hb.block k hk⟩
  exact ⟨A, n, c, (hb.block g (Array.getElem?_eq_some_iff.1 hc).1).trans hc, hn, hm, fun h0 => (hy h0).keepBk hg fun k hk => by cases hk⟩
/-- Both cells of a reader, written. -/
theorem heap_set {w : World} {g : Nat} {t : TypeId} {cs : Array Value} (h : w.heap[g]? = some (.cells cs t (0, 0))) (i : Nat) (u : Value) : (w.setCell ⟨g, i, none⟩ u).heap[g]? = some (.cells (cs.setIfInBounds i u) t (0, 0)) := by
  simp [World.setCell, Array.getElem?_modify, h]
end

/-- What failing leaves. -/
def failX (xs : List UInt8) (er : Int) : List UInt8 := if er = 0 then [] else xs
def failE (er k : Int) : Int := if er = 0 then k else er
/-- Taking k bytes: what is given, what is left, the failure. -/
def takeY (xs : List UInt8) (er k : Int) : List UInt8 := if er = 0 ∧ 0 ≤ k ∧ k ≤ xs.length then xs.take k.toNat else []
def takeX (xs : List UInt8) (er k : Int) : List UInt8 := if er = 0 then (if 0 ≤ k ∧ k ≤ xs.length then xs.drop k.toNat else []) else xs
def takeE (xs : List UInt8) (er k : Int) : Int := if er = 0 then (if 0 ≤ k ∧ k ≤ xs.length then 0 else 2) else er

/-- A call on a reader that hands back bytes. -/
def Gave (w : World) (g : Nat) (t : TypeId) (ys xs' : List UInt8) (er' : Int) (e : Ending) (w' : World) : Prop :=
  ∃ B m c, e = .returned (.slice B m c) ∧ m ≤ c ∧ By w' (Bk w') B m ys ∧ RS w' g t xs' er' ∧ w.grownBy w' (some g)
/-- A call on a reader that hands back v. -/
def GaveV (w : World) (g : Nat) (t : TypeId) (v : Value) (xs' : List UInt8) (er' : Int) (e : Ending) (w' : World) : Prop :=
  e = .returned v ∧ RS w' g t xs' er' ∧ w.grownBy w' (some g)

def bad (er : Int) : Bool := er != 0

theorem took {w : World} {g n c k : Nat} {t : TypeId} (ht : t ≠ 5) {xs : List UInt8} {A A' : Option Addr} (hw : w.heap[g]? = some (.cells #[.slice A n c, .int .i64 0] t (0, 0))) (hy : By w (Bk w) A n xs) (hl : k ≤ n) (hn : n ≤ c) (hm : c ≤ maxLen)
    (hA : A' = if c = k then A else A.map (·.add k)) :
    By (w.setCell ⟨g, 0, none⟩ (.slice A' (n - k) (c - k))) (Bk (w.setCell ⟨g, 0, none⟩ (.slice A' (n - k) (c - k)))) A k (xs.take k) ∧
    RS (w.setCell ⟨g, 0, none⟩ (.slice A' (n - k) (c - k))) g t (xs.drop k) 0 ∧ w.grownBy (w.setCell ⟨g, 0, none⟩ (.slice A' (n - k) (c - k))) (some g) := by
  have hg := only_set w g 0 (.slice A' (n - k) (c - k))
  have hr : ∀ k, some g = some k → ∃ cs t, w.heap[k]? = some (.cells cs t (0, 0)) ∧ t ≠ 5 := fun k hk => by injection hk with hk; subst hk; exact ⟨_, _, hw, ht⟩
  refine ⟨(hy.take hl).keepBk hg hr, ⟨A', n - k, c - k, by rw [heap_set hw]; rfl, by omega, by omega, fun _ => ?_⟩, hg⟩
  rw [hA]
  rw [hA] at hg
  exact (hy.drop hl hn).keepBk hg hr

/-- The number of which these are the bytes, the highest first. -/
def beN (xs : List UInt8) : Nat := xs.foldl (fun v x => v * 256 + x.toNat) 0
theorem beN_snoc (xs : List UInt8) (b : UInt8) : beN (xs ++ [b]) = beN xs * 256 + b.toNat := by simp [beN]
theorem beN_take (xs : List UInt8) (j : Nat) (h : j < xs.length) : beN (xs.take (j + 1)) = beN (xs.take j) * 256 + xs[j].toNat := by
  rw [List.take_succ_eq_append_getElem h, beN_snoc]
theorem beN_lt (xs : List UInt8) (j : Nat) : beN (xs.take j) < 256 ^ (xs.take j).length := by
  induction j with
  | zero => simp [beN]
  | succ j ih =>
    rcases Nat.lt_or_ge j xs.length with h | h
    · rw [beN_take xs j h]
      have e : (xs.take (j + 1)).length = (xs.take j).length + 1 := by simp; omega
      rw [e, Nat.pow_succ]
      have hb := xs[j].toNat_lt
      omega
    · rw [List.take_of_length_le (by omega)]
      rw [List.take_of_length_le h] at ih
      exact ih
theorem beN_small (xs : List UInt8) (j m : Nat) (hj : j ≤ m) : beN (xs.take j) < 256 ^ m := by
  have h := beN_lt xs j
  have hl : (xs.take j).length ≤ m := by simp; omega
  exact Nat.lt_of_lt_of_le h (Nat.pow_le_pow_right (by decide) hl)

abbrev tQ : TypeId := 88

theorem RS.marked {w : World} {g : Nat} {A : Option Addr} {n c : Nat} {er : Int} (h : w.heap[g]? = some (.cells #[.slice A n c, .int .i64 er] tQ (0, 0))) (hn : n ≤ c) (hm : c ≤ maxLen) (xs : List UInt8) (k : Int) (hk : k ≠ 0) :
    RS (w.setCell ⟨g, 1, none⟩ (.int .i64 k)) g tQ xs k ∧ w.grownBy (w.setCell ⟨g, 1, none⟩ (.int .i64 k)) (some g) :=
  ⟨⟨A, n, c, by rw [heap_set h 1 _]; rfl, hn, hm, fun h0 => absurd h0 hk⟩, only_set w g 1 _⟩

set_option maxHeartbeats 1000000 in
theorem rfixed_bad (g : Nat) (xs : List UInt8) (er k : Int) (he : er ≠ 0) (w : World) (h : RS w g tQ xs er) :
    Calls Tryd.prog 53 #[.pointer (some ⟨g, 0, none⟩), .int .i64 k] w (Gave w g tQ [] xs er) := by
  obtain ⟨A, n, c, hw, hn, hm, hy⟩ := id h
  have h1 : w.cell? ⟨g, 1, none⟩ = some (.int .i64 er) := by rw [cell_of_row w g 1 _ _ _ hw]; rfl
  have e1 : (er == 0) = false := by simpa using he
  have e2 : (er != 0) = true := by simpa using he
  have H := Lib.hid h
  clear hw h hy
  go_enter Tryd.func53, Tryd.ntmps53
  go_wp2
  go_ret
  exact ⟨none, 0, 0, rfl, Nat.le_refl _, By.none_, H.out, only_refl _ _⟩

set_option maxHeartbeats 1000000 in
theorem rfixed_out (g : Nat) (xs : List UInt8) (k : Int) (hk : ¬ (0 ≤ k ∧ k ≤ xs.length)) (w : World) (h : RS w g tQ xs 0) :
    Calls Tryd.prog 53 #[.pointer (some ⟨g, 0, none⟩), .int .i64 k] w (Gave w g tQ [] [] 2) := by
  obtain ⟨A, n, c, hw, hn, hm, hy⟩ := h
  have hl := (hy rfl).len
  have h0 : w.cell? ⟨g, 0, none⟩ = some (.slice A n c) := by rw [cell_of_row w g 0 _ _ _ hw]; rfl
  have h1 : w.cell? ⟨g, 1, none⟩ = some (.int .i64 0) := by rw [cell_of_row w g 1 _ _ _ hw]; rfl
  have f1 : w.frozen? ⟨g, 1, none⟩ = false := frozen_of_row w g 1 _ _ hw
  have HW := Lib.hid hw
  clear hw hy
  by_cases hneg : k < 0
  · clear hk
    go_enter Tryd.func53, Tryd.ntmps53
    go_wp2
    go_ret
    exact ⟨none, 0, 0, rfl, Nat.le_refl _, By.none_, RS.marked HW.out hn hm [] 2 (by decide)⟩
  · have hgt : (n : Int) < k := by omega
    have hge : 0 ≤ k := by omega
    clear hk hneg hl
    go_enter Tryd.func53, Tryd.ntmps53
    go_wp2
    go_ret
    exact ⟨none, 0, 0, rfl, Nat.le_refl _, By.none_, RS.marked HW.out hn hm [] 2 (by decide)⟩

theorem rfix_keep {w : World} {g k : Nat} {cs : Array Value} {B : Option Addr} {ys : List UInt8} {base : Nat} (hw : w.heap[g]? = some (.cells cs tQ (0, 0))) (h : By w (fun g => base ≤ g ∧ g < w.heap.size ∧ Bk w g) B k ys) (u : Value) :
    By (w.setCell ⟨g, 0, none⟩ u) (Bk (w.setCell ⟨g, 0, none⟩ u)) B k ys :=
  (h.weak fun _ h => h.2.2).keepBk (only_set w g 0 u) (fun k hk => by injection hk with hk; subst hk; exact ⟨_, _, hw, by decide⟩)

set_option maxHeartbeats 1000000 in
theorem rfixed_in (g : Nat) (xs : List UInt8) (k : Nat) (hk : k ≤ xs.length) (hx : xs.length ≤ 1099511627776) (w : World) (h : RS w g tQ xs 0) :
    Calls Tryd.prog 53 #[.pointer (some ⟨g, 0, none⟩), .int .i64 k] w (Gave w g tQ (xs.take k) (xs.drop k) 0) := by
  obtain ⟨i0, hi, hz0, hz1, hz2⟩ := info_parts Tryd.info_u8
  obtain ⟨A, n, c, hw, hn, hm, hy⟩ := h
  have HY := Lib.hid (hy rfl)
  have hl : k ≤ n := by rw [← HY.out.len]; exact hk
  have hn40 : n ≤ 1099511627776 := by rw [← HY.out.len]; exact hx
  have h0 : w.cell? ⟨g, 0, none⟩ = some (.slice A n c) := by rw [cell_of_row w g 0 _ _ _ hw]; rfl
  have h1 : w.cell? ⟨g, 1, none⟩ = some (.int .i64 0) := by rw [cell_of_row w g 1 _ _ _ hw]; rfl
  have HW := Lib.hid hw
  have hglt : g < w.heap.size := (Array.getElem?_eq_some_iff.1 hw).1
  have hge : ¬ ((n : Int) < k) := by omega
  have h0a : ∀ o, (w.alloc o).cell? ⟨g, 0, none⟩ = some (.slice A n c) := fun o => (World.cell?_alloc_lt w o ⟨g, 0, none⟩ hglt).trans h0
  clear hw hy hk
  go_enter Tryd.func53, Tryd.ntmps53
  go_wp2_with (at_builtin; refine wpList_append_by _ rfl (.tmp 32) (.tmp 38) 22 rfl w.heap.size i0 Tryd.underlying22 hi hz0 hz1 hz2 _ 0 [] rfl (World.ownsRow_made w #[] 0 (Nat.le_refl _) (Nat.zero_le _) rfl) (Bk w) A k c (xs.take k) rfl ((HY.out.take hl).alloc _) (by omega) (by simp) ?_; intro v2 w2 hown2 hgrow2 _; simp only [Nat.zero_add, List.nil_append] at hown2; have hb2 : Below w.heap.size w w2 := ((Below.refl _ w).alloc (Nat.le_refl _) _).grown hgrow2 (by simp) (by intro k hk; simp [Act.eval, Value.ownBlock] at hk; omega); clear hgrow2; have hw2 := (hb2.block g hglt).trans HW.out; have h02 : w2.cell? ⟨g, 0, none⟩ = some (.slice A n c) := (by rw [cell_of_row w2 g 0 _ _ _ hw2]; rfl); have f02 := frozen_of_row w2 g 0 _ _ hw2; obtain ⟨B, cB, rfl, hcB, _⟩ := own_form hown2; have O2 := Lib.hid hown2; have HW2 := Lib.hid hw2; clear hown2 hw2; have HY2 := Lib.hid (HY.out.keepBk (w' := w2) (row := none) ⟨hb2.os, hb2.tape, hb2.output, hb2.size, fun k hk _ => hb2.block k hk⟩ (fun k h => by cases h)))
  · have ec : c = k := by assumption
    go_ret
    have T := took (k := k) (t := tQ) (by decide) HW2.out HY2.out hl hn hm (A' := A) (by rw [if_pos ec])
    have e0 : c - k = 0 := by omega
    rw [e0] at T
    exact ⟨B, k, cB, rfl, hcB, rfix_keep (g := g) HW2.out (By.of_own O2.out) _, T.2.1, only_trans (only_below hb2) T.2.2⟩
  · go_ret
    have T := took (k := k) (t := tQ) (by decide) HW2.out HY2.out hl hn hm (A' := Option.map (fun x => x.add k) A) (by rw [if_neg ‹_›])
    exact ⟨B, k, cB, rfl, hcB, rfix_keep (g := g) HW2.out (By.of_own O2.out) _, T.2.1, only_trans (only_below hb2) T.2.2⟩

theorem rfixed_any (g : Nat) (xs : List UInt8) (er k : Int) (hx : xs.length ≤ 1099511627776) (w : World) (h : RS w g tQ xs er) :
    Calls Tryd.prog 53 #[.pointer (some ⟨g, 0, none⟩), .int .i64 k] w (Gave w g tQ (takeY xs er k) (takeX xs er k) (takeE xs er k)) := by
  unfold takeY takeX takeE
  by_cases he : er = 0
  · subst he
    by_cases hk : 0 ≤ k ∧ k ≤ xs.length
    · obtain ⟨j, rfl⟩ := Int.eq_ofNat_of_zero_le hk.1
      simp only [if_true, hk, and_self]
      exact rfixed_in g xs j (by omega) hx w h
    · simp only [true_and, if_true, if_neg hk]
      exact rfixed_out g xs k hk w h
  · simp only [he, false_and, if_false]
    exact rfixed_bad g xs er k he w h

set_option maxHeartbeats 1000000 in
theorem rnumber_yes (g : Nat) (xs : List UInt8) (er : Int) (k : Nat) (hk : wid k = true) (hx : xs.length ≤ 1099511627776) (w : World) (h : RS w g tQ xs er) :
    Calls Tryd.prog 48 #[.pointer (some ⟨g, 0, none⟩), .int .i64 k] w
      (GaveV w g tQ (.int .u64 (beN (takeY xs er k))) (takeX xs er k) (takeE xs er k)) := by
  have k8 : k ≤ 8 := by have := wid_iff.1 hk; omega
  obtain ⟨A, n, c, hw, _, _, _⟩ := id h
  have h1 : w.cell? ⟨g, 1, none⟩ = some (.int .i64 er) := by rw [cell_of_row w g 1 _ _ _ hw]; rfl
  have H := Lib.hid h
  clear h hw
  have hlen : (takeY xs er k).length ≤ k := by unfold takeY; split <;> simp; omega
  by_cases he : (er == 0) = true
  all_goals (try simp only [Bool.not_eq_true] at he)
  all_goals go_enter Tryd.func48, Tryd.ntmps48
  all_goals go_wp2_with (first
    | (go_at_call 47; refine (size_any _ _).mono ?_; rintro e w' ⟨rfl, rfl⟩)
    | (go_at_call 53; refine (rfixed_any g xs er k hx _ H.out).mono ?_; rintro e w1 ⟨B, m, c, rfl, hmc, hy, hr, ho⟩; have HY := Lib.hid hy; have HR := Lib.hid hr; have HO := Lib.hid ho; clear hy hr ho))
  all_goals
    have hm : m ≤ 8 := by
      have := HY.out.len
      omega
    clear he h1 hlen
    generalize takeY xs er k = ys at *
    have hml : ys.length = m := HY.out.len
    have HL := Lib.hid hml
    clear hml
    go_loop [5, 25] (fun v i => ∃ j : Nat, j ≤ m ∧ i = .int .i64 j ∧ v = .int .u64 (beN (ys.take j))) (fun _ i => m - (intOf i).toNat)
    case atStart => exact ⟨0, Nat.zero_le _, rfl, rfl⟩
    case round =>
      obtain ⟨j, hj, rfl, rfl⟩ := hrel
      by_cases hlt : j < m
      · obtain ⟨gb, o, rfl, hc⟩ := HY.out.cell j (by rw [HL.out]; exact hlt)
        unfold u8 at hc
        have hjl : j < ys.length := by rw [HL.out]; exact hlt
        have hb1 := beN_small ys (j + 1) 8 (by omega)
        rw [beN_take ys j hjl] at hb1
        have h8 : (256 : Nat) ^ 8 = 18446744073709551616 := by decide
        rw [h8] at hb1
        clear h8
        have hbt := ys[j].toNat_lt
        go_wp2
        go_round
        case rel =>
          refine ⟨j + 1, by omega, by go_num, ?_⟩
          rw [beN_take ys j hjl]
          simp
        case measure => simp [intOf]; omega
      · go_wp2
        go_ret
        have e : ys.take j = ys := List.take_of_length_le (by rw [HL.out]; omega)
        exact ⟨by rw [e]; rfl, HR.out, HO.out⟩

set_option maxHeartbeats 1000000 in
theorem rnumber_no (g : Nat) (xs : List UInt8) (er : Int) (k : Int) (hk : wid k = false) (w : World) (h : RS w g tQ xs er) :
    Calls Tryd.prog 48 #[.pointer (some ⟨g, 0, none⟩), .int .i64 k] w (GaveV w g tQ (.int .u64 0) (failX xs er) (failE er 2)) := by
  obtain ⟨A, n, c, hw, hn, hm, hy⟩ := id h
  have h1 : w.cell? ⟨g, 1, none⟩ = some (.int .i64 er) := by rw [cell_of_row w g 1 _ _ _ hw]; rfl
  have f1 : w.frozen? ⟨g, 1, none⟩ = false := frozen_of_row w g 1 _ _ hw
  have HW := Lib.hid hw
  have H := Lib.hid h
  clear hw h hy
  by_cases he : er = 0
  · subst he
    have hM := RS.marked HW.out hn hm [] 2 (by decide)
    have M1 := Lib.hid hM.1
    have M2 := Lib.hid hM.2
    clear hM
    go_enter Tryd.func48, Tryd.ntmps48
    go_wp2_with (first
      | (go_at_call 47; refine (size_any _ _).mono ?_; rintro e w' ⟨rfl, rfl⟩)
      | (go_at_call 53; refine (rfixed_bad g [] 2 k (by decide) _ M1.out).mono ?_; rintro e w1 ⟨B, m, c, rfl, hmc, hy, hr, ho⟩; obtain rfl : m = 0 := hy.len.symm; have HR := Lib.hid hr; have HO := Lib.hid ho; clear hy hr ho))
    go_rounds 1
    go_ret
    exact ⟨rfl, HR.out, only_trans M2.out HO.out⟩
  · have hx : failX xs er = xs := if_neg he
    have hf : failE er 2 = er := if_neg he
    have e1 : (er == 0) = false := by simpa using he
    rw [hx, hf]
    clear hx hf
    go_enter Tryd.func48, Tryd.ntmps48
    go_wp2_with (first
      | (go_at_call 47; refine (size_any _ _).mono ?_; rintro e w' ⟨rfl, rfl⟩)
      | (go_at_call 53; refine (rfixed_bad g xs er k he _ H.out).mono ?_; rintro e w1 ⟨B, m, c, rfl, hmc, hy, hr, ho⟩; obtain rfl : m = 0 := hy.len.symm; have HR := Lib.hid hr; have HO := Lib.hid ho; clear hy hr ho))
    go_rounds 1
    go_ret
    exact ⟨rfl, HR.out, HO.out⟩

set_option maxHeartbeats 1000000 in
theorem mul64_any (x y : Nat) (hx : x < 18446744073709551616) (hy : y < 18446744073709551616) (w : World) :
    Calls Tryd.prog 55 #[.int .u64 x, .int .u64 y] w fun e w' => e = .returned (.tuple #[.int .u64 ((x * y / 18446744073709551616 : Nat) : Int), .int .u64 ((x * y % 18446744073709551616 : Nat) : Int)]) ∧ w = w' := by
  obtain ⟨bd, bt, bw, hhi⟩ := Lib.mul64_hi x y hx hy
  have ba := Lib.half_mul_le (a := x / 4294967296) (b := y / 4294967296) (by omega) (by omega)
  have bb := Lib.half_mul_le (a := x / 4294967296) (b := y % 4294967296) (by omega) (by omega)
  have bc := Lib.half_mul_le (a := x % 4294967296) (b := y / 4294967296) (by omega) (by omega)
  have ba' : x / 4294967296 * (y / 4294967296) < 18446744073709551616 := by omega
  have bb' : x / 4294967296 * (y % 4294967296) < 18446744073709551616 := by omega
  have bc' : x % 4294967296 * (y / 4294967296) < 18446744073709551616 := by omega
  have bh1 : x / 4294967296 * (y / 4294967296) + (x / 4294967296 * (y % 4294967296) + x % 4294967296 * (y % 4294967296) / 4294967296) / 4294967296 < 18446744073709551616 := by omega
  have bh : x / 4294967296 * (y / 4294967296) + (x / 4294967296 * (y % 4294967296) + x % 4294967296 * (y % 4294967296) / 4294967296) / 4294967296 + ((x / 4294967296 * (y % 4294967296) + x % 4294967296 * (y % 4294967296) / 4294967296) % 4294967296 + x % 4294967296 * (y / 4294967296)) / 4294967296 < 18446744073709551616 := by omega
  go_enter Tryd.func55, Tryd.ntmps55
  go_wp2
  simp only [Mul64.maskN x hx, Mul64.maskN y hy, Mul64.divN, Mul64.mulN, Mul64.addN, Mul64.wrapN _ bd, Mul64.wrapN _ bb', Mul64.wrapN _ bt, Mul64.maskN _ bt, Mul64.wrapN _ bc', Mul64.wrapN _ bw, Mul64.wrapN _ ba', Mul64.wrapN _ bh1, Mul64.wrapN _ bh, Mul64.wrapM (x * y)]
  rw [hhi]
  go_ret2
  exact ⟨rfl, rfl⟩

/-- is x, in 2^-32, to the power of two or three, above p? -/
def aboveF (x p : Nat) (cube : Bool) : Bool :=
  if cube then
    (decide (p * 4294967296 < x * x / 18446744073709551616 * x + x * x % 18446744073709551616 * x / 18446744073709551616) ||
      (x * x / 18446744073709551616 * x + x * x % 18446744073709551616 * x / 18446744073709551616 == p * 4294967296 && decide (0 < x * x % 18446744073709551616 * x % 18446744073709551616)))
  else (decide (p < x * x / 18446744073709551616) || (x * x / 18446744073709551616 == p && decide (0 < x * x % 18446744073709551616)))

theorem sq_bound (x : Nat) (hx : x < 68719476736) : x * x / 18446744073709551616 < 256 := by
  apply Nat.div_lt_of_lt_mul
  have h : x * x ≤ 68719476735 * 68719476735 := Nat.mul_le_mul (by omega) (by omega)
  omega
theorem cu_bound (l x : Nat) (hl : l < 18446744073709551616) (hx : x < 68719476736) : l * x / 18446744073709551616 < 68719476736 := by
  apply Nat.div_lt_of_lt_mul
  have h : l * x ≤ 18446744073709551615 * 68719476735 := Nat.mul_le_mul (by omega) (by omega)
  omega

set_option maxHeartbeats 2000000 in
theorem above_sq (x p : Nat) (hx : x < 68719476736) (w : World) :
    Calls Tryd.prog 52 #[.int .u64 x, .int .u64 p, .bool false] w fun e w' => e = .returned (.bool (aboveF x p false)) ∧ w = w' := by
  have hb := sq_bound x hx
  have hl := Nat.mod_lt (x * x) (y := 18446744073709551616) (by omega)
  have hm := fun w => mul64_any x x (by omega) (by omega) w
  have hv : aboveF x p false = (decide (p < x * x / 18446744073709551616) || (x * x / 18446744073709551616 == p && decide (0 < x * x % 18446744073709551616))) := rfl
  rw [hv]
  generalize x * x / 18446744073709551616 = H at *
  generalize x * x % 18446744073709551616 = L at *
  have HM := Lib.hid hm
  clear hm hv
  by_cases c1 : p < H
  · have g1 : decide ((p : Int) < H) = true := by simp; omega
    have e1 : decide (p < H) = true := by simp; omega
    rw [e1]
    go_enter Tryd.func52, Tryd.ntmps52
    go_wp2_with (go_at_call 55; refine (HM.out _).mono ?_; rintro e w' ⟨rfl, rfl⟩)
    go_ret
    exact ⟨rfl, rfl⟩
  · have g1 : decide ((p : Int) < H) = false := by simp; omega
    have e1 : decide (p < H) = false := by simp; omega
    by_cases c2 : H = p
    · have g3 : ((H : Int) == p) = true := by simp; omega
      have e3 : (H == p) = true := by simp; omega
      by_cases c3 : 0 < L
      · have g5 : decide (0 < (L : Int)) = true := by simp; omega
        have e5 : decide (0 < L) = true := by simp; omega
        rw [e1, e3, e5]
        go_enter Tryd.func52, Tryd.ntmps52
        go_wp2_with (go_at_call 55; refine (HM.out _).mono ?_; rintro e w' ⟨rfl, rfl⟩)
        go_ret
        exact ⟨rfl, rfl⟩
      · have g5 : decide (0 < (L : Int)) = false := by simp; omega
        have e5 : decide (0 < L) = false := by simp; omega
        rw [e1, e3, e5]
        go_enter Tryd.func52, Tryd.ntmps52
        go_wp2_with (go_at_call 55; refine (HM.out _).mono ?_; rintro e w' ⟨rfl, rfl⟩)
        go_ret
        exact ⟨rfl, rfl⟩
    · have g3 : ((H : Int) == p) = false := by simp; omega
      have e3 : (H == p) = false := by simp; omega
      rw [e1, e3]
      go_enter Tryd.func52, Tryd.ntmps52
      go_wp2_with (go_at_call 55; refine (HM.out _).mono ?_; rintro e w' ⟨rfl, rfl⟩)
      go_ret
      exact ⟨rfl, rfl⟩

set_option maxHeartbeats 2000000 in
theorem above_cu (x p : Nat) (hx : x < 68719476736) (hp : p ≤ 400) (w : World) :
    Calls Tryd.prog 52 #[.int .u64 x, .int .u64 p, .bool true] w fun e w' => e = .returned (.bool (aboveF x p true)) ∧ w = w' := by
  have hb := sq_bound x hx
  have hl := Nat.mod_lt (x * x) (y := 18446744073709551616) (by omega)
  have hm := fun w => mul64_any x x (by omega) (by omega) w
  have hv : aboveF x p true = (decide (p * 4294967296 < x * x / 18446744073709551616 * x + x * x % 18446744073709551616 * x / 18446744073709551616) ||
      (x * x / 18446744073709551616 * x + x * x % 18446744073709551616 * x / 18446744073709551616 == p * 4294967296 && decide (0 < x * x % 18446744073709551616 * x % 18446744073709551616))) := rfl
  rw [hv]
  generalize x * x / 18446744073709551616 = H at *
  generalize x * x % 18446744073709551616 = L at *
  have hc := cu_bound L x hl hx
  have hn := Nat.mod_lt (L * x) (y := 18446744073709551616) (by omega)
  have hm2 := fun w => mul64_any L x hl (by omega) w
  generalize L * x / 18446744073709551616 = M at *
  generalize L * x % 18446744073709551616 = N at *
  have hk : H * x < 17592186044416 := by
    have h : H * x ≤ 255 * 68719476735 := Nat.mul_le_mul (by omega) (by omega)
    omega
  have hmul : (H : Int) * (x : Int) = ((H * x : Nat) : Int) := (Int.natCast_mul H x).symm
  generalize H * x = K at *
  have HM := Lib.hid hm
  have HM2 := Lib.hid hm2
  clear hm hv hm2
  by_cases c1 : p * 4294967296 < K + M
  · have g1 : decide ((p : Int) * 4294967296 < (K : Int) + M) = true := by simp; omega
    have e1 : decide (p * 4294967296 < K + M) = true := by simp; omega
    rw [e1]
    go_enter Tryd.func52, Tryd.ntmps52
    go_wp2_with (first | (go_at_call 55; (with_reducible refine (HM.out _).mono ?_); rintro e w' ⟨rfl, rfl⟩) | (go_at_call 55; (with_reducible refine (HM2.out _).mono ?_); rintro e w' ⟨rfl, rfl⟩))
    go_ret
    exact ⟨rfl, rfl⟩
  · have g1 : decide ((p : Int) * 4294967296 < (K : Int) + M) = false := by simp; omega
    have e1 : decide (p * 4294967296 < K + M) = false := by simp; omega
    by_cases c2 : K + M = p * 4294967296
    · have g3 : (((K : Int) + M) == (p : Int) * 4294967296) = true := by simp; omega
      have e3 : (K + M == p * 4294967296) = true := by simp; omega
      by_cases c3 : 0 < N
      · have g5 : decide (0 < (N : Int)) = true := by simp; omega
        have e5 : decide (0 < N) = true := by simp; omega
        rw [e1, e3, e5]
        go_enter Tryd.func52, Tryd.ntmps52
        go_wp2_with (first | (go_at_call 55; (with_reducible refine (HM.out _).mono ?_); rintro e w' ⟨rfl, rfl⟩) | (go_at_call 55; (with_reducible refine (HM2.out _).mono ?_); rintro e w' ⟨rfl, rfl⟩))
        go_ret
        exact ⟨rfl, rfl⟩
      · have g5 : decide (0 < (N : Int)) = false := by simp; omega
        have e5 : decide (0 < N) = false := by simp; omega
        rw [e1, e3, e5]
        go_enter Tryd.func52, Tryd.ntmps52
        go_wp2_with (first | (go_at_call 55; (with_reducible refine (HM.out _).mono ?_); rintro e w' ⟨rfl, rfl⟩) | (go_at_call 55; (with_reducible refine (HM2.out _).mono ?_); rintro e w' ⟨rfl, rfl⟩))
        go_ret
        exact ⟨rfl, rfl⟩
    · have g3 : (((K : Int) + M) == (p : Int) * 4294967296) = false := by simp; omega
      have e3 : (K + M == p * 4294967296) = false := by simp; omega
      rw [e1, e3]
      go_enter Tryd.func52, Tryd.ntmps52
      go_wp2_with (first | (go_at_call 55; (with_reducible refine (HM.out _).mono ?_); rintro e w' ⟨rfl, rfl⟩) | (go_at_call 55; (with_reducible refine (HM2.out _).mono ?_); rintro e w' ⟨rfl, rfl⟩))
      go_ret
      exact ⟨rfl, rfl⟩

theorem above_any (x p : Nat) (cube : Bool) (hx : x < 68719476736) (hp : p ≤ 400) (w : World) :
    Calls Tryd.prog 52 #[.int .u64 x, .int .u64 p, .bool cube] w fun e w' => e = .returned (.bool (aboveF x p cube)) ∧ w = w' := by
  cases cube
  · exact above_sq x p hx w
  · exact above_cu x p hx hp w

def rootGo (p : Nat) (cube : Bool) : Nat → Nat → Nat
  | 0, x => x
  | b + 1, x => rootGo p cube b (if b < 36 && !aboveF (x + 2 ^ b) p cube then x + 2 ^ b else x)
def rootF (p : Nat) (cube : Bool) : UInt32 := UInt32.ofNat (rootGo p cube 38 0 % 4294967296)

theorem or_pow (x j : Nat) (hx : x % 2 ^ (j + 1) = 0) : x ||| 2 ^ j = x + 2 ^ j :=
  nat_join (j + 1) x (2 ^ j) hx (Nat.pow_lt_pow_right (by omega) (by omega))

theorem pow_room (x j : Nat) (hj : j < 36) (hx : x < 68719476736) (hm : x % 2 ^ (j + 1) = 0) : x + 2 ^ j < 68719476736 := by
  have h36 : 2 ^ (j + 1) * 2 ^ (35 - j) = 68719476736 := by rw [← Nat.pow_add, show j + 1 + (35 - j) = 36 from by omega]
  have hd := Nat.div_add_mod x (2 ^ (j + 1))
  rw [hm, Nat.add_zero] at hd
  have hq : x / 2 ^ (j + 1) < 2 ^ (35 - j) := Nat.div_lt_of_lt_mul (by rw [h36]; exact hx)
  have h1 : 2 ^ (j + 1) * (x / 2 ^ (j + 1) + 1) ≤ 2 ^ (j + 1) * 2 ^ (35 - j) := Nat.mul_le_mul_left _ hq
  rw [Nat.mul_add, hd, h36, Nat.mul_one, Nat.pow_succ] at h1
  have := Nat.two_pow_pos j
  omega
theorem mod_half (x j : Nat) (hm : x % 2 ^ (j + 1) = 0) : x % 2 ^ j = 0 := by
  have h : 2 ^ j ∣ x := Nat.dvd_trans ⟨2, by rw [Nat.pow_succ]⟩ (Nat.dvd_of_mod_eq_zero hm)
  exact Nat.mod_eq_zero_of_dvd h
theorem or_u64 (x j : Nat) (hj : j < 36) (hx : x < 68719476736) (hm : x % 2 ^ (j + 1) = 0) : bits .or .u64 (x : Int) (IntKind.u64.wrap (2 ^ j)) = ((x + 2 ^ j : Nat) : Int) := by
  have hp : 2 ^ j < 68719476736 := by have := pow_room x j hj hx hm; omega
  have e : ((2 : Int) ^ j) = ((2 ^ j : Nat) : Int) := by simp
  rw [e, IntKind.wrap_u64, ← or_pow x j hm]
  have e2 : (((2 ^ j : Nat) : Int) % 18446744073709551616) = ((2 ^ j : Nat) : Int) := by omega
  rw [e2, u64_or_nat x (2 ^ j) (by omega) (by omega)]

set_option maxHeartbeats 2000000 in
theorem root_any (p : Nat) (cube : Bool) (hp : p ≤ 400) (w : World) :
    Calls Tryd.prog 46 #[.int .u64 p, .bool cube] w fun e w' => e = .returned (.int .u32 (n32 (rootF p cube))) ∧ w = w' := by
  go_enter Tryd.func46, Tryd.ntmps46
  go_wp2
  go_loop [5, 6] (fun v i => ∃ (b x : Nat), b ≤ 38 ∧ i = .int .i64 ((b : Int) - 1) ∧ v = .int .u64 x ∧ x < 68719476736 ∧ x % 2 ^ b = 0 ∧ rootGo p cube b x = rootGo p cube 38 0) (fun _ i => (intOf i + 1).toNat)
  case atStart => exact ⟨38, 0, by omega, rfl, rfl, by omega, by simp, rfl⟩
  case round =>
    obtain ⟨b, x, hb, rfl, rfl, hx, hm, hgo⟩ := hrel
    rcases b with _ | j
    · have HG := Lib.hid hgo
      clear hgo hm
      go_wp2
      go_ret
      refine ⟨?_, rfl⟩
      have e : n32 (rootF p cube) = (x : Int) % 4294967296 := by
        rw [rootF, ← HG.out, rootGo, n32_ofNat _ (Nat.mod_lt _ (by omega))]
        omega
      rw [e]
      rfl
    · have hj : ((j + 1 : Nat) : Int) - 1 = (j : Int) := by omega
      rw [hj]
      clear hj
      have hm' := Lib.hid (mod_half x j hm)
      by_cases h36 : j < 36
      · have hor := or_u64 x j h36 hx hm
        have hroom := pow_room x j h36 hx hm
        have hm2 : (x + 2 ^ j) % 2 ^ j = 0 := by rw [Nat.add_mod_right]; exact hm'.out
        rw [rootGo] at hgo
        have hd : decide (j < 36) = true := by simpa using h36
        rw [hd, Bool.true_and] at hgo
        generalize x + 2 ^ j = y at hor hroom hm2 hgo
        have HA := Lib.hid (fun w => above_any y p cube hroom hp w)
        generalize aboveF y p cube = r at HA hgo
        have HM2 := Lib.hid hm2
        have HM := Lib.hid hm
        cases r
        · have HG := Lib.hid hgo
          clear hgo hm hm2 hd
          go_wp2_with (go_at_call 52; refine (HA.out _).mono ?_; rintro e w' ⟨rfl, rfl⟩)
          go_round
          case rel => exact ⟨j, y, by omega, rfl, rfl, hroom, HM2.out, HG.out⟩
          case measure => simp [intOf]
        · have HG := Lib.hid hgo
          clear hgo hm hm2 hd
          go_wp2_with (go_at_call 52; refine (HA.out _).mono ?_; rintro e w' ⟨rfl, rfl⟩)
          go_round
          case rel => exact ⟨j, x, by omega, rfl, rfl, hx, hm'.out, HG.out⟩
          case measure => simp [intOf]
      · rw [rootGo] at hgo
        have hd : decide (j < 36) = false := by simpa using h36
        rw [hd, Bool.false_and] at hgo
        have HG := Lib.hid hgo
        have HM := Lib.hid hm
        clear hgo hm hd
        go_wp2_with fail
        go_round
        case rel => exact ⟨j, x, by omega, rfl, rfl, hx, hm'.out, HG.out⟩
        case measure => simp [intOf]

def primeGo (p : Nat) : Nat → Nat → Bool
  | 0, _ => decide (1 < p)
  | f + 1, q => if q * q ≤ p then (if p % q = 0 then false else primeGo p f (q + 1)) else decide (1 < p)
def primeF (p : Nat) : Bool := primeGo p 20 2

set_option maxHeartbeats 1000000 in
theorem prime_any (p : Nat) (hp : p ≤ 400) (w : World) :
    Calls Tryd.prog 45 #[.int .u64 p] w fun e w' => e = .returned (.bool (primeF p)) ∧ w = w' := by
  go_enter Tryd.func45, Tryd.ntmps45
  go_wp2
  go_loop [3] (fun v => ∃ (q f : Nat), 2 ≤ q ∧ q + f = 22 ∧ v = .int .u64 q ∧ primeGo p f q = primeF p) (fun v => 22 - (intOf v).toNat)
  case atStart => exact ⟨2, 20, by omega, by omega, rfl, rfl⟩
  case round =>
    obtain ⟨q, f, hq, hf, rfl, hgo⟩ := hrel
    have hmul : (q : Int) * (q : Int) = ((q * q : Nat) : Int) := (Int.natCast_mul q q).symm
    have hqq : q * q ≤ 22 * 22 := Nat.mul_le_mul (by omega) (by omega)
    rcases f with _ | f
    · have h22 : q = 22 := by omega
      subst h22
      have HG := Lib.hid hgo
      have hle : ¬ (484 : Int) ≤ (p : Int) := by omega
      clear hgo hmul hqq hf hq
      go_wp2
      go_ret
      exact ⟨by rw [← HG.out, primeGo]; simp; omega, rfl⟩
    · rw [primeGo] at hgo
      by_cases hle : q * q ≤ p
      · rw [if_pos hle] at hgo
        generalize hQ : q * q = Q at *
        by_cases hdiv : p % q = 0
        · rw [if_pos hdiv] at hgo
          have h0 : (((p : Int) % (q : Int)) == 0) = true := by
            have : ((p % q : Nat) : Int) = 0 := by rw [hdiv]; rfl
            rw [Int.natCast_emod] at this
            simp [this]
          have HG := Lib.hid hgo
          clear hdiv hgo hQ
          go_wp2
          go_ret
          exact ⟨by rw [← HG.out]; rfl, rfl⟩
        · rw [if_neg hdiv] at hgo
          have h0 : (((p : Int) % (q : Int)) == 0) = false := by
            have : ((p % q : Nat) : Int) ≠ 0 := by omega
            rw [Int.natCast_emod] at this
            simpa using this
          have HG := Lib.hid hgo
          clear hdiv hgo hQ
          go_wp2
          go_round
          case rel => exact ⟨q + 1, f, by omega, by omega, by go_num, HG.out⟩
          case measure => simp [intOf]; omega
      · rw [if_neg hle] at hgo
        generalize hQ : q * q = Q at *
        have HG := Lib.hid hgo
        clear hgo hQ
        go_wp2
        go_ret
        exact ⟨by rw [← HG.out]; simp; omega, rfl⟩

def cw (ws : List UInt32) : List Value := ws.map c32
theorem cw_length (ws : List UInt32) : (cw ws).length = ws.length := by simp [cw]
theorem cw_get (ws : List UInt32) (j : Nat) : (cw ws)[j]? = (ws[j]?).map c32 := by simp [cw]
theorem cw_append (a b : List UInt32) : cw a ++ cw b = cw (a ++ b) := by simp [cw]
theorem cw_one {ws : List UInt32} : ∀ u ∈ cw ws, u.oneCell' = true := by
  intro u hu
  obtain ⟨x, _, rfl⟩ := List.mem_map.1 hu
  rfl

/-- The slice '.slice A n _' reads, in w, as the words ws, in memory of which Q is said. -/
def Wd (w : World) (Q : Nat → Prop) (A : Option Addr) (n : Nat) (ws : List UInt32) : Prop :=
  ws.length = n ∧ (0 < n → ∃ g o, A = some ⟨g, o, none⟩ ∧ Q g ∧ ∀ (j : Nat) (u : UInt32), ws[j]? = some u → w.cell? ⟨g, o + j, none⟩ = some (c32 u))
section
variable {w w' : World} {Q Q' : Nat → Prop} {A : Option Addr} {n : Nat} {ws : List UInt32}
theorem Wd.keep (h : Wd w Q A n ws) (hk : ∀ g, Q g → w'.heap[g]? = w.heap[g]?) : Wd w' Q A n ws :=
  ⟨h.1, fun hn => by
    obtain ⟨g, o, e, hb, hc⟩ := h.2 hn
    exact ⟨g, o, e, hb, fun j u hu => (World.cell?_of_block (a := ⟨g, o + j, none⟩) (hk g hb)).trans (hc j u hu)⟩⟩
theorem Wd.weak (h : Wd w Q A n ws) (hk : ∀ g, Q g → Q' g) : Wd w Q' A n ws :=
  ⟨h.1, fun hn => by
    obtain ⟨g, o, e, hb, hc⟩ := h.2 hn
    exact ⟨g, o, e, hk g hb, hc⟩⟩
theorem Wd.len (h : Wd w Q A n ws) : ws.length = n := h.1
theorem Wd.lt (h : Wd w Q A n ws) : Wd w (fun g => Q g ∧ g < w.heap.size) A n ws :=
  ⟨h.1, fun hn => by
    obtain ⟨g, o, e, hb, hc⟩ := h.2 hn
    have hl : 0 < ws.length := by have := h.1; omega
    have h0 := hc 0 ws[0] (List.getElem?_eq_getElem hl)
    exact ⟨g, o, e, ⟨hb, World.block_lt_of_cell? w ⟨g, o + 0, none⟩ h0⟩, hc⟩⟩
theorem Wd.take (h : Wd w Q A n ws) {k : Nat} (hk : k ≤ n) : Wd w Q A k (ws.take k) :=
  ⟨by rw [List.length_take, h.1]; omega, fun hn => by
    obtain ⟨g, o, e, hb, hc⟩ := h.2 (by omega)
    refine ⟨g, o, e, hb, fun j u hu => hc j u ?_⟩
    rw [List.getElem?_take] at hu
    split at hu
    · exact hu
    · cases hu⟩
theorem Wd.through (h : Wd w Q A n ws) (hb : Below w.heap.size w w') : Wd w' Q A n ws :=
  (h.lt.keep fun g hg => hb.block g hg.2).weak fun _ hg => hg.1
theorem Wd.cell (h : Wd w Q A n ws) (hn : 0 < n) : ∃ g o, A = some ⟨g, o, none⟩ ∧ Q g ∧ ∀ j, j < n → w.cell? ⟨g, o + j, none⟩ = some (.int .u32 (n32 (ws.getD j 0))) := by
  obtain ⟨g, o, e, hq, hc⟩ := h.2 hn
  refine ⟨g, o, e, hq, fun j hj => ?_⟩
  have hl : j < ws.length := by have := h.1; omega
  rw [hc j ws[j] (List.getElem?_eq_getElem hl)]
  simp [c32, List.getD, hl]
theorem Wd.of_own {base c : Nat} (h : w.ownsRow base 46 1 (.slice A n c) n (cw ws)) : Wd w (fun g => base ≤ g ∧ g < w.heap.size) A n ws := by
  have hl : ws.length = n := by have := h.1; simpa [cw] using this
  refine ⟨hl, fun hn => ?_⟩
  have h0 := h
  rcases h.2 with ⟨_, h'⟩ | ⟨g, cap, cur, hv, hbg, hg, _⟩
  · omega
  · injection hv with hA _ hc
    subst hA; subst hc
    refine ⟨g, 0, rfl, ⟨hbg, (Array.getElem?_eq_some_iff.1 hg).1⟩, fun j u hu => ?_⟩
    have hj : j < n := by rw [← hl]; exact (List.getElem?_eq_some_iff.1 hu).1
    rw [Nat.zero_add, h0.cellAt j (by omega), cw_get, hu]
    rfl
theorem own32_form {base : Nat} {v : Value} {ys : List Value} (h : w.ownsRow base 46 1 v n ys) : ∃ A c, v = .slice A n c ∧ n ≤ c ∧ c ≤ maxLen := by
  rcases h.2 with ⟨rfl, rfl⟩ | ⟨g, cap, cur, rfl, hbg, hg, hn, hm, _⟩
  · exact ⟨none, 0, rfl, Nat.le_refl _, by simp [maxLen]⟩
  · exact ⟨some ⟨g, 0, none⟩, cap, rfl, hn, hm⟩
/-- A row that the call made stands, where its block does. -/
theorem own_keep {base : Nat} {v : Value} {ys : List Value} {e : TypeId} {row : Option Nat} (h : w.ownsRow base e 1 v n ys) (hg : w.grownBy w' row) (hne : ∀ g, v.ownBlock = some g → row ≠ some g) : w'.ownsRow base e 1 v n ys := by
  refine ⟨h.1, ?_⟩
  rcases h.2 with h2 | ⟨g, cap, cur, hv, hbg, hgc, r⟩
  · exact .inl h2
  · refine .inr ⟨g, cap, cur, hv, hbg, (hg.block g (Array.getElem?_eq_some_iff.1 hgc).1 (fun e => ?_)).trans hgc, r⟩
    subst hv
    exact hne g rfl e.symm
theorem own_keepB {base : Nat} {v : Value} {ys : List Value} {e : TypeId} (h : w.ownsRow base e 1 v n ys) (hb : Below w.heap.size w w') : w'.ownsRow base e 1 v n ys := by
  refine ⟨h.1, ?_⟩
  rcases h.2 with h2 | ⟨g, cap, cur, hv, hbg, hgc, r⟩
  · exact .inl h2
  · exact .inr ⟨g, cap, cur, hv, hbg, (hb.block g (Array.getElem?_eq_some_iff.1 hgc).1).trans hgc, r⟩
end

theorem Tryd.info_u32 : (Tryd.prog.info? 46).map (fun i => (i.zero, i.size, i.bytes)) = some (some (.int .u32 0), 1, 4) := by kernel_rfl

theorem Blk.new_cell (w : World) (t : TypeId) (u : UInt32) : (w.alloc (.cells #[.int .u32 (n32 u)] t)).cell? ⟨w.heap.size, 0, none⟩ = some (c32 u) := by
  rw [cell_of_row _ w.heap.size _ _ _ _ (heap_alloc_new w _)]
  rfl
/-- 'append(s, x)' of one word, as the walk takes it. -/
theorem wpList_append_w {P : Program} {w : World} {ops : Array Oper} {rest : List Oper} {o : Oper} {a : Act} {Q : Exit → Act → World → Prop} (hgd : o.guard = none) (s x : Operand) (t : TypeId)
    (ho : o.op = .call { callee := .builtin .append, args := #[s, x], argTypes := #[t, t] })
    (base : Nat) (i : TypeInfo) (ht : P.underlying t = some (.slice 46)) (hi : P.info? 46 = some i) (hz : i.zero = some (.int .u32 0)) (hsize : i.size = 1) (hby : i.bytes = 4)
    (v : Value) (n : Nat) (ws : List UInt32) (hs : a.eval s = v) (hown : w.ownsRow base 46 1 v n (cw ws))
    (g : Nat) (c : Nat) (u : UInt32) (hx : a.eval x = .slice (some ⟨g, 0, none⟩) 1 c) (hc : w.cell? ⟨g, 0, none⟩ = some (c32 u)) (hn : n ≤ 1000000) (hbase : base ≤ w.heap.size)
    (h : ∀ g' cap w', w'.ownsRow base 46 1 (.slice (some ⟨g', 0, none⟩) (n + 1) cap) (n + 1) (cw (ws ++ [u])) → w.grownBy w' v.ownBlock → (v.ownBlock = some g' ∨ g' = w.heap.size) → n + 1 ≤ cap → cap ≤ maxLen → wpList P ops Q rest (a.put o.dst (.slice (some ⟨g', 0, none⟩) (n + 1) cap)) w') : wpList P ops Q (o :: rest) a w :=
  wpList_append_lies w hgd s x t ho base 46 i (.int .u32 0) 1 4 ht hi hz hsize hby rfl (by decide) v n (cw ws) hs hown ⟨g, 0, none⟩ 1 c [c32 u] hx rfl
    (fun j y hy => by
      match j, hy with
      | 0, hy =>
        simp at hy
        subst hy
        simpa [Addr.add] using hc)
    (fun y hy => by simp at hy; subst hy; rfl) (by omega) (by unfold maxLen; omega) (by omega) hbase _ rfl (fun g' cap w' h1 h2 h3 _ => by
      obtain ⟨A, c', e, h4, h5⟩ := own32_form h1
      injection e with _ _ e
      subst e
      exact h g' cap w' (by rw [← cw_append]; exact h1) h2 h3 h4 h5)

theorem run_append_keep {P : Program} (w : World) (base : Nat) (t ty : TypeId) (i : TypeInfo) (ht : P.underlying t = some (.slice 46)) (hi : P.info? 46 = some i) (hz : i.zero = some (.int .u32 0)) (hsize : i.size = 1) (hby : i.bytes = 4)
    (gw n cap : Nat) (ws : List UInt32) (hown : w.ownsRow base 46 1 (.slice (some ⟨gw, 0, none⟩) n cap) n (cw ws)) (g c : Nat) (u : UInt32) (hc : w.cell? ⟨g, 0, none⟩ = some (c32 u)) (hn : n ≤ 1000000) (hbase : base ≤ w.heap.size) :
    ∃ A' c' w', (Builtin.append_ #[t, t] ty #[.slice (some ⟨gw, 0, none⟩) n cap, .slice (some ⟨g, 0, none⟩) 1 c]).run P w = .ok (.slice A' (n + 1) c') w' ∧ w'.ownsRow base 46 1 (.slice A' (n + 1) c') (n + 1) (cw (ws ++ [u])) ∧
      w.grownBy w' (some gw) ∧ (∀ j, j < n → w'.cell? ⟨gw, j, none⟩ = w.cell? ⟨gw, j, none⟩) := by
  have hnews : ∀ j y, ([c32 u] : List Value)[j]? = some y → w.cell? ((⟨g, 0, none⟩ : Addr).add j) = some y := fun j y hy => by
    match j, hy with
    | 0, hy =>
      simp at hy
      subst hy
      simpa [Addr.add] using hc
  have hone : ∀ y ∈ ([c32 u] : List Value), y.oneCell' = true := fun y hy => by simp at hy; subst hy; rfl
  have hwl : ws.length = n := by have := hown.1; simpa [cw] using this
  obtain ⟨A0, c0, e0, hnc, hcm⟩ := own32_form hown
  injection e0 with _ _ e0
  subst e0
  by_cases hroom : n + 1 ≤ cap
  · obtain ⟨w', hr, h2, h3⟩ := run_append_fits (P := P) w base t ty 46 i 1 ht hi hsize gw n cap (cw ws) hown ⟨g, 0, none⟩ 1 c [c32 u] rfl hnews hone hroom
    rw [show cw ws ++ [c32 u] = cw (ws ++ [u]) from cw_append ws [u]] at h2
    refine ⟨_, _, w', hr, h2, h3, fun j hj => ?_⟩
    have h4 := h2.cellAt (g := gw) j (by omega)
    have h5 := hown.cellAt (g := gw) j (by omega)
    rw [h4, h5, cw_get, cw_get, List.getElem?_append_left (by omega)]
  · have hcells : ∀ j y, (cw ws)[j]? = some y → w.cell? ((⟨gw, 0, none⟩ : Addr).add j) = some y := fun j y hy => by
      have hj : j < n := by have := (List.getElem?_eq_some_iff.1 hy).1; rw [cw_length] at this; omega
      have ea : (⟨gw, 0, none⟩ : Addr).add j = ⟨gw, j, none⟩ := by unfold Addr.add; split <;> simp_all
      rw [ea, hown.cellAt (g := gw) j (by omega), hy]
    have hold : (Builtin.firstCells i.size n (.slice (some ⟨gw, 0, none⟩) n cap)).run P w.drew = .ok (cw ws).toArray w.drew :=
      run_firstCells_some w.drew i.size n ⟨gw, 0, none⟩ n cap (cw ws) (by rw [cw_length, hwl, hsize, Nat.mul_one]) hcells
    have hsrc : Src P i.size t (.slice (some ⟨g, 0, none⟩) 1 c) 1 [c32 u] w := Src.ofSlice w ht ⟨g, 0, none⟩ 1 c [c32 u] (by rw [hsize]; rfl) hnews hone
    have hrun := run_append_grow_src (P := P) w t t ty 46 i (.int .u32 0) ht hi hz (some ⟨gw, 0, none⟩) n cap (cw ws) hold (.slice (some ⟨g, 0, none⟩) 1 c) 1 [c32 u] hsrc (by omega) (by omega)
      (by rw [hby]; exact growslice_fits (by omega) (by omega))
    have h2 := run_append_own (P := P) w base t ty 46 i (.int .u32 0) 1 4 ht hi hz hsize hby rfl (by decide) (.slice (some ⟨gw, 0, none⟩) n cap) n (cw ws) hown ⟨g, 0, none⟩ 1 c [c32 u] rfl hnews hone (by unfold maxLen; omega) (by omega) hbase
    obtain ⟨v', w', hr, h3, h4, _⟩ := h2
    rw [hrun] at hr
    injection hr with hv hw
    subst hw; subst hv
    refine ⟨_, _, _, hrun, by rw [← cw_append]; exact h3, h4, fun j hj => ?_⟩
    have hlt : gw < w.heap.size := (hown.lt gw rfl).2
    exact World.cell?_alloc_lt w.drew _ ⟨gw, j, none⟩ hlt

theorem step_append_keep {P : Program} {ops : Array Oper} {o : Oper} {a : Act} {w : World} {K : Act → World → Prop} {R : Exit → Act → World → Prop} {E : Prop} (hw : Region.wanted o (yielded ops a.tmps) = true) (s x : Operand) (t : TypeId)
    (ho : o.op = .call { callee := .builtin .append, args := #[s, x], argTypes := #[t, t] })
    (base : Nat) (i : TypeInfo) (ht : P.underlying t = some (.slice 46)) (hi : P.info? 46 = some i) (hz : i.zero = some (.int .u32 0)) (hsize : i.size = 1) (hby : i.bytes = 4)
    (gw n cap : Nat) (ws : List UInt32) (hs : a.eval s = .slice (some ⟨gw, 0, none⟩) n cap) (hown : w.ownsRow base 46 1 (.slice (some ⟨gw, 0, none⟩) n cap) n (cw ws)) (g c : Nat) (u : UInt32) (hx : a.eval x = .slice (some ⟨g, 0, none⟩) 1 c) (hc : w.cell? ⟨g, 0, none⟩ = some (c32 u)) (hn : n ≤ 1000000) (hbase : base ≤ w.heap.size)
    (h : ∀ A' c' w', w'.ownsRow base 46 1 (.slice A' (n + 1) c') (n + 1) (cw (ws ++ [u])) → w.grownBy w' (some gw) → (∀ j, j < n → w'.cell? ⟨gw, j, none⟩ = w.cell? ⟨gw, j, none⟩) → K (a.put o.dst (.slice A' (n + 1) c')) w') :
    if Region.wanted o (yielded ops a.tmps) = true then Oper.wp P o a w K R else E := by
  rw [if_pos hw]
  obtain ⟨A', c', w', hrun, h2, h3, h4⟩ := run_append_keep (P := P) w base t o.type i ht hi hz hsize hby gw n cap ws hown g c u hc hn hbase
  unfold Oper.wp execOp
  simp only [ho, resolve, invoke, builtin, Sem.run_bind, Sem.run_pure, Result.andThen_ok, List.map_toArray, List.map_cons, List.map_nil, hs, hx, hrun]
  exact h A' c' w' h2 h3 h4

theorem step_build_one {P : Program} {ops : Array Oper} {o : Oper} {a : Act} {w : World} {K : Act → World → Prop} {Q : Exit → Act → World → Prop} {E : Prop} (hw : Region.wanted o (yielded ops a.tmps) = true) (t : TypeId) (x : Operand) (ho : o.op = .buildSlice t 1 #[(0, x)])
    (v : Value) (hx : a.eval x = v) (r : Value) (w' : World) (hrun : (Instr.buildSlice t 1 #[(0, v)]).run P w = .ok r w') (h : K (a.put o.dst r) w') : if Region.wanted o (yielded ops a.tmps) = true then Oper.wp P o a w K Q else E := by
  rw [if_pos hw]
  unfold Oper.wp execOp
  simp only [ho, Sem.run_bind, List.map_toArray, List.map_cons, List.map_nil, hx, hrun, Result.andThen_ok]
  exact h
theorem Tryd.build_one (v : Int) (w : World) : (Instr.buildSlice 52 1 #[(0, .int .u32 v)]).run Tryd.prog w = .ok (.slice (some ⟨w.heap.size, 0, none⟩) 1 1) (w.alloc (.cells #[.int .u32 v] 46)) := by kernel_rfl
theorem w32_add4 (a b c d : UInt32) : (n32 a + n32 b + n32 c + n32 d) % 4294967296 = n32 (a + b + c + d) := by
  rw [← w32_add, ← w32_add, ← w32_add]
  omega
theorem rnd_list (k w : UInt32) (s : S8) : (rnd k w s).list = [s.h + three s.e 6 11 25 + choose s.e s.f s.g + k + w + (three s.a 2 13 22 + most s.a s.b s.c), s.a, s.b, s.c, s.d + (s.h + three s.e 6 11 25 + choose s.e s.f s.g + k + w), s.e, s.f, s.g] := rfl
theorem w32_addW (x y : UInt32) : IntKind.u32.wrap (n32 x + n32 y) = n32 (x + y) := by
  rw [IntKind.wrap_u32', w32_add]
theorem cell_alloc {w : World} {g j : Nat} {v : Value} {o : Obj} (h : w.cell? ⟨g, j, none⟩ = some v) : (w.alloc o).cell? ⟨g, j, none⟩ = some v :=
  (World.cell?_alloc_lt w o ⟨g, j, none⟩ (World.block_lt_of_cell? w ⟨g, j, none⟩ h)).trans h
theorem load_one {w : World} {p : Addr} {v : Int} (h : w.cell? p = some (.int .u32 v)) : (Instr.loadAt 46 (.pointer (some p))).run Tryd.prog w = .ok (.int .u32 v) w := by
  have hag : (isAgg 46).run Tryd.prog w = .ok false w := by kernel_rfl
  simp only [Instr.loadAt, Instr.sureAddr, loadVar, Sem.run_bind, Sem.run_pure, hag, Result.andThen_ok, Bool.false_eq_true, if_false]
  simp [h]

/-- 'append(s, x...)' of words, at least one, as the walk takes it. -/
theorem wpList_append_ws {P : Program} {w : World} {ops : Array Oper} {rest : List Oper} {o : Oper} {a : Act} {Q : Exit → Act → World → Prop} (hgd : o.guard = none) (s x : Operand) (t : TypeId)
    (ho : o.op = .call { callee := .builtin .append, args := #[s, x], argTypes := #[t, t] })
    (base : Nat) (i : TypeInfo) (ht : P.underlying t = some (.slice 46)) (hi : P.info? 46 = some i) (hz : i.zero = some (.int .u32 0)) (hsize : i.size = 1) (hby : i.bytes = 4)
    (v : Value) (n : Nat) (ws : List UInt32) (hs : a.eval s = v) (hown : w.ownsRow base 46 1 v n (cw ws))
    (R : Nat → Prop) (A : Option Addr) (m c : Nat) (us : List UInt32) (hx : a.eval x = .slice A m c) (hr : Wd w R A m us) (hm : 0 < m) (hn : n + m ≤ 1000000) (hbase : base ≤ w.heap.size)
    (h : ∀ g' cap w', w'.ownsRow base 46 1 (.slice (some ⟨g', 0, none⟩) (n + m) cap) (n + m) (cw (ws ++ us)) → w.grownBy w' v.ownBlock → n + m ≤ cap → cap ≤ maxLen → wpList P ops Q rest (a.put o.dst (.slice (some ⟨g', 0, none⟩) (n + m) cap)) w') : wpList P ops Q (o :: rest) a w := by
  obtain ⟨g, og, rfl, _, hc⟩ := hr.2 hm
  refine wpList_append_lies w hgd s x t ho base 46 i (.int .u32 0) 1 4 ht hi hz hsize hby rfl (by decide) v n (cw ws) hs hown ⟨g, og, none⟩ m c (cw us) hx (by rw [cw_length, hr.1, Nat.mul_one])
    (fun j y hy => ?_) cw_one hm (by unfold maxLen; omega) (by omega) hbase _ rfl (fun g' cap w' h1 h2 h3 _ => ?_)
  · rw [cw_get] at hy
    obtain ⟨u, hu, rfl⟩ := Option.map_eq_some_iff.1 hy
    have ea : (⟨g, og, none⟩ : Addr).add j = ⟨g, og + j, none⟩ := by unfold Addr.add; split <;> simp_all
    rw [ea]
    exact hc j u hu
  · obtain ⟨A', c', e, h4, h5⟩ := own32_form h1
    injection e with _ _ e
    subst e
    exact h g' cap w' (by rw [← cw_append]; exact h1) h2 h4 h5
theorem own_one32 (w : World) (x : UInt32) {base : Nat} (hb : base ≤ w.heap.size) : (w.alloc (.cells #[.int .u32 (n32 x)] 46)).ownsRow base 46 1 (.slice (some ⟨w.heap.size, 0, none⟩) 1 1) 1 (cw [x]) := by
  have h : (w.alloc (.cells #[.int .u32 (n32 x)] 46)).ownsRow w.heap.size 46 1 (.slice (some ⟨w.heap.size, 0, none⟩) 1 1) 1 (cw [x]) := ⟨rfl, .inr ⟨w.heap.size, 1, _, rfl, Nat.le_refl _, heap_alloc_new w _, Nat.le_refl _, by unfold maxLen; omega, rfl, rfl⟩⟩
  refine ⟨h.1, ?_⟩
  rcases h.2 with h2 | ⟨g, cap, cur, hv, hbg, r⟩
  · exact .inl h2
  · exact .inr ⟨g, cap, cur, hv, Nat.le_trans hb hbg, r⟩
theorem own_made32 (w : World) : (w.alloc (.cells #[] 46)).ownsRow w.heap.size 46 1 (.slice (some ⟨w.heap.size, 0, none⟩) 0 0) 0 (cw []) := World.ownsRow_made w #[] 0 (Nat.le_refl _) (Nat.zero_le _) rfl

/-- 'append(s, x)' of one word, nil let in, at a step of a region that draws. -/
theorem step_append_w {P : Program} {ops : Array Oper} {o : Oper} {a : Act} {w : World} {K : Act → World → Prop} {R : Exit → Act → World → Prop} {E : Prop} (hgd : o.guard = none) (s x : Operand) (t : TypeId)
    (ho : o.op = .call { callee := .builtin .append, args := #[s, x], argTypes := #[t, t] })
    (base : Nat) (i : TypeInfo) (ht : P.underlying t = some (.slice 46)) (hi : P.info? 46 = some i) (hz : i.zero = some (.int .u32 0)) (hsize : i.size = 1) (hby : i.bytes = 4)
    (v : Value) (n : Nat) (ws : List UInt32) (hs : a.eval s = v) (hown : w.ownsRow base 46 1 v n (cw ws)) (g c : Nat) (u : UInt32) (hx : a.eval x = .slice (some ⟨g, 0, none⟩) 1 c) (hc : w.cell? ⟨g, 0, none⟩ = some (c32 u)) (hn : n ≤ 1000000) (hbase : base ≤ w.heap.size)
    (h : ∀ g' cap w', w'.ownsRow base 46 1 (.slice (some ⟨g', 0, none⟩) (n + 1) cap) (n + 1) (cw (ws ++ [u])) → w.grownBy w' v.ownBlock → K (a.put o.dst (.slice (some ⟨g', 0, none⟩) (n + 1) cap)) w') :
    if Region.wanted o (yielded ops a.tmps) = true then Oper.wp P o a w K R else E :=
  step_append_lies w hgd s x t ho base 46 i (.int .u32 0) 1 4 ht hi hz hsize hby rfl (by decide) v n (cw ws) hs hown ⟨g, 0, none⟩ 1 c [c32 u] hx rfl
    (fun j y hy => by
      match j, hy with
      | 0, hy =>
        simp at hy
        subst hy
        simpa [Addr.add] using hc)
    (fun y hy => by simp at hy; subst hy; rfl) (by omega) (by unfold maxLen; omega) (by omega) hbase _ rfl (fun g' cap w' h1 h2 _ _ => h g' cap w' (by rw [← cw_append]; exact h1) h2)

def kP : Nat → List UInt32
  | 0 => []
  | p + 1 => if primeF p then kP p ++ [rootF p true] else kP p
def hP : Nat → List UInt32
  | 0 => []
  | p + 1 => if primeF p then (if (hP p).length < 8 then hP p ++ [rootF p false] else hP p) else hP p
theorem kP_mono (p q : Nat) (h : p ≤ q) : (kP p).length ≤ (kP q).length := by
  induction q with
  | zero =>
    obtain rfl : p = 0 := by omega
    exact Nat.le_refl _
  | succ q ih =>
    by_cases e : p = q + 1
    · subst e; exact Nat.le_refl _
    · have := ih (by omega)
      rw [kP]
      split
      · rw [List.length_append]; omega
      · exact this
theorem kP_311 : (kP 311).length = 63 := by decide +kernel
theorem kP_312 : kP 312 = kTab := by decide +kernel
theorem hP_312 : hP 312 = first8.list := by decide +kernel
theorem hP_le (p : Nat) : (hP p).length ≤ 8 := by
  induction p with
  | zero => exact Nat.zero_le _
  | succ p ih =>
    rw [hP]
    split
    · split
      · rw [List.length_append]; simp; omega
      · exact ih
    · exact ih

abbrev OwnW (w : World) (base : Nat) (v : Value) (n : Nat) (ws : List UInt32) : Prop := w.ownsRow base 46 1 v n (cw ws)
theorem const_k {w wr wk : World} {o : Obj} {vk vh : Value} {nk nh nk' gk c : Nat} {K H K' : List UInt32} (hk : OwnW wr w.heap.size vk nk K) (hh : OwnW wr w.heap.size vh nh H) (hsep : ∀ g, vk.ownBlock = some g → vh.ownBlock ≠ some g) (hx : Below w.heap.size w wr)
    (hok : OwnW wk w.heap.size (.slice (some ⟨gk, 0, none⟩) nk' c) nk' K') (hgk : (wr.alloc o).grownBy wk vk.ownBlock) (hwk : vk.ownBlock = some gk ∨ gk = (wr.alloc o).heap.size) :
    OwnW wk w.heap.size (.slice (some ⟨gk, 0, none⟩) nk' c) nk' K' ∧ OwnW wk w.heap.size vh nh H ∧ (∀ g, (Value.slice (some ⟨gk, 0, none⟩) nk' c).ownBlock = some g → vh.ownBlock ≠ some g) ∧ Below w.heap.size w wk := by
  refine ⟨hok, own_keep (hh.alloc _) hgk (fun g hg e => hsep g e hg), fun g hg e => ?_, (hx.alloc hx.size _).grown hgk (Nat.le_trans hx.size (by simp)) (fun g hg => (hk.lt g hg).1)⟩
  have hgg : gk = g := by simpa [Value.ownBlock] using hg
  subst hgg
  rcases hwk with h | h
  · exact hsep gk h e
  · have := (hh.lt gk e).2
    simp at h
    omega
theorem const_h {w wk wh : World} {o : Obj} {vh : Value} {nk nh nh' gk gh c c' : Nat} {K H H' : List UInt32} (hk : OwnW wk w.heap.size (.slice (some ⟨gk, 0, none⟩) nk c) nk K) (hh : OwnW wk w.heap.size vh nh H) (hsep : ∀ g, (Value.slice (some ⟨gk, 0, none⟩) nk c).ownBlock = some g → vh.ownBlock ≠ some g) (hx : Below w.heap.size w wk)
    (hoh : OwnW wh w.heap.size (.slice (some ⟨gh, 0, none⟩) nh' c') nh' H') (hgh : (wk.alloc o).grownBy wh vh.ownBlock) (hwh : vh.ownBlock = some gh ∨ gh = (wk.alloc o).heap.size) :
    OwnW wh w.heap.size (.slice (some ⟨gk, 0, none⟩) nk c) nk K ∧ OwnW wh w.heap.size (.slice (some ⟨gh, 0, none⟩) nh' c') nh' H' ∧ (∀ g, (Value.slice (some ⟨gk, 0, none⟩) nk c).ownBlock = some g → (Value.slice (some ⟨gh, 0, none⟩) nh' c').ownBlock ≠ some g) ∧ Below w.heap.size w wh := by
  refine ⟨own_keep (hk.alloc _) hgh (fun g hg e => hsep g hg e), hoh, fun g hg e => ?_, (hx.alloc hx.size _).grown hgh (Nat.le_trans hx.size (by simp)) (fun g hg => (hh.lt g hg).1)⟩
  have h1 : gk = g := by simpa [Value.ownBlock] using hg
  have h2 : gh = g := by simpa [Value.ownBlock] using e
  subst h1; subst h2
  rcases hwh with h | h
  · exact hsep gh rfl h
  · have := (hk.lt gh rfl).2
    simp at h
    omega

set_option maxHeartbeats 2000000 in
set_option maxRecDepth 100000 in
theorem constants_any (w : World) :
    Calls Tryd.prog 29 #[] w fun e w' => ∃ Ak ck Ah ch, e = .returned (.tuple #[.slice Ak 64 ck, .slice Ah 8 ch]) ∧ Wd w' (fun g => w.heap.size ≤ g) Ak 64 kTab ∧ Wd w' (fun g => w.heap.size ≤ g) Ah 8 first8.list ∧ Below w.heap.size w w' := by
  obtain ⟨i0, hi, hz0, hz1, hz2⟩ := info_parts Tryd.info_u32
  go_enter Tryd.func29, Tryd.ntmps29
  go_wp2
  go_loopw [2, 3, 4] (fun k h pv wr => ∃ (p nk nh : Nat) (Ak Ah : Option Addr) (ck ch : Nat), 2 ≤ p ∧ p ≤ 312 ∧ pv = .int .u64 (p : Int) ∧ k = .slice Ak nk ck ∧ h = .slice Ah nh ch ∧ nk = (kP p).length ∧ nh = (hP p).length ∧
    wr.ownsRow w.heap.size 46 1 (.slice Ak nk ck) nk (cw (kP p)) ∧ wr.ownsRow w.heap.size 46 1 (.slice Ah nh ch) nh (cw (hP p)) ∧ (∀ g, (Value.slice Ak nk ck).ownBlock = some g → (Value.slice Ah nh ch).ownBlock ≠ some g) ∧ Below w.heap.size w wr) (fun _ _ pv _ => 312 - (intOf pv).toNat)
  case atStart => exact ⟨2, 0, 0, none, none, 0, 0, by omega, by omega, rfl, rfl, rfl, rfl, rfl, World.ownsRow_nil _ _ _ _, World.ownsRow_nil _ _ _ _, fun g h => by simp [Value.ownBlock] at h, Below.refl _ _⟩
  case round =>
    obtain ⟨p, nk, nh, Ak, Ah, ck, ch, hp2, hp, rfl, rfl, rfl, hnk, hnh, hk, hh, hsep, hx⟩ := hrel
    by_cases h312 : p = 312
    · subst h312
      rw [kP_312] at hnk hk
      rw [hP_312] at hnh hh
      have e1 : nk = 64 := hnk
      have e2 : nh = 8 := hnh
      subst e1; subst e2
      have HK := Lib.hid hk
      have HH := Lib.hid hh
      have HX := Lib.hid hx
      clear hk hh hx hnk hnh hsep
      go_wp2
      go_ret2
      exact ⟨Ak, ck, Ah, ch, rfl, (Wd.of_own HK.out).weak fun _ h => h.1, (Wd.of_own HH.out).weak fun _ h => h.1, HX.out⟩
    · have hp1 : p ≤ 311 := by omega
      have hk64 : nk < 64 := by
        have := kP_mono p 311 hp1
        rw [kP_311] at this
        omega
      have hh8 : nh ≤ 8 := by rw [hnh]; exact hP_le p
      have HPr := Lib.hid (fun w => prime_any p (by omega) w)
      have HRt := Lib.hid (fun w => root_any p true (by omega) w)
      have HRf := Lib.hid (fun w => root_any p false (by omega) w)
      have hkn : kP (p + 1) = if primeF p then kP p ++ [rootF p true] else kP p := rfl
      have hhn : hP (p + 1) = if primeF p then (if (hP p).length < 8 then hP p ++ [rootF p false] else hP p) else hP p := rfl
      rw [← hnh] at hhn
      have HNk := Lib.hid hnk
      have HNh := Lib.hid hnh
      have HK := Lib.hid hk
      have HH := Lib.hid hh
      have HX := Lib.hid hx
      have HSep := Lib.hid hsep
      clear h312 hk hh hx hsep hnk hnh
      cases hpr : primeF p
      · rw [hpr, if_neg (by decide)] at hkn hhn
        have HKn := Lib.hid hkn
        have HHn := Lib.hid hhn
        have HPr2 : Hid (∀ w, Calls Tryd.prog 45 #[.int .u64 (p : Int)] w fun e w' => e = .returned (.bool false) ∧ w = w') := Lib.hid (by rw [← hpr]; exact HPr.out)
        clear hkn hhn hpr
        go_wp2_with (go_at_call 45; refine (HPr2.out _).mono ?_; rintro e w' ⟨rfl, rfl⟩)
        go_roundw
        case rel => exact ⟨p + 1, nk, nh, Ak, Ah, ck, ch, by omega, by omega, by go_num, rfl, rfl, by rw [HKn.out]; exact HNk.out, by rw [HHn.out]; exact HNh.out, by rw [HKn.out]; exact HK.out, by rw [HHn.out]; exact HH.out, HSep.out, HX.out⟩
        case measure => simp [intOf]; omega
      · rw [hpr, if_pos rfl] at hkn hhn
        have HKn := Lib.hid hkn
        have HPr2 : Hid (∀ w, Calls Tryd.prog 45 #[.int .u64 (p : Int)] w fun e w' => e = .returned (.bool true) ∧ w = w') := Lib.hid (by rw [← hpr]; exact HPr.out)
        clear hkn hpr
        by_cases h8 : nh < 8
        · rw [if_pos h8] at hhn
          have HHn := Lib.hid hhn
          clear hhn
          go_wp2_with (first
            | (go_at_call 45; refine (HPr2.out _).mono ?_; rintro e w' ⟨rfl, rfl⟩)
            | (go_at_call 46; (with_reducible refine (HRt.out _).mono ?_); rintro e w' ⟨rfl, rfl⟩)
            | (go_at_call 46; (with_reducible refine (HRf.out _).mono ?_); rintro e w' ⟨rfl, rfl⟩)
            | (at_builtin; refine wpList_append_w rfl (.tmp 13) (.tmp 16) 52 rfl w.heap.size i0 Tryd.underlying52 hi hz0 hz1 hz2 (.slice Ak nk ck) nk (kP p) rfl (HK.out.alloc _) wr.heap.size 1 (rootF p true) rfl (Blk.new_cell _ _ _) (by omega) (by have := HX.out.size; simp; omega) ?_; intro gk ck2 wk hok hgk hwk hck1 hck2; have HU := Lib.hid (const_k HK.out HH.out HSep.out HX.out hok hgk hwk); clear hgk hwk)
            | (at_builtin; refine wpList_append_w rfl (.tmp 21) (.tmp 24) 52 rfl w.heap.size i0 Tryd.underlying52 hi hz0 hz1 hz2 (.slice Ah nh ch) nh (hP p) rfl (HU.out.2.1.alloc _) wk.heap.size 1 (rootF p false) rfl (Blk.new_cell _ _ _) (by omega) (by have := HU.out.2.2.2.size; simp; omega) ?_; intro gh ch2 wh hoh hgh hwh hch1 hch2; have HU2 := Lib.hid (const_h HU.out.1 HU.out.2.1 HU.out.2.2.1 HU.out.2.2.2 hoh hgh hwh); clear hgh hwh))
          go_roundw
          case rel => exact ⟨p + 1, nk + 1, nh + 1, some ⟨gk, 0, none⟩, some ⟨gh, 0, none⟩, ck2, ch2, by omega, by omega, by go_num, rfl, rfl, by rw [HKn.out, List.length_append, HNk.out]; rfl, by rw [HHn.out, List.length_append, HNh.out]; rfl, by rw [HKn.out]; exact HU2.out.1, by rw [HHn.out]; exact HU2.out.2.1, HU2.out.2.2.1, HU2.out.2.2.2⟩
          case measure => simp [intOf]; omega
        · rw [if_neg h8] at hhn
          have HHn := Lib.hid hhn
          clear hhn
          go_wp2_with (first
            | (go_at_call 45; refine (HPr2.out _).mono ?_; rintro e w' ⟨rfl, rfl⟩)
            | (go_at_call 46; (with_reducible refine (HRt.out _).mono ?_); rintro e w' ⟨rfl, rfl⟩)
            | (go_at_call 46; (with_reducible refine (HRf.out _).mono ?_); rintro e w' ⟨rfl, rfl⟩)
            | (at_builtin; refine wpList_append_w rfl (.tmp 13) (.tmp 16) 52 rfl w.heap.size i0 Tryd.underlying52 hi hz0 hz1 hz2 (.slice Ak nk ck) nk (kP p) rfl (HK.out.alloc _) wr.heap.size 1 (rootF p true) rfl (Blk.new_cell _ _ _) (by omega) (by have := HX.out.size; simp; omega) ?_; intro gk ck2 wk hok hgk hwk hck1 hck2; have HU := Lib.hid (const_k HK.out HH.out HSep.out HX.out hok hgk hwk); clear hgk hwk))
          go_roundw
          case rel => exact ⟨p + 1, nk + 1, nh, some ⟨gk, 0, none⟩, Ah, ck2, ch, by omega, by omega, by go_num, rfl, rfl, by rw [HKn.out, List.length_append, HNk.out]; rfl, by rw [HHn.out]; exact HNh.out, by rw [HKn.out]; exact HU.out.1, by rw [HHn.out]; exact HU.out.2.1, HU.out.2.2.1, HU.out.2.2.2⟩
          case measure => simp [intOf]; omega

theorem shl_or (v : Nat) (x : UInt8) (hv : v < 16777216) : (UInt32.ofNat v <<< 8) ||| x.toUInt32 = UInt32.ofNat (v * 256 + x.toNat) := by
  have hx := x.toNat_lt
  apply UInt32.toNat_inj.1
  rw [UInt32.toNat_or, UInt32.toNat_shiftLeft, UInt32.toNat_ofNat_of_lt' (by simp [UInt32.size]; omega), UInt32.toNat_ofNat_of_lt' (by simp [UInt32.size]; omega)]
  have e : v <<< ((8 : UInt32).toNat % 32) % 2 ^ 32 = v * 256 := by
    show v <<< 8 % 2 ^ 32 = v * 256
    rw [Nat.shiftLeft_eq]
    omega
  rw [e]
  have e2 : x.toUInt32.toNat = x.toNat := by simp
  rw [e2, nat_join 8 (v * 256) x.toNat (by omega) (by omega)]
theorem beW_beN (l : List UInt8) (j : Nat) (hj : j ≤ 4) : beW (l.take j) = UInt32.ofNat (beN (l.take j)) := by
  induction j with
  | zero => simp [beW, beN]
  | succ j ih =>
    rcases Nat.lt_or_ge j l.length with h | h
    · have hs := beN_small l j 3 (by omega)
      rw [List.take_succ_eq_append_getElem h]
      have e1 : beW (l.take j ++ [l[j]]) = (beW (l.take j) <<< 8) ||| l[j].toUInt32 := by unfold beW; rw [List.foldl_append]; rfl
      rw [e1, ih (by omega), beN_snoc, shl_or _ _ (by simpa using hs)]
    · have := ih (by omega)
      rw [List.take_of_length_le (by omega)] at this ⊢
      exact this
theorem word_n32 (l : List UInt8) : ((beN (l.take 4) : Nat) : Int) = n32 (beW (l.take 4)) := by
  have hs := beN_small l 4 4 (by omega)
  rw [beW_beN l 4 (by omega), n32_ofNat _ (by simpa using hs)]
theorem n32_mod (x : UInt32) : n32 x % 4294967296 = n32 x := by
  have h0 := n32_lo x
  have h1 := n32_hi x
  omega

/-- 'b[l:h]', whatever the capacity. -/
theorem run_cut2 {P : Program} (w : World) (t e : TypeId) (A : Option Addr) (n c : Nat) (k1 k2 : IntKind) (l h : Int) (ht : P.underlying t = some (.slice e)) (hs : (P.info? e).map (·.size) = some 1) (h0 : 0 ≤ l) (h1 : l ≤ h) (h2 : h ≤ c) :
    (Instr.slice t (.slice A n c) (some (.int k1 l)) (some (.int k2 h)) none).run P w = .ok (.slice (cutA A c l.toNat) (h.toNat - l.toNat) (c - l.toNat)) w := by
  have eh : (h.toNat : Int) = h := Int.toNat_of_nonneg (by omega)
  cases hq : P.info? e with
  | none => simp [hq] at hs
  | some info =>
    have hi : info.size = 1 := by simpa [hq] using hs
    simp [Instr.slice, Sem.run_bind, run_underlying ht, Instr.sliceBounds, run_sliceBound, sizeOf, typeInfo, hq, hi, h0, h1, h2, eh, (by omega : 0 ≤ h), cutA]
theorem By.bk {w w' : World} {A : Option Addr} {n : Nat} {xs : List UInt8} (h : By w (Bk w) A n xs) (hb : Below w.heap.size w w') : By w' (Bk w') A n xs :=
  h.keepBk (w' := w') (row := none) ⟨hb.os, hb.tape, hb.output, hb.size, fun k hk _ => hb.block k hk⟩ (fun k h => by cases h)
/-- A reader of the four bytes of a word, in a new block. -/
theorem RS.word {w : World} {A : Option Addr} {c j : Nat} {b : List UInt8} (h : By w (Bk w) A 64 b) (hc : 64 ≤ c) (hm : c ≤ maxLen) (hj : j < 16) :
    RS (w.alloc (.cells #[.slice (cutA A c (4 * j)) 4 (c - 4 * j), .int .i64 0] tQ)) w.heap.size tQ ((b.drop (4 * j)).take 4) 0 := by
  refine ⟨_, 4, _, heap_alloc_new w _, by omega, by omega, fun _ => ?_⟩
  have h1 := h.bk (w' := w.alloc (.cells #[.slice (cutA A c (4 * j)) 4 (c - 4 * j), .int .i64 0] tQ)) ((Below.refl _ w).alloc (Nat.le_refl _) _)
  have h2 := h1.drop (k := 4 * j) (c := c) (by omega) hc
  exact h2.take (k := 4) (by omega)

theorem rturn_q (x : UInt32) (n : Int) (h0 : 0 ≤ n) (h1 : n < 32) (w : World) :
    Calls Tryd.prog 49 #[.int .u32 (n32 x), .int .i64 n] w fun e w' => e = .returned (.int .u32 (n32 (rotr x n.toNat))) ∧ w' = w :=
  (rturn_mod x n n.toNat (by omega) (by omega) w).mono fun _ _ ⟨he, hw⟩ => ⟨he, hw.symm⟩
theorem rthree_q (x : UInt32) (i j k : Int) (hi : 0 ≤ i ∧ i < 32) (hj : 0 ≤ j ∧ j < 32) (hk : 0 ≤ k ∧ k < 32) (w : World) :
    Calls Tryd.prog 50 #[.int .u32 (n32 x), .int .i64 i, .int .i64 j, .int .i64 k] w fun e w' => e = .returned (.int .u32 (n32 (three x i.toNat j.toNat k.toNat))) ∧ w' = w := by
  have h := rthree_any x i.toNat j.toNat k.toNat (by omega) (by omega) (by omega) w
  rw [Int.toNat_of_nonneg hi.1, Int.toNat_of_nonneg hj.1, Int.toNat_of_nonneg hk.1] at h
  exact h.mono fun _ _ ⟨he, hw⟩ => ⟨he, hw.symm⟩

abbrev OwnV (w : World) (base : Nat) (v : Value) (n : Nat) (ws : List UInt32) : Prop := w.ownsRow base 46 1 v n (cw ws)

theorem own_cells {w : World} {base n c : Nat} {A : Option Addr} {ws : List UInt32} (h : OwnV w base (.slice A n c) n ws) (hn : 0 < n) : ∃ g, A = some ⟨g, 0, none⟩ ∧ ∀ j, j < n → w.cell? ⟨g, j, none⟩ = some (.int .u32 (n32 (ws.getD j 0))) := by
  have hl : ws.length = n := by have := h.1; simpa [cw] using this
  obtain ⟨g, cap, e, _, _⟩ := World.ownsRow.form h hn
  injection e with e _ _
  subst e
  refine ⟨g, rfl, fun j hj => ?_⟩
  rw [h.cellAt (g := g) j (by omega), cw_get, List.getElem?_eq_getElem (by omega)]
  simp [c32, List.getD, hl, hj]
set_option maxHeartbeats 4000000 in
set_option maxRecDepth 100000 in
theorem block_any (Qh Qk : Nat → Prop) (s : S8) (b : List UInt8) (Ah Ak Ab : Option Addr) (ch ck cb : Nat) (w : World) (hh : Wd w Qh Ah 8 s.list) (hk : Wd w Qk Ak 64 kTab) (hb : By w (Bk w) Ab 64 b) (hcb : 64 ≤ cb) (hmb : cb ≤ maxLen) :
    Calls Tryd.prog 31 #[.slice Ah 8 ch, .slice Ak 64 ck, .slice Ab 64 cb] w fun e w' => ∃ A c, e = .returned (.slice A 8 c) ∧ OwnV w' w.heap.size (.slice A 8 c) 8 (press s b).list ∧ Below w.heap.size w w' := by
  obtain ⟨i0, hi, hz0, hz1, hz2⟩ := info_parts Tryd.info_u32
  have HHh := Lib.hid hh
  have HKk := Lib.hid hk
  have HBb := Lib.hid hb
  have HMb := Lib.hid hmb
  clear hh hk hb hmb
  go_enter Tryd.func31, Tryd.ntmps31
  go_wp2
  go_loopw [7, 8] (fun wv iv wr => ∃ (i : Nat) (A : Option Addr) (c : Nat), i ≤ 64 ∧ iv = .int .i64 i ∧ wv = .slice A i c ∧ OwnV wr w.heap.size (.slice A i c) i (wds b i) ∧ Below w.heap.size w wr) (fun _ iv _ => 64 - (intOf iv).toNat)
  case atStart => exact ⟨0, none, 0, by omega, rfl, rfl, World.ownsRow_nil _ _ _ _, Below.refl _ _⟩
  case round =>
    obtain ⟨i, A, c, hi64, rfl, rfl, hw, hx⟩ := hrel
    by_cases hlt : i < 64
    · by_cases h16 : i < 16
      · as_aux_lemma =>
        have hsl := fun (W : World) => run_cut2 (P := Tryd.prog) W 22 5 Ab 64 cb .i64 .i64 (4 * (i : Int)) (4 * (i : Int) + 4) Tryd.underlying22 (by kernel_rfl) (by omega) (by omega) (by omega)
        have e1 : (4 * (i : Int)).toNat = 4 * i := by omega
        have e2 : (4 * (i : Int) + 4).toNat - 4 * i = 4 := by omega
        rw [e1, e2] at hsl
        have hby := (HBb.out.bk hx)
        have hrs := RS.word (j := i) hby hcb HMb.out h16
        have hlen : ((b.drop (4 * i)).take 4).length ≤ 1099511627776 := by rw [List.length_take]; omega
        have hx1 := hx.size
        have hnext : wds b (i + 1) = wds b i ++ [beW ((b.drop (4 * i)).take 4)] := by rw [wds, nextW, if_pos h16]; rfl
        have hval : ((beN (takeY ((b.drop (4 * i)).take 4) 0 4) : Nat) : Int) = n32 (beW ((b.drop (4 * i)).take 4)) := by
          have hl4 : ((b.drop (4 * i)).take 4).length = 4 := by rw [List.length_take, List.length_drop, HBb.out.len]; omega
          rw [← word_n32]
          congr 2
          unfold takeY
          rw [hl4, if_pos ⟨rfl, by decide, by decide⟩]
          exact List.take_of_length_le (by rw [hl4]; decide)
        have hnum : ∀ W g, RS W g tQ ((b.drop (4 * i)).take 4) 0 → Calls Tryd.prog 48 #[.pointer (some ⟨g, 0, none⟩), .int .i64 4] W fun e w' => e = .returned (.int .u64 (n32 (beW ((b.drop (4 * i)).take 4)))) ∧ W.grownBy w' (some g) := fun W g h =>
          (rnumber_yes g _ 0 4 rfl hlen W h).mono fun e w' ⟨he, _, ho⟩ => ⟨by rw [he]; exact congrArg (fun z => Ending.returned (Value.int .u64 z)) hval, ho⟩
        generalize beW ((b.drop (4 * i)).take 4) = x at hnum hnext
        have hmod := n32_mod x
        have HNum := Lib.hid hnum
        have HRs := Lib.hid hrs
        have HNext := Lib.hid hnext
        have HW := Lib.hid hw
        have HX := Lib.hid hx
        clear hnum hrs hnext hw hx hby hlen hval e1 e2
        go_wp2_with (first
          | (go_at_call 48; refine (HNum.out _ wr.heap.size HRs.out).mono ?_; rintro e w3 ⟨rfl, ho3⟩; have HO3 := Lib.hid ho3; clear ho3)
          | (at_builtin; refine wpList_append_w rfl (.tmp 33) (.tmp 37) 52 rfl w.heap.size i0 Tryd.underlying52 hi hz0 hz1 hz2 (.slice A i c) i (wds b i) rfl ((own_keep (HW.out.alloc _) HO3.out (fun g hg e => by have := (HW.out.lt g hg).2; injection e with e; omega)).alloc _) w3.heap.size 1 x rfl (Blk.new_cell _ _ _) (by omega) (by have := HO3.out.size; simp at this ⊢; omega) ?_; intro g4 c4 w4 hok hg4 hw4 hc4 hm4; have HOk := Lib.hid hok; have HG4 := Lib.hid hg4; clear hok hg4 hw4))
        go_roundw
        case rel =>
          have h3 := (HX.out.alloc HX.out.size (.cells #[.slice (cutA Ab cb (4 * i)) 4 (cb - 4 * i), .int .i64 0] tQ)).grown HO3.out (Nat.le_trans HX.out.size (by simp)) (fun g hg => Option.some.inj hg ▸ HX.out.size)
          have h4 := (h3.alloc h3.size (.cells #[.int .u32 (n32 x)] 46)).grown HG4.out (Nat.le_trans h3.size (by simp)) (fun g hg => (HW.out.lt g hg).1)
          exact ⟨i + 1, some ⟨g4, 0, none⟩, c4, by omega, by go_num, rfl, by rw [HNext.out]; exact HOk.out, h4⟩
        case measure => simp [intOf]; omega
      · as_aux_lemma =>
        obtain ⟨gw, rfl, hcell⟩ := own_cells hw (by omega)
        have c15 := hcell (i - 15) (by omega)
        have c2 := hcell (i - 2) (by omega)
        have c16 := hcell (i - 16) (by omega)
        have c7 := hcell (i - 7) (by omega)
        have hnext : wds b (i + 1) = wds b i ++ [(wds b i).getD (i - 16) 0 + sg0 ((wds b i).getD (i - 15) 0) + (wds b i).getD (i - 7) 0 + sg1 ((wds b i).getD (i - 2) 0)] := by rw [wds, nextW, if_neg h16]
        generalize (wds b i).getD (i - 15) 0 = x15 at c15 hnext
        generalize (wds b i).getD (i - 2) 0 = x2 at c2 hnext
        generalize (wds b i).getD (i - 16) 0 = x16 at c16 hnext
        generalize (wds b i).getD (i - 7) 0 = x7 at c7 hnext
        have hxx := w32_xor
        have haa := w32_add
        have s3 := w32_shr3
        have s10 := w32_shr10
        have hw15 : IntKind.i64.wrap ((i : Int) - 15) = (i : Int) - 15 := by rw [IntWalk.i64_in _ (by omega)]
        have hw2 : IntKind.i64.wrap ((i : Int) - 2) = (i : Int) - 2 := by rw [IntWalk.i64_in _ (by omega)]
        have hw16 : IntKind.i64.wrap ((i : Int) - 16) = (i : Int) - 16 := by rw [IntWalk.i64_in _ (by omega)]
        have hw7 : IntKind.i64.wrap ((i : Int) - 7) = (i : Int) - 7 := by rw [IntWalk.i64_in _ (by omega)]
        have l7 : (7 : Int) ≤ (i : Int) := by omega
        have l16 : (16 : Int) ≤ (i : Int) := by omega
        have l7' : ¬ (i : Int) < 7 := by omega
        have b16 : (0 : Int) ≤ (i : Int) - 16 := by omega
        have b16' : (i : Int) - 16 < (i : Int) := by omega
        have b7 : (0 : Int) ≤ (i : Int) - 7 := by omega
        have b7' : (i : Int) - 7 < (i : Int) := by omega
        have t15 : ((i : Int) - 15).toNat = i - 15 := by omega
        have t2 : ((i : Int) - 2).toNat = i - 2 := by omega
        have t16 : ((i : Int) - 16).toNat = i - 16 := by omega
        have t7 : ((i : Int) - 7).toNat = i - 7 := by omega
        obtain ⟨y, hy⟩ : ∃ y, y = x16 + (rotr x15 7 ^^^ rotr x15 18 ^^^ shr x15 3) + x7 + (rotr x2 17 ^^^ rotr x2 19 ^^^ shr x2 10) := ⟨_, rfl⟩
        have HYy := Lib.hid hy
        unfold sg0 sg1 at hnext
        rw [← hy] at hnext
        have haW := w32_addW
        have HNext := Lib.hid hnext
        have HW := Lib.hid hw
        have HX := Lib.hid hx
        clear hnext hw hx hcell hy
        go_wp2
        go_quiet (fail)
        go_wp2
        refine wp_region_held_drew (S := fun W => Below w.heap.size w W ∧ W.cell? ⟨gw, i - 16, none⟩ = some (.int .u32 (n32 x16)) ∧ W.cell? ⟨gw, i - 7, none⟩ = some (.int .u32 (n32 x7))) (by kernel_rfl) ⟨(below_drewN HX.out nq).drew, c16, c7⟩ (fun hHeld => ?_)
        change wpAnyH _ _ _ _ _ _ #[false, false, false, false, false, false, false, false, false, false, false, false, false, false, false, false, false, false, false, false, false, false, false, false, false, false, false, false, false, false, false, false, false] _ _
        refine wpAnyH_take (i := 0) (v := (.slice (some ⟨gw, 0, none⟩) i c)) rfl (by kernel_rfl) (by kernel_rfl) (by kernel_rfl) (fun _ _ _ h => h) (Or.inl ⟨by kernel_rfl, fun w hSw => ?_⟩) (by assumption) ?_
        · (try dsimp only at hSw); go_simp <;> (try simp only [w32_addW, w32_add, w32_xor])
        change wpAnyH _ _ _ _ _ _ _ (Act.put _ (some (49 : Nat)) (.slice (some ⟨gw, 0, none⟩) i c)) _
        simp only [Act.put, List.setIfInBounds_toArray, List.set_cons_zero, List.set_cons_succ]
        refine wpAnyH_take (i := 1) (v := (.slice (some ⟨gw, 0, none⟩) i c)) rfl (by kernel_rfl) (by kernel_rfl) (by kernel_rfl) (fun _ _ _ h => h) (Or.inl ⟨by kernel_rfl, fun w hSw => ?_⟩) (by assumption) ?_
        · (try dsimp only at hSw); go_simp <;> (try simp only [w32_addW, w32_add, w32_xor])
        change wpAnyH _ _ _ _ _ _ _ (Act.put _ (some (50 : Nat)) (.slice (some ⟨gw, 0, none⟩) i c)) _
        simp only [Act.put, List.setIfInBounds_toArray, List.set_cons_zero, List.set_cons_succ]
        refine wpAnyH_take (i := 2) (v := (.int .i64 (i : Int))) rfl (by kernel_rfl) (by kernel_rfl) (by kernel_rfl) (fun _ _ _ h => h) (Or.inl ⟨by kernel_rfl, fun w hSw => ?_⟩) (by assumption) ?_
        · (try dsimp only at hSw); go_simp <;> (try simp only [w32_addW, w32_add, w32_xor])
        change wpAnyH _ _ _ _ _ _ _ (Act.put _ (some (51 : Nat)) (.int .i64 (i : Int))) _
        simp only [Act.put, List.setIfInBounds_toArray, List.set_cons_zero, List.set_cons_succ]
        refine wpAnyH_take (i := 3) (v := (.int .i64 ((i : Int) - 16))) rfl (by kernel_rfl) (by kernel_rfl) (by kernel_rfl) (fun _ _ _ h => h) (Or.inl ⟨by kernel_rfl, fun w hSw => ?_⟩) (by assumption) ?_
        · (try dsimp only at hSw); go_simp <;> (try simp only [w32_addW, w32_add, w32_xor])
        change wpAnyH _ _ _ _ _ _ _ (Act.put _ (some (52 : Nat)) (.int .i64 ((i : Int) - 16))) _
        simp only [Act.put, List.setIfInBounds_toArray, List.set_cons_zero, List.set_cons_succ]
        refine wpAnyH_take (i := 4) (v := (.pointer (some ⟨gw, i - 16, none⟩))) rfl (by kernel_rfl) (by kernel_rfl) (by kernel_rfl) (fun _ _ _ h => h) (Or.inl ⟨by kernel_rfl, fun w hSw => ?_⟩) (by assumption) ?_
        · (try dsimp only at hSw); go_simp <;> (try simp only [w32_addW, w32_add, w32_xor])
        change wpAnyH _ _ _ _ _ _ _ (Act.put _ (some (53 : Nat)) (.pointer (some ⟨gw, i - 16, none⟩))) _
        simp only [Act.put, List.setIfInBounds_toArray, List.set_cons_zero, List.set_cons_succ]
        refine wpAnyH_take (i := 5) (v := (.int .u32 (n32 x16))) rfl (by kernel_rfl) (by kernel_rfl) (by kernel_rfl) (fun _ _ _ h => h) (yields_load_at (by kernel_rfl) 46 (.tmp 53) rfl (.pointer (some ⟨gw, i - 16, none⟩)) (by simp [Act.eval]) (.int .u32 (n32 x16)) (fun W hW => load_one hW.2.1)) (by assumption) ?_
        change wpAnyH _ _ _ _ _ _ _ (Act.put _ (some (54 : Nat)) (.int .u32 (n32 x16))) _
        simp only [Act.put, List.setIfInBounds_toArray, List.set_cons_zero, List.set_cons_succ]
        refine wpAnyH_take (i := 6) (v := (.int .u32 (n32 (x15)))) rfl (by kernel_rfl) (by kernel_rfl) (by kernel_rfl) (fun _ _ _ h => h) (Or.inl ⟨by kernel_rfl, fun w hSw => ?_⟩) (by assumption) ?_
        · (try dsimp only at hSw); go_simp <;> (try simp only [w32_addW, w32_add, w32_xor])
        change wpAnyH _ _ _ _ _ _ _ (Act.put _ (some (55 : Nat)) (.int .u32 (n32 (x15)))) _
        simp only [Act.put, List.setIfInBounds_toArray, List.set_cons_zero, List.set_cons_succ]
        refine wpAnyH_take (i := 8) (v := (.int .u32 (n32 (x15)))) rfl (by kernel_rfl) (by kernel_rfl) (by kernel_rfl) (fun _ _ _ h => h) (Or.inl ⟨by kernel_rfl, fun w hSw => ?_⟩) (by assumption) ?_
        · (try dsimp only at hSw); go_simp <;> (try simp only [w32_addW, w32_add, w32_xor])
        change wpAnyH _ _ _ _ _ _ _ (Act.put _ (some (57 : Nat)) (.int .u32 (n32 (x15)))) _
        simp only [Act.put, List.setIfInBounds_toArray, List.set_cons_zero, List.set_cons_succ]
        refine wpAnyH_take (i := 11) (v := (.int .u32 (n32 (x15)))) rfl (by kernel_rfl) (by kernel_rfl) (by kernel_rfl) (fun _ _ _ h => h) (Or.inl ⟨by kernel_rfl, fun w hSw => ?_⟩) (by assumption) ?_
        · (try dsimp only at hSw); go_simp <;> (try simp only [w32_addW, w32_add, w32_xor])
        change wpAnyH _ _ _ _ _ _ _ (Act.put _ (some (60 : Nat)) (.int .u32 (n32 (x15)))) _
        simp only [Act.put, List.setIfInBounds_toArray, List.set_cons_zero, List.set_cons_succ]
        refine wpAnyH_take (i := 12) (v := (.int .u32 (n32 (shr x15 3)))) rfl (by kernel_rfl) (by kernel_rfl) (by kernel_rfl) (fun _ _ _ h => h) (Or.inl ⟨by kernel_rfl, fun w hSw => ?_⟩) (by assumption) ?_
        · (try dsimp only at hSw); go_simp <;> (try simp only [w32_addW, w32_add, w32_xor])
        change wpAnyH _ _ _ _ _ _ _ (Act.put _ (some (61 : Nat)) (.int .u32 (n32 (shr x15 3)))) _
        simp only [Act.put, List.setIfInBounds_toArray, List.set_cons_zero, List.set_cons_succ]
        refine wpAnyH_take (i := 15) (v := (.slice (some ⟨gw, 0, none⟩) i c)) rfl (by kernel_rfl) (by kernel_rfl) (by kernel_rfl) (fun _ _ _ h => h) (Or.inl ⟨by kernel_rfl, fun w hSw => ?_⟩) (by assumption) ?_
        · (try dsimp only at hSw); go_simp <;> (try simp only [w32_addW, w32_add, w32_xor])
        change wpAnyH _ _ _ _ _ _ _ (Act.put _ (some (64 : Nat)) (.slice (some ⟨gw, 0, none⟩) i c)) _
        simp only [Act.put, List.setIfInBounds_toArray, List.set_cons_zero, List.set_cons_succ]
        refine wpAnyH_take (i := 16) (v := (.int .i64 (i : Int))) rfl (by kernel_rfl) (by kernel_rfl) (by kernel_rfl) (fun _ _ _ h => h) (Or.inl ⟨by kernel_rfl, fun w hSw => ?_⟩) (by assumption) ?_
        · (try dsimp only at hSw); go_simp <;> (try simp only [w32_addW, w32_add, w32_xor])
        change wpAnyH _ _ _ _ _ _ _ (Act.put _ (some (65 : Nat)) (.int .i64 (i : Int))) _
        simp only [Act.put, List.setIfInBounds_toArray, List.set_cons_zero, List.set_cons_succ]
        refine wpAnyH_take (i := 17) (v := (.int .i64 ((i : Int) - 7))) rfl (by kernel_rfl) (by kernel_rfl) (by kernel_rfl) (fun _ _ _ h => h) (Or.inl ⟨by kernel_rfl, fun w hSw => ?_⟩) (by assumption) ?_
        · (try dsimp only at hSw); go_simp <;> (try simp only [w32_addW, w32_add, w32_xor])
        change wpAnyH _ _ _ _ _ _ _ (Act.put _ (some (66 : Nat)) (.int .i64 ((i : Int) - 7))) _
        simp only [Act.put, List.setIfInBounds_toArray, List.set_cons_zero, List.set_cons_succ]
        refine wpAnyH_take (i := 18) (v := (.pointer (some ⟨gw, i - 7, none⟩))) rfl (by kernel_rfl) (by kernel_rfl) (by kernel_rfl) (fun _ _ _ h => h) (Or.inl ⟨by kernel_rfl, fun w hSw => ?_⟩) (by assumption) ?_
        · (try dsimp only at hSw); go_simp <;> (try simp only [w32_addW, w32_add, w32_xor])
        change wpAnyH _ _ _ _ _ _ _ (Act.put _ (some (67 : Nat)) (.pointer (some ⟨gw, i - 7, none⟩))) _
        simp only [Act.put, List.setIfInBounds_toArray, List.set_cons_zero, List.set_cons_succ]
        refine wpAnyH_take (i := 19) (v := (.int .u32 (n32 x7))) rfl (by kernel_rfl) (by kernel_rfl) (by kernel_rfl) (fun _ _ _ h => h) (yields_load_at (by kernel_rfl) 46 (.tmp 67) rfl (.pointer (some ⟨gw, i - 7, none⟩)) (by simp [Act.eval]) (.int .u32 (n32 x7)) (fun W hW => load_one hW.2.2)) (by assumption) ?_
        change wpAnyH _ _ _ _ _ _ _ (Act.put _ (some (68 : Nat)) (.int .u32 (n32 x7))) _
        simp only [Act.put, List.setIfInBounds_toArray, List.set_cons_zero, List.set_cons_succ]
        refine wpAnyH_take (i := 21) (v := (.int .u32 (n32 (x2)))) rfl (by kernel_rfl) (by kernel_rfl) (by kernel_rfl) (fun _ _ _ h => h) (Or.inl ⟨by kernel_rfl, fun w hSw => ?_⟩) (by assumption) ?_
        · (try dsimp only at hSw); go_simp <;> (try simp only [w32_addW, w32_add, w32_xor])
        change wpAnyH _ _ _ _ _ _ _ (Act.put _ (some (70 : Nat)) (.int .u32 (n32 (x2)))) _
        simp only [Act.put, List.setIfInBounds_toArray, List.set_cons_zero, List.set_cons_succ]
        refine wpAnyH_take (i := 23) (v := (.int .u32 (n32 (x2)))) rfl (by kernel_rfl) (by kernel_rfl) (by kernel_rfl) (fun _ _ _ h => h) (Or.inl ⟨by kernel_rfl, fun w hSw => ?_⟩) (by assumption) ?_
        · (try dsimp only at hSw); go_simp <;> (try simp only [w32_addW, w32_add, w32_xor])
        change wpAnyH _ _ _ _ _ _ _ (Act.put _ (some (72 : Nat)) (.int .u32 (n32 (x2)))) _
        simp only [Act.put, List.setIfInBounds_toArray, List.set_cons_zero, List.set_cons_succ]
        refine wpAnyH_take (i := 26) (v := (.int .u32 (n32 (x2)))) rfl (by kernel_rfl) (by kernel_rfl) (by kernel_rfl) (fun _ _ _ h => h) (Or.inl ⟨by kernel_rfl, fun w hSw => ?_⟩) (by assumption) ?_
        · (try dsimp only at hSw); go_simp <;> (try simp only [w32_addW, w32_add, w32_xor])
        change wpAnyH _ _ _ _ _ _ _ (Act.put _ (some (75 : Nat)) (.int .u32 (n32 (x2)))) _
        simp only [Act.put, List.setIfInBounds_toArray, List.set_cons_zero, List.set_cons_succ]
        refine wpAnyH_take (i := 27) (v := (.int .u32 (n32 (shr x2 10)))) rfl (by kernel_rfl) (by kernel_rfl) (by kernel_rfl) (fun _ _ _ h => h) (Or.inl ⟨by kernel_rfl, fun w hSw => ?_⟩) (by assumption) ?_
        · (try dsimp only at hSw); go_simp <;> (try simp only [w32_addW, w32_add, w32_xor])
        change wpAnyH _ _ _ _ _ _ _ (Act.put _ (some (76 : Nat)) (.int .u32 (n32 (shr x2 10)))) _
        simp only [Act.put, List.setIfInBounds_toArray, List.set_cons_zero, List.set_cons_succ]
        refine wpAnyH_ready (rs := [7]) (by kernel_rfl) (by simp) ?_
        refine AllReadyH.cons rfl (fun K hK => ?_) AllReadyH.nil
        go_simp
        refine (rturn_q _ _ (by omega) (by omega) _).mono ?_
        rintro e w' ⟨rfl, rfl⟩
        go_wp2_with fail
        refine hK.out _ _ hHeld (fun hHeld1 => ?_)
        clear hHeld hK K
        have hHeld := hHeld1
        clear hHeld1
        refine wpAnyH_ready (rs := [9]) (by kernel_rfl) (by simp) ?_
        refine AllReadyH.cons rfl (fun K hK => ?_) AllReadyH.nil
        go_simp
        refine (rturn_q _ _ (by omega) (by omega) _).mono ?_
        rintro e w' ⟨rfl, rfl⟩
        go_wp2_with fail
        refine hK.out _ _ hHeld (fun hHeld1 => ?_)
        clear hHeld hK K
        have hHeld := hHeld1
        clear hHeld1
        refine wpAnyH_take (i := 10) (v := (.int .u32 (n32 (rotr x15 7 ^^^ rotr x15 18)))) rfl (by kernel_rfl) (by kernel_rfl) (by kernel_rfl) (fun _ _ _ h => h) (Or.inl ⟨by kernel_rfl, fun w hSw => ?_⟩) (by assumption) ?_
        · (try dsimp only at hSw); go_simp <;> (try simp only [w32_addW, w32_add, w32_xor])
        change wpAnyH _ _ _ _ _ _ _ (Act.put _ (some (59 : Nat)) (.int .u32 (n32 (rotr x15 7 ^^^ rotr x15 18)))) _
        simp only [Act.put, List.setIfInBounds_toArray, List.set_cons_zero, List.set_cons_succ]
        refine wpAnyH_take (i := 13) (v := (.int .u32 (n32 ((rotr x15 7 ^^^ rotr x15 18 ^^^ shr x15 3))))) rfl (by kernel_rfl) (by kernel_rfl) (by kernel_rfl) (fun _ _ _ h => h) (Or.inl ⟨by kernel_rfl, fun w hSw => ?_⟩) (by assumption) ?_
        · (try dsimp only at hSw); go_simp <;> (try simp only [w32_addW, w32_add, w32_xor])
        change wpAnyH _ _ _ _ _ _ _ (Act.put _ (some (62 : Nat)) (.int .u32 (n32 ((rotr x15 7 ^^^ rotr x15 18 ^^^ shr x15 3))))) _
        simp only [Act.put, List.setIfInBounds_toArray, List.set_cons_zero, List.set_cons_succ]
        refine wpAnyH_take (i := 14) (v := (.int .u32 (n32 (x16 + (rotr x15 7 ^^^ rotr x15 18 ^^^ shr x15 3))))) rfl (by kernel_rfl) (by kernel_rfl) (by kernel_rfl) (fun _ _ _ h => h) (Or.inl ⟨by kernel_rfl, fun w hSw => ?_⟩) (by assumption) ?_
        · (try dsimp only at hSw); go_simp <;> (try simp only [w32_addW, w32_add, w32_xor])
        change wpAnyH _ _ _ _ _ _ _ (Act.put _ (some (63 : Nat)) (.int .u32 (n32 (x16 + (rotr x15 7 ^^^ rotr x15 18 ^^^ shr x15 3))))) _
        simp only [Act.put, List.setIfInBounds_toArray, List.set_cons_zero, List.set_cons_succ]
        refine wpAnyH_take (i := 20) (v := (.int .u32 (n32 (x16 + (rotr x15 7 ^^^ rotr x15 18 ^^^ shr x15 3) + x7)))) rfl (by kernel_rfl) (by kernel_rfl) (by kernel_rfl) (fun _ _ _ h => h) (Or.inl ⟨by kernel_rfl, fun w hSw => ?_⟩) (by assumption) ?_
        · (try dsimp only at hSw); go_simp <;> (try simp only [w32_addW, w32_add, w32_xor])
        change wpAnyH _ _ _ _ _ _ _ (Act.put _ (some (69 : Nat)) (.int .u32 (n32 (x16 + (rotr x15 7 ^^^ rotr x15 18 ^^^ shr x15 3) + x7)))) _
        simp only [Act.put, List.setIfInBounds_toArray, List.set_cons_zero, List.set_cons_succ]
        refine wpAnyH_ready (rs := [22]) (by kernel_rfl) (by simp) ?_
        refine AllReadyH.cons rfl (fun K hK => ?_) AllReadyH.nil
        go_simp
        refine (rturn_q _ _ (by omega) (by omega) _).mono ?_
        rintro e w' ⟨rfl, rfl⟩
        go_wp2_with fail
        refine hK.out _ _ hHeld (fun hHeld1 => ?_)
        clear hHeld hK K
        have hHeld := hHeld1
        clear hHeld1
        refine wpAnyH_ready (rs := [24]) (by kernel_rfl) (by simp) ?_
        refine AllReadyH.cons rfl (fun K hK => ?_) AllReadyH.nil
        go_simp
        refine (rturn_q _ _ (by omega) (by omega) _).mono ?_
        rintro e w' ⟨rfl, rfl⟩
        go_wp2_with fail
        refine hK.out _ _ hHeld (fun hHeld1 => ?_)
        clear hHeld hK K
        have hHeld := hHeld1
        clear hHeld1
        refine wpAnyH_take (i := 25) (v := (.int .u32 (n32 (rotr x2 17 ^^^ rotr x2 19)))) rfl (by kernel_rfl) (by kernel_rfl) (by kernel_rfl) (fun _ _ _ h => h) (Or.inl ⟨by kernel_rfl, fun w hSw => ?_⟩) (by assumption) ?_
        · (try dsimp only at hSw); go_simp <;> (try simp only [w32_addW, w32_add, w32_xor])
        change wpAnyH _ _ _ _ _ _ _ (Act.put _ (some (74 : Nat)) (.int .u32 (n32 (rotr x2 17 ^^^ rotr x2 19)))) _
        simp only [Act.put, List.setIfInBounds_toArray, List.set_cons_zero, List.set_cons_succ]
        refine wpAnyH_take (i := 28) (v := (.int .u32 (n32 ((rotr x2 17 ^^^ rotr x2 19 ^^^ shr x2 10))))) rfl (by kernel_rfl) (by kernel_rfl) (by kernel_rfl) (fun _ _ _ h => h) (Or.inl ⟨by kernel_rfl, fun w hSw => ?_⟩) (by assumption) ?_
        · (try dsimp only at hSw); go_simp <;> (try simp only [w32_addW, w32_add, w32_xor])
        change wpAnyH _ _ _ _ _ _ _ (Act.put _ (some (77 : Nat)) (.int .u32 (n32 ((rotr x2 17 ^^^ rotr x2 19 ^^^ shr x2 10))))) _
        simp only [Act.put, List.setIfInBounds_toArray, List.set_cons_zero, List.set_cons_succ]
        refine wpAnyH_take (i := 29) (v := (.int .u32 (n32 (x16 + (rotr x15 7 ^^^ rotr x15 18 ^^^ shr x15 3) + x7 + (rotr x2 17 ^^^ rotr x2 19 ^^^ shr x2 10))))) rfl (by kernel_rfl) (by kernel_rfl) (by kernel_rfl) (fun _ _ _ h => h) (Or.inl ⟨by kernel_rfl, fun w hSw => ?_⟩) (by assumption) ?_
        · (try dsimp only at hSw); go_simp <;> (try simp only [w32_addW, w32_add, w32_xor])
        change wpAnyH _ _ _ _ _ _ _ (Act.put _ (some (78 : Nat)) (.int .u32 (n32 (x16 + (rotr x15 7 ^^^ rotr x15 18 ^^^ shr x15 3) + x7 + (rotr x2 17 ^^^ rotr x2 19 ^^^ shr x2 10))))) _
        simp only [Act.put, List.setIfInBounds_toArray, List.set_cons_zero, List.set_cons_succ]
        refine wpAnyH_ready (rs := [30]) (by kernel_rfl) (by simp) ?_
        refine AllReadyH.cons (o := ⟨some 79, .buildSlice 52 1 #[(0, .tmp 78)], _, _, _, _⟩) rfl (fun K hK => ?_) AllReadyH.nil
        refine step_build_one (by kernel_rfl) 52 (.tmp 78) rfl (.int .u32 (n32 y)) (by rw [← HYy.out]; simp [Act.eval]) _ _ (Tryd.build_one _ _) ?_
        refine hK.out _ _ ⟨hHeld.1.alloc hHeld.1.size _, cell_alloc hHeld.2.1, cell_alloc hHeld.2.2⟩ (fun hHeld1 => ?_)
        clear hHeld hK K
        have hHeld := hHeld1
        clear hHeld1
        change wpAnyH _ _ _ _ _ _ _ (Act.put _ (some (79 : Nat)) (.slice (some ⟨_, 0, none⟩) 1 1)) _
        simp only [Act.put, List.setIfInBounds_toArray, List.set_cons_zero, List.set_cons_succ]
        refine wpAnyH_ready (rs := [31]) (by kernel_rfl) (by simp) ?_
        refine AllReadyH.cons (o := ⟨some 80, .call { callee := .builtin .append, args := #[.tmp 49, .tmp 79], argTypes := #[52, 52] }, _, _, _, _⟩) rfl (fun K hK => ?_) AllReadyH.nil
        refine step_append_keep (by kernel_rfl) (.tmp 49) (.tmp 79) 52 rfl w.heap.size i0 Tryd.underlying52 hi hz0 hz1 hz2 gw i c (wds b i) (by simp [Act.eval]) (World.ownsRow.alloc (w := (wr.drewN nq).drew) HW.out _) _ 1 y (by simp [Act.eval]) (Blk.new_cell _ _ _) (by omega) hHeld.1.size ?_; intro A9 c9 w9 h9 hg9 hk9; have O9 := Lib.hid h9; have HX9 := Lib.hid (hHeld.1.grown hg9 hHeld.1.size (fun g hg => Option.some.inj hg ▸ (HW.out.lt gw rfl).1)); have K16 := Lib.hid ((hk9 (i - 16) (by omega)).trans hHeld.2.1); have K7 := Lib.hid ((hk9 (i - 7) (by omega)).trans hHeld.2.2); clear h9 hg9 hk9
        refine hK.out _ _ ⟨HX9.out, K16.out, K7.out⟩ (fun hHeld1 => ?_)
        clear hHeld hK K
        have hHeld := hHeld1
        clear hHeld1
        change wpAnyH _ _ _ _ _ _ _ (Act.put _ (some (80 : Nat)) (.slice A9 (i + 1) c9)) _
        simp only [Act.put, List.setIfInBounds_toArray, List.set_cons_zero, List.set_cons_succ]
        refine wpAnyH_take (i := 32) (v := (.slice A9 (i + 1) c9)) rfl (by kernel_rfl) (by kernel_rfl) (by kernel_rfl) (fun _ _ _ h => h) (Or.inl ⟨by kernel_rfl, fun w hSw => ?_⟩) (by assumption) ?_
        · (try dsimp only at hSw); go_simp <;> (try simp only [w32_addW, w32_add, w32_xor])
        change wpAnyH _ _ _ _ _ _ _ (Act.put _ (some (7 : Nat)) (.slice A9 (i + 1) c9)) _
        simp only [Act.put, List.setIfInBounds_toArray, List.set_cons_zero, List.set_cons_succ]
        refine wpAnyH_done (by kernel_rfl) ?_ _
        go_wp2
        go_roundw
        case rel => exact ⟨i + 1, A9, c9, by omega, by go_num, rfl, by rw [HNext.out]; exact O9.out, HX9.out⟩
        case measure => simp [intOf]; omega
    · as_aux_lemma =>
      obtain ⟨wz, rfl⟩ : ∃ wz : World, wz = wr := ⟨_, rfl⟩
      have e64 : i = 64 := by omega
      obtain ⟨gw, rfl, hcell⟩ := own_cells hw (by omega)
      rw [e64] at hcell
      clear e64
      obtain ⟨ws, hws⟩ : ∃ ws, ws = wds b 64 := ⟨_, rfl⟩
      rw [← hws] at hcell
      have HWs := Lib.hid hws
      clear hws
      have hx1 := hx.size
      have HC := Lib.hid hcell
      have HX := Lib.hid hx
      have HH1 := Lib.hid (HHh.out.through hx)
      have HK1 := Lib.hid (HKk.out.through hx)
      have hgw := (hw.lt gw rfl).2
      have HGw := Lib.hid hgw
      clear hw hx hcell hgw
      go_wp2_with (at_builtin; refine wpList_append_ws rfl (.tmp 81) (.tmp 82) 52 rfl wz.heap.size i0 Tryd.underlying52 hi hz0 hz1 hz2 _ 0 [] rfl (own_made32 _) Qh Ah 8 ch s.list rfl (HH1.out.through ((Below.refl _ _).alloc (Nat.le_refl _) _)) (by omega) (by omega) (by simp) ?_; intro g5 c5 w5 hok hg5 hc5 hm5; have HX5 := Lib.hid (((Below.refl _ wz).alloc (Nat.le_refl _) _).grown hg5 (by simp) (fun g hg => by have := (own_made32 wz).lt g hg; exact this.1)); have HO5 : Hid (OwnV w5 wz.heap.size (.slice (some ⟨g5, 0, none⟩) 8 c5) 8 s.list) := Lib.hid hok; clear hok hg5)
      go_loopw [12, 13] (fun vv iv wr => ∃ (j : Nat) (gv cv : Nat) (q : S8), j ≤ 64 ∧ iv = .int .i64 j ∧ vv = .slice (some ⟨gv, 0, none⟩) 8 cv ∧ q = rounds ws s j ∧ OwnV wr wz.heap.size (.slice (some ⟨gv, 0, none⟩) 8 cv) 8 q.list ∧ 8 ≤ cv ∧ Below wz.heap.size wz wr) (fun _ iv _ => 64 - (intOf iv).toNat)
      case atStart => exact ⟨0, g5, c5, s, by omega, rfl, rfl, rfl, HO5.out, hc5, HX5.out⟩
      case round =>
        obtain ⟨j, gv, cv, q, hj, rfl, rfl, hq, ho, hcv, hy⟩ := hrel
        clear HO5 HX5
        by_cases hltj : j < 64
        · as_aux_lemma =>
          obtain ⟨g', eg, hv⟩ := own_cells ho (by omega)
          injection eg with eg
          injection eg with eg
          subst eg
          have v0 : wr.cell? ⟨gv, 0, none⟩ = some (.int .u32 (n32 q.a)) := hv 0 (by omega)
          have v1 : wr.cell? ⟨gv, 1, none⟩ = some (.int .u32 (n32 q.b)) := hv 1 (by omega)
          have v2 : wr.cell? ⟨gv, 2, none⟩ = some (.int .u32 (n32 q.c)) := hv 2 (by omega)
          have v3 : wr.cell? ⟨gv, 3, none⟩ = some (.int .u32 (n32 q.d)) := hv 3 (by omega)
          have v4 : wr.cell? ⟨gv, 4, none⟩ = some (.int .u32 (n32 q.e)) := hv 4 (by omega)
          have v5 : wr.cell? ⟨gv, 5, none⟩ = some (.int .u32 (n32 q.f)) := hv 5 (by omega)
          have v6 : wr.cell? ⟨gv, 6, none⟩ = some (.int .u32 (n32 q.g)) := hv 6 (by omega)
          have v7 : wr.cell? ⟨gv, 7, none⟩ = some (.int .u32 (n32 q.h)) := hv 7 (by omega)
          have hcw : wr.cell? ⟨gw, j, none⟩ = some (.int .u32 (n32 (ws.getD j 0))) := (World.cell?_of_block (a := ⟨gw, j, none⟩) (hy.block gw HGw.out)).trans (HC.out j hltj)
          obtain ⟨gk, ok, rfl, _, hckA⟩ := (HK1.out.through hy).cell (by omega)
          have hck := hckA j hltj
          clear hckA
          have hnext : rounds ws s (j + 1) = rnd (kTab.getD j 0) (ws.getD j 0) q := by rw [rounds, hq]
          generalize kTab.getD j 0 = kk at hck hnext
          generalize ws.getD j 0 = ww at hcw hnext
          have hand := w32_and
          have hor := w32_or
          have hadd := w32_add
          have hnot := w32_not'
          have hcho : ∀ e f g : UInt32, (e &&& f) ||| (~~~e &&& g) = choose e f g := fun _ _ _ => rfl
          have hmos : ∀ a b c : UInt32, (a &&& b) ||| (a &&& c) ||| (b &&& c) = most a b c := fun _ _ _ => rfl
          have HNext := Lib.hid hnext
          have HO := Lib.hid ho
          have HY := Lib.hid hy
          clear hnext ho hy hv hq
          go_wp2
          go_quiet ((go_at_call 50; exact Calls.quiet_of_same (rthree_q _ _ _ _ ⟨by omega, by omega⟩ ⟨by omega, by omega⟩ ⟨by omega, by omega⟩ _)))
          go_wp2
          rw [w32_add4]
          obtain ⟨wm, hwm⟩ : ∃ wm, wm = wr.drewN nq := ⟨_, rfl⟩
          have u0 : wm.cell? ⟨gv, 0, none⟩ = some (.int .u32 (n32 q.a)) := by rw [hwm]; exact v0
          have u1 : wm.cell? ⟨gv, 1, none⟩ = some (.int .u32 (n32 q.b)) := by rw [hwm]; exact v1
          have u2 : wm.cell? ⟨gv, 2, none⟩ = some (.int .u32 (n32 q.c)) := by rw [hwm]; exact v2
          have HO' : Hid (OwnV wm wz.heap.size (.slice (some ⟨gv, 0, none⟩) 8 cv) 8 q.list) := Lib.hid (by rw [hwm]; exact HO.out)
          have HY' : Hid (Below wz.heap.size wz wm) := Lib.hid (by rw [hwm]; exact below_drewN HY.out _)
          rw [← hwm]
          clear hwm v0 v1 v2 v3 v4 v5 v6 v7 hcw hck HO HY
          go_quiet ((go_at_call 50; exact Calls.quiet_of_same (rthree_q _ _ _ _ ⟨by omega, by omega⟩ ⟨by omega, by omega⟩ ⟨by omega, by omega⟩ _)))
          rw [w32_add]
          have hwd7 := (Wd.of_own HO'.out).take (k := 7) (by omega)
          have HW7 := Lib.hid hwd7
          clear hwd7 u0 u1 u2
          obtain ⟨x, hx⟩ : ∃ x, x = q.h + three q.e 6 11 25 + choose q.e q.f q.g + kk + ww + (three q.a 2 13 22 + most q.a q.b q.c) := ⟨_, rfl⟩
          have HXx := Lib.hid hx
          clear hx
          go_wp2_with (at_builtin; refine wpList_append_ws rfl (.tmp 154) (.tmp 156) 52 rfl wz.heap.size i0 Tryd.underlying52 hi hz0 hz1 hz2 (.slice (some ⟨wm.heap.size, 0, none⟩) 1 1) 1 [x] rfl (by rw [HXx.out]; exact own_one32 (wm.drewN nq) _ HY'.out.size) (fun g => wz.heap.size ≤ g ∧ g < wm.heap.size) (some ⟨gv, 0, none⟩) 7 cv (q.list.take 7) rfl (Wd.through (w := wm.drewN nq) HW7.out ((Below.refl _ _).alloc (Nat.le_refl _) _)) (by omega) (by omega) (by have := HY'.out.size; simp; omega) ?_; intro g7 c7 w7 hok hg7 hc7 hm7; have hok7 : OwnV w7 wz.heap.size (.slice (some ⟨g7, 0, none⟩) 8 c7) 8 [x, q.a, q.b, q.c, q.d, q.e, q.f, q.g] := hok; have d4 : w7.cell? ⟨g7, 4, none⟩ = some (.int .u32 (n32 q.d)) := (hok7.cellAt (g := g7) 4 (by omega)).trans rfl; have f4 : w7.frozen? ⟨g7, 4, none⟩ = false := hok7.frozenAt (g := g7) 4; have HX7 := Lib.hid (((below_drewN HY'.out nq).alloc HY'.out.size _).grown hg7 (Nat.le_trans HY'.out.size (by simp)) (fun g hg => Option.some.inj hg ▸ HY'.out.size)); have HO7 := Lib.hid hok7; clear hok hok7 hg7)
          go_roundw
          case rel =>
            have hs := HO7.out.stored 4 (c32 (q.d + (q.h + three q.e 6 11 25 + choose q.e q.f q.g + kk + ww)))
            refine ⟨j + 1, g7, c7, rnd kk ww q, by omega, by go_num, rfl, HNext.out.symm, ?_, hc7, HX7.out.setCell (HO7.out.lt g7 rfl).1 _⟩
            rw [rnd_list, ← HXx.out]
            exact hs.1
          case measure => simp [intOf]; omega
        · as_aux_lemma =>
          have e64 : j = 64 := by omega
          have HR : Hid (q = rounds ws s 64) := Lib.hid (by rw [hq, e64])
          clear hq e64
          have HO := Lib.hid ho
          have HY := Lib.hid hy
          clear ho hy
          go_wp2
          obtain ⟨wy, rfl⟩ : ∃ wy : World, wy = wr := ⟨_, rfl⟩
          have hlen8 : (s.plus q).list.length = 8 := rfl
          go_loopw [16, 167] (fun ov iv wr => ∃ (n : Nat) (A : Option Addr) (c : Nat), n ≤ 8 ∧ iv = .int .i64 n ∧ ov = .slice A n c ∧ OwnV wr wy.heap.size (.slice A n c) n ((s.plus q).list.take n) ∧ Below wy.heap.size wy wr) (fun _ iv _ => 8 - (intOf iv).toNat)
          case atStart => exact ⟨0, none, 0, by omega, rfl, rfl, World.ownsRow_nil _ _ _ _, Below.refl _ _⟩
          case round =>
            obtain ⟨n, A, c, hn, rfl, rfl, hov, hz⟩ := hrel
            by_cases hlt8 : n < 8
            · as_aux_lemma =>
              obtain ⟨g', eg, hv⟩ := own_cells HO.out (by omega)
              injection eg with eg
              injection eg with eg
              subst eg
              have hgv : gv < wy.heap.size := (HO.out.lt gv rfl).2
              have hcv0 := hv n hlt8
              have hcv2 : wr.cell? ⟨gv, n, none⟩ = some (.int .u32 (n32 (q.list.getD n 0))) := (World.cell?_of_block (a := ⟨gv, n, none⟩) (hz.block gv hgv)).trans hcv0
              obtain ⟨gk, ok, rfl, ⟨_, hgk⟩, hckA⟩ := (HH1.out.through HY.out).lt.cell (by omega)
              have hck0 := hckA n hlt8
              have hck := (World.cell?_of_block (a := ⟨gk, ok + n, none⟩) (hz.block gk hgk)).trans hck0
              clear hckA hv
              have hnext : (s.plus q).list.take (n + 1) = (s.plus q).list.take n ++ [s.list.getD n 0 + q.list.getD n 0] := by
                have : n = 0 ∨ n = 1 ∨ n = 2 ∨ n = 3 ∨ n = 4 ∨ n = 5 ∨ n = 6 ∨ n = 7 := by omega
                rcases this with h | h | h | h | h | h | h | h <;> subst h <;> rfl
              have hln : ((s.plus q).list.take n).length = n := by rw [List.length_take]; omega
              generalize s.list.getD n 0 = x1 at hck hck0 hnext
              generalize q.list.getD n 0 = x2 at hcv2 hcv0 hnext
              have hadd := w32_add
              have HOv := Lib.hid hov
              have HZ := Lib.hid hz
              have HNext := Lib.hid hnext
              clear hov hz hnext
              go_wp2
              refine wp_region_held_drew (S := fun W => Below wy.heap.size wy W ∧ W.cell? ⟨gk, ok + n, none⟩ = some (.int .u32 (n32 x1)) ∧ W.cell? ⟨gv, n, none⟩ = some (.int .u32 (n32 x2))) (by kernel_rfl) ⟨HZ.out.drew, hck, hcv2⟩ (fun hHeld => ?_)
              change wpAnyH _ _ _ _ _ _ #[false, false, false, false, false, false, false, false, false, false, false, false, false] _ _
              refine wpAnyH_take (i := 0) (v := (.slice A n c)) rfl (by kernel_rfl) (by kernel_rfl) (by kernel_rfl) (fun _ _ _ h => h) (Or.inl ⟨by kernel_rfl, fun w hSw => ?_⟩) (by assumption) ?_
              · (try dsimp only at hSw); go_simp <;> (try simp only [w32_addW])
              change wpAnyH _ _ _ _ _ _ _ (Act.put _ (some (170 : Nat)) (.slice A n c)) _
              simp only [Act.put, List.setIfInBounds_toArray, List.set_cons_zero, List.set_cons_succ]
              refine wpAnyH_take (i := 1) (v := (.slice (some ⟨gk, ok, none⟩) 8 ch)) rfl (by kernel_rfl) (by kernel_rfl) (by kernel_rfl) (fun _ _ _ h => h) (Or.inl ⟨by kernel_rfl, fun w hSw => ?_⟩) (by assumption) ?_
              · (try dsimp only at hSw); go_simp <;> (try simp only [w32_addW])
              change wpAnyH _ _ _ _ _ _ _ (Act.put _ (some (171 : Nat)) (.slice (some ⟨gk, ok, none⟩) 8 ch)) _
              simp only [Act.put, List.setIfInBounds_toArray, List.set_cons_zero, List.set_cons_succ]
              refine wpAnyH_take (i := 2) (v := (.int .i64 (n : Int))) rfl (by kernel_rfl) (by kernel_rfl) (by kernel_rfl) (fun _ _ _ h => h) (Or.inl ⟨by kernel_rfl, fun w hSw => ?_⟩) (by assumption) ?_
              · (try dsimp only at hSw); go_simp <;> (try simp only [w32_addW])
              change wpAnyH _ _ _ _ _ _ _ (Act.put _ (some (172 : Nat)) (.int .i64 (n : Int))) _
              simp only [Act.put, List.setIfInBounds_toArray, List.set_cons_zero, List.set_cons_succ]
              refine wpAnyH_take (i := 3) (v := (.pointer (some ⟨gk, ok + n, none⟩))) rfl (by kernel_rfl) (by kernel_rfl) (by kernel_rfl) (fun _ _ _ h => h) (Or.inl ⟨by kernel_rfl, fun w hSw => ?_⟩) (by assumption) ?_
              · (try dsimp only at hSw); go_simp <;> (try simp only [w32_addW])
              change wpAnyH _ _ _ _ _ _ _ (Act.put _ (some (173 : Nat)) (.pointer (some ⟨gk, ok + n, none⟩))) _
              simp only [Act.put, List.setIfInBounds_toArray, List.set_cons_zero, List.set_cons_succ]
              refine wpAnyH_take (i := 4) (v := (.int .u32 (n32 x1))) rfl (by kernel_rfl) (by kernel_rfl) (by kernel_rfl) (fun _ _ _ h => h) (yields_load_at (by kernel_rfl) 46 (.tmp 173) rfl (.pointer (some ⟨gk, ok + n, none⟩)) (by simp [Act.eval]) (.int .u32 (n32 x1)) (fun W hW => load_one hW.2.1)) (by assumption) ?_
              change wpAnyH _ _ _ _ _ _ _ (Act.put _ (some (174 : Nat)) (.int .u32 (n32 x1))) _
              simp only [Act.put, List.setIfInBounds_toArray, List.set_cons_zero, List.set_cons_succ]
              refine wpAnyH_take (i := 5) (v := (.slice (some ⟨gv, 0, none⟩) 8 cv)) rfl (by kernel_rfl) (by kernel_rfl) (by kernel_rfl) (fun _ _ _ h => h) (Or.inl ⟨by kernel_rfl, fun w hSw => ?_⟩) (by assumption) ?_
              · (try dsimp only at hSw); go_simp <;> (try simp only [w32_addW])
              change wpAnyH _ _ _ _ _ _ _ (Act.put _ (some (175 : Nat)) (.slice (some ⟨gv, 0, none⟩) 8 cv)) _
              simp only [Act.put, List.setIfInBounds_toArray, List.set_cons_zero, List.set_cons_succ]
              refine wpAnyH_take (i := 6) (v := (.int .i64 (n : Int))) rfl (by kernel_rfl) (by kernel_rfl) (by kernel_rfl) (fun _ _ _ h => h) (Or.inl ⟨by kernel_rfl, fun w hSw => ?_⟩) (by assumption) ?_
              · (try dsimp only at hSw); go_simp <;> (try simp only [w32_addW])
              change wpAnyH _ _ _ _ _ _ _ (Act.put _ (some (176 : Nat)) (.int .i64 (n : Int))) _
              simp only [Act.put, List.setIfInBounds_toArray, List.set_cons_zero, List.set_cons_succ]
              refine wpAnyH_take (i := 7) (v := (.pointer (some ⟨gv, n, none⟩))) rfl (by kernel_rfl) (by kernel_rfl) (by kernel_rfl) (fun _ _ _ h => h) (Or.inl ⟨by kernel_rfl, fun w hSw => ?_⟩) (by assumption) ?_
              · (try dsimp only at hSw); go_simp <;> (try simp only [w32_addW])
              change wpAnyH _ _ _ _ _ _ _ (Act.put _ (some (177 : Nat)) (.pointer (some ⟨gv, n, none⟩))) _
              simp only [Act.put, List.setIfInBounds_toArray, List.set_cons_zero, List.set_cons_succ]
              refine wpAnyH_take (i := 8) (v := (.int .u32 (n32 x2))) rfl (by kernel_rfl) (by kernel_rfl) (by kernel_rfl) (fun _ _ _ h => h) (yields_load_at (by kernel_rfl) 46 (.tmp 177) rfl (.pointer (some ⟨gv, n, none⟩)) (by simp [Act.eval]) (.int .u32 (n32 x2)) (fun W hW => load_one hW.2.2)) (by assumption) ?_
              change wpAnyH _ _ _ _ _ _ _ (Act.put _ (some (178 : Nat)) (.int .u32 (n32 x2))) _
              simp only [Act.put, List.setIfInBounds_toArray, List.set_cons_zero, List.set_cons_succ]
              refine wpAnyH_take (i := 9) (v := (.int .u32 (n32 (x1 + x2)))) rfl (by kernel_rfl) (by kernel_rfl) (by kernel_rfl) (fun _ _ _ h => h) (Or.inl ⟨by kernel_rfl, fun w hSw => ?_⟩) (by assumption) ?_
              · (try dsimp only at hSw); go_simp <;> (try simp only [w32_addW])
              change wpAnyH _ _ _ _ _ _ _ (Act.put _ (some (179 : Nat)) (.int .u32 (n32 (x1 + x2)))) _
              simp only [Act.put, List.setIfInBounds_toArray, List.set_cons_zero, List.set_cons_succ]
              refine wpAnyH_ready (rs := [10]) (by kernel_rfl) (by simp) ?_
              refine AllReadyH.cons (o := ⟨some 180, .buildSlice 52 1 #[(0, .tmp 179)], _, _, _, _⟩) rfl (fun K hK => ?_) AllReadyH.nil
              refine step_build_one (by kernel_rfl) 52 (.tmp 179) rfl (.int .u32 (n32 (x1 + x2))) (by simp [Act.eval]) _ _ (Tryd.build_one _ _) ?_
              refine hK.out _ _ ⟨hHeld.1.alloc hHeld.1.size _, cell_alloc hHeld.2.1, cell_alloc hHeld.2.2⟩ (fun hHeld1 => ?_)
              clear hHeld hK K
              have hHeld := hHeld1
              clear hHeld1
              change wpAnyH _ _ _ _ _ _ _ (Act.put _ (some (180 : Nat)) (.slice (some ⟨_, 0, none⟩) 1 1)) _
              simp only [Act.put, List.setIfInBounds_toArray, List.set_cons_zero, List.set_cons_succ]
              refine wpAnyH_ready (rs := [11]) (by kernel_rfl) (by simp) ?_
              refine AllReadyH.cons (o := ⟨some 181, .call { callee := .builtin .append, args := #[.tmp 170, .tmp 180], argTypes := #[52, 52] }, _, _, _, _⟩) rfl (fun K hK => ?_) AllReadyH.nil
              refine step_append_w rfl (.tmp 170) (.tmp 180) 52 rfl wy.heap.size i0 Tryd.underlying52 hi hz0 hz1 hz2 (.slice A n c) n ((s.plus q).list.take n) (by simp [Act.eval]) (World.ownsRow.alloc (w := wr.drew) HOv.out _) _ 1 (x1 + x2) (by simp [Act.eval]) (Blk.new_cell _ _ _) (by omega) hHeld.1.size ?_; intro g6 c6 w6 h6 hg6; have HO6 := Lib.hid h6; have HX6 := Lib.hid (hHeld.1.grown hg6 hHeld.1.size (fun g hg => (HOv.out.lt g hg).1)); have K1 := Lib.hid ((World.cell?_of_block (a := ⟨gk, ok + n, none⟩) (HX6.out.block gk hgk)).trans hck0); have K2 := Lib.hid ((World.cell?_of_block (a := ⟨gv, n, none⟩) (HX6.out.block gv hgv)).trans hcv0); clear h6 hg6
              refine hK.out _ _ ⟨HX6.out, K1.out, K2.out⟩ (fun hHeld1 => ?_)
              clear hHeld hK K
              have hHeld := hHeld1
              clear hHeld1
              change wpAnyH _ _ _ _ _ _ _ (Act.put _ (some (181 : Nat)) (.slice (some ⟨g6, 0, none⟩) (n + 1) c6)) _
              simp only [Act.put, List.setIfInBounds_toArray, List.set_cons_zero, List.set_cons_succ]
              refine wpAnyH_take (i := 12) (v := (.slice (some ⟨g6, 0, none⟩) (n + 1) c6)) rfl (by kernel_rfl) (by kernel_rfl) (by kernel_rfl) (fun _ _ _ h => h) (Or.inl ⟨by kernel_rfl, fun w hSw => ?_⟩) (by assumption) ?_
              · (try dsimp only at hSw); go_simp <;> (try simp only [w32_addW])
              change wpAnyH _ _ _ _ _ _ _ (Act.put _ (some (16 : Nat)) (.slice (some ⟨g6, 0, none⟩) (n + 1) c6)) _
              simp only [Act.put, List.setIfInBounds_toArray, List.set_cons_zero, List.set_cons_succ]
              refine wpAnyH_done (by kernel_rfl) ?_ _
              go_wp2
              go_roundw
              case rel => exact ⟨n + 1, some ⟨g6, 0, none⟩, c6, by omega, by go_num, rfl, by rw [HNext.out]; exact HO6.out, HX6.out⟩
              case measure => simp [intOf]; omega
            · as_aux_lemma =>
              have e8 : n = 8 := by omega
              subst e8
              have hp : (s.plus q).list.take 8 = (press s b).list := by rw [press, mixed, ← HWs.out, ← HR.out]; rfl
              rw [hp] at hov
              have hy1 := HX.out.size
              have hy2 := HY.out.size
              have HOv := Lib.hid (World.ownsRow.mono hov (Nat.le_trans hy1 hy2))
              have HZ := Lib.hid ((HX.out.trans (HY.out.mono hy1)).trans (hz.mono (Nat.le_trans hy1 hy2)))
              clear hov hz hp
              go_wp2
              go_ret
              exact ⟨A, c, rfl, HOv.out, HZ.out⟩

abbrev OwnB (w : World) (base : Nat) (v : Value) (n : Nat) (xs : List UInt8) : Prop := w.ownsRow base 5 1 v n (vs xs)

theorem own_made8 (w : World) : (w.alloc (.cells #[] 5)).ownsRow w.heap.size 5 1 (.slice (some ⟨w.heap.size, 0, none⟩) 0 0) 0 (vs []) := World.ownsRow_made w #[] 0 (Nat.le_refl _) (Nat.zero_le _) rfl

/-- what stands behind k noughts -/
def padded (xs : List UInt8) (k : Nat) : List UInt8 := xs ++ 128 :: List.replicate k 0
theorem padded_succ (xs : List UInt8) (k : Nat) : padded xs k ++ [0] = padded xs (k + 1) := by
  simp [padded, List.replicate_succ', List.append_assoc]
theorem padded_all (xs : List UInt8) : padded xs ((119 - xs.length % 64) % 64) ++ beB (8 * xs.length) 8 = xs ++ ends xs.length := by
  simp [padded, ends, List.append_assoc]
/-- the first j words, as bytes -/
def flat (s : S8) (j : Nat) : List UInt8 := ((s.list.take j).map fun x => beB x.toNat 4).flatten
theorem flat_8 (s : S8) : flat s 8 = s.bytes := rfl
theorem flat_succ (s : S8) (j : Nat) (h : j < 8) : flat s (j + 1) = flat s j ++ beB (s.list.getD j 0).toNat 4 := by
  match j, h with
  | 0, _ => simp [flat, S8.list]
  | 1, _ => simp [flat, S8.list]
  | 2, _ => simp [flat, S8.list]
  | 3, _ => simp [flat, S8.list]
  | 4, _ => simp [flat, S8.list]
  | 5, _ => simp [flat, S8.list]
  | 6, _ => simp [flat, S8.list]
  | 7, _ => simp [flat, S8.list]
def sliceLen : Value → Nat
  | .slice _ n _ => n
  | _ => 0
theorem tmod_64 (m : Nat) : ((m : Nat) : Int).tmod 64 = ((m % 64 : Nat) : Int) := by
  rw [Int.tmod_eq_emod_of_nonneg (by omega)]
  simp

set_option maxHeartbeats 4000000 in
set_option maxRecDepth 100000 in
theorem rsum_any (Q : Nat → Prop) (xs : List UInt8) (A : Option Addr) (n c : Nat) (w : World) (hby : By w Q A n xs) (hn : n ≤ 1000000) :
    Calls Tryd.prog 11 #[.slice A n c] w fun e w' => e = .returned (dig (sha xs)) ∧ Below w.heap.size w w' := by
  obtain ⟨i0, hi, hz0, hz1, hz2⟩ := info_parts Tryd.info_u8
  have hl := hby.len
  have HL := Lib.hid hl
  have HBy := Lib.hid hby
  clear hl hby
  go_enter Tryd.func11, Tryd.ntmps11
  go_wp2_with (first
    | (go_at_call 29; refine (constants_any _).mono ?_; rintro e w1 ⟨Ak, ck, Ah, ch, rfl, hk, hh, hb1⟩; have HX1 : Hid (Below w.heap.size w w1) := Lib.hid (((Below.refl _ w).alloc (Nat.le_refl _) _).trans (hb1.mono (by simp))); have HD1 : Hid (Blk w1 w.heap.size 25 (vs zero32)) := Lib.hid ((Blk.fresh rfl (by kernel_rfl)).through hb1); have HK1 := Lib.hid (hk.weak (Q' := fun _ => True) fun _ _ => trivial); have HH1 := Lib.hid (hh.weak (Q' := fun _ => True) fun _ _ => trivial); clear hk hh hb1)
    | (at_builtin; refine wpList_append_by _ rfl (.tmp 16) (.tmp 17) 22 rfl w1.heap.size i0 Tryd.underlying22 hi hz0 hz1 hz2 _ 0 (vs []) rfl (own_made8 w1) Q A n c xs rfl ((HBy.out.through HX1.out).alloc _) (by omega) (by simp) ?_; intro v2 w2 hown2 hgrow2 _; have HX2 := Lib.hid (((Below.refl _ w1).alloc (Nat.le_refl _) _).grown hgrow2 (by simp) (fun g hg => ((own_made8 w1).lt g hg).1)); have HO2 : Hid (OwnB w2 w1.heap.size v2 n xs) := Lib.hid (by rw [Nat.zero_add] at hown2; exact hown2); clear hown2 hgrow2)
    | (at_builtin; refine wpList_append_by _ rfl (.tmp 18) (.tmp 19) 22 rfl w1.heap.size i0 Tryd.underlying22 hi hz0 hz1 hz2 v2 n (vs xs) rfl (HO2.out.alloc _) (fun _ => True) (some ⟨w2.heap.size, 0, none⟩) 1 1 [128] rfl (By.one _ trivial rfl) (by omega) (by have := HX2.out.size; simp; omega) ?_; intro v3 w3 hown3 hgrow3 _; have HX3 := Lib.hid ((HX2.out.alloc HX2.out.size _).grown hgrow3 (Nat.le_trans HX2.out.size (by simp)) (fun g hg => (HO2.out.lt g hg).1)); obtain ⟨A3, c3, rfl, _, _, _⟩ := own_form hown3; have HO3 : Hid (OwnB w3 w1.heap.size (.slice A3 (n + 1) c3) (n + 1) (padded xs 0)) := Lib.hid (by rw [vs_append] at hown3; exact hown3); clear hown3 hgrow3))
  obtain ⟨Z, hZ⟩ : ∃ Z, Z = (119 - n % 64) % 64 := ⟨_, rfl⟩
  go_loopw [5] (fun ov wr => ∃ (k : Nat) (A : Option Addr) (c : Nat), k ≤ Z ∧ ov = .slice A (n + 1 + k) c ∧ OwnB wr w1.heap.size (.slice A (n + 1 + k) c) (n + 1 + k) (padded xs k) ∧ Below w1.heap.size w1 wr) (fun ov _ => n + 1 + Z - sliceLen ov)
  case atStart => exact ⟨0, A3, c3, by omega, rfl, HO3.out, HX3.out⟩
  case round =>
    obtain ⟨k, A5, c5, hk, rfl, ho, hx⟩ := hrel
    clear HO3 HX3 HO2 HX2
    by_cases hlt : k < Z
    · as_aux_lemma =>
      have hne : ((n : Int) + 1 + k) % 64 ≠ 56 := by omega
      have HO := Lib.hid ho
      have HX := Lib.hid hx
      clear ho hx
      go_wp2_with (at_builtin; refine wpList_append_by _ rfl (.tmp 25) (.tmp 26) 22 rfl w1.heap.size i0 Tryd.underlying22 hi hz0 hz1 hz2 (.slice A5 (n + 1 + k) c5) (n + 1 + k) (vs (padded xs k)) rfl (HO.out.alloc _) (fun _ => True) (some ⟨wr.heap.size, 0, none⟩) 1 1 [0] rfl (By.one _ trivial rfl) (by omega) (by have := HX.out.size; simp; omega) ?_; intro v6 w6 hown6 hgrow6 _; have HX6 := Lib.hid ((HX.out.alloc HX.out.size _).grown hgrow6 (Nat.le_trans HX.out.size (by simp)) (fun g hg => (HO.out.lt g hg).1)); obtain ⟨A6, c6, rfl, _, _, _⟩ := own_form hown6; have HO6 : Hid (OwnB w6 w1.heap.size (.slice A6 (n + 1 + k + 1) c6) (n + 1 + k + 1) (padded xs (k + 1))) := Lib.hid (by rw [vs_append, padded_succ] at hown6; exact hown6); clear hown6 hgrow6)
      go_roundw
      case rel => exact ⟨k + 1, A6, c6, by omega, rfl, HO6.out, HX6.out⟩
      case measure => simp [sliceLen]; omega
    · as_aux_lemma =>
      have ek : k = Z := by omega
      subst ek
      have hne : ((n : Int) + 1 + k) % 64 = 56 := by omega
      have hall : padded xs k ++ beB (8 * n) 8 = xs ++ ends xs.length := by
        rw [← padded_all, HL.out, ← hZ]
      have HAll := Lib.hid hall
      have HO := Lib.hid ho
      have HX := Lib.hid hx
      clear ho hx hall
      have hL64 : (n + 1 + k + 8) % 64 = 0 := by omega
      have hk63 : k ≤ 63 := by omega
      obtain ⟨L, hL⟩ : ∃ L, L = n + 1 + k + 8 := ⟨_, rfl⟩
      have hput : ∀ W, OwnB W w1.heap.size (.slice A5 (n + 1 + k) c5) (n + 1 + k) (padded xs k) → Calls Tryd.prog 30 #[.slice A5 (n + 1 + k) c5, .int .u64 ((n : Int) * 8), .int .i64 8] W fun e w' =>
          ∃ A7 c7, e = .returned (.slice A7 L c7) ∧ L ≤ c7 ∧ c7 ≤ maxLen ∧ OwnB w' W.heap.size (.slice A7 L c7) L (xs ++ ends xs.length) ∧ Below W.heap.size W w' := fun W h => by
        refine (rput_any _ A5 (n + 1 + k) c5 (padded xs k) ((n : Int) * 8) 8 (by omega) (by omega) W (By.of_own h) (by omega)).mono ?_
        rintro e w7 ⟨v7, rfl, hown7, hb7⟩
        have e1 : ((n : Int) * 8).toNat = 8 * n := by omega
        have e2 : putB (padded xs k) ((n : Int) * 8).toNat 8 = xs ++ ends xs.length := by rw [← HAll.out, e1]; rfl
        have e3 : putN (n + 1 + k) 8 = L := by rw [hL]; rfl
        rw [e2, e3] at hown7
        obtain ⟨A7, c7, rfl, hnc7, hcm7, _⟩ := own_form hown7
        exact ⟨A7, c7, rfl, hnc7, hcm7, hown7, hb7⟩
      have HPut := Lib.hid hput
      have hxl : (xs ++ ends xs.length).length = L := by rw [List.length_append, ends_length, HL.out]; omega
      have hl64 : L % 64 = 0 := by omega
      have hlb : L ≤ 1000072 := by omega
      have hsha : sha xs = (after (xs ++ ends xs.length) (L / 64)).bytes := by rw [← hxl]; rfl
      generalize xs ++ ends xs.length = all at HPut hsha hxl hput
      have HSha := Lib.hid hsha
      have HXl := Lib.hid hxl
      clear hput hZ hsha hxl HAll hL hL64
      go_wp2_with (go_at_call 30; refine (HPut.out wr HO.out).mono ?_; rintro e w7 ⟨A7, c7, rfl, hnc7, hcm7, hown7, hb7⟩; have HX7 := Lib.hid (HX.out.trans (hb7.mono HX.out.size)); have HO7 : Hid (OwnB w7 w1.heap.size (.slice A7 L c7) L all) := Lib.hid (own_weak hown7 HX.out.size); have HM7 := Lib.hid hcm7; clear hown7 hb7 hcm7)
      have hk7 := HK1.out.through HX7.out
      have hh7 := HH1.out.through HX7.out
      have hall := (By.of_own HO7.out).weak (Q' := fun g => Bk w7 g) fun _ h => h.2.2
      have HD7 := Lib.hid (HD1.out.through HX7.out)
      have HX0 := Lib.hid (HX1.out.trans (HX7.out.mono HX1.out.size))
      have HK7 := Lib.hid hk7
      have HAll := Lib.hid hall
      have HH7 := Lib.hid hh7
      clear HX7 HO7 HO HX hk7 hall hh7 HD1 HX1
      go_loopw [4, 6] (fun hv iv wr => ∃ (m : Nat) (A : Option Addr) (c : Nat), 64 * m ≤ L ∧ iv = .int .i64 (64 * (m : Int)) ∧ hv = .slice A 8 c ∧ Wd wr (fun _ => True) A 8 (after all m).list ∧ Below w7.heap.size w7 wr) (fun _ iv _ => L - (intOf iv).toNat)
      case atStart => exact ⟨0, Ah, ch, by omega, rfl, rfl, HH7.out, Below.refl _ _⟩
      case round =>
        obtain ⟨m, A8, c8, hm, rfl, rfl, hh, hx⟩ := hrel
        by_cases hlt : 64 * m < L
        · as_aux_lemma =>
          have hsl := fun (W : World) => run_cut2 (P := Tryd.prog) W 22 5 A7 L c7 .i64 .i64 (64 * (m : Int)) (64 * (m : Int) + 64) Tryd.underlying22 (by kernel_rfl) (by omega) (by omega) (by omega)
          have e1 : (64 * (m : Int)).toNat = 64 * m := by omega
          have e2 : (64 * (m : Int) + 64).toNat - 64 * m = 64 := by omega
          rw [e1, e2] at hsl
          have hb := HAll.out.bk hx
          have hd := (hb.drop (k := 64 * m) (c := c7) (by omega) hnc7).take (k := 64) (by omega)
          have hblk := block_any (fun _ => True) (fun _ => True) (after all m) ((all.drop (64 * m)).take 64) A8 Ak (cutA A7 c7 (64 * m)) c8 ck (c7 - 64 * m) wr hh (HK7.out.through hx) hd (by omega) (by have := HM7.out; omega)
          have hnext : press (after all m) ((all.drop (64 * m)).take 64) = after all (m + 1) := rfl
          rw [hnext] at hblk
          have HBlk := Lib.hid hblk
          have HX := Lib.hid hx
          clear hb hd hblk hnext hx hh e1 e2
          go_wp2_with (go_at_call 31; refine HBlk.out.mono ?_; rintro e w9 ⟨A9, c9, rfl, hown9, hb9⟩; have HX9 := Lib.hid (HX.out.trans (hb9.mono HX.out.size)); have HH9 := Lib.hid ((Wd.of_own hown9).weak (Q' := fun _ => True) fun _ _ => trivial); clear hown9 hb9)
          go_roundw
          case rel => exact ⟨m + 1, A9, c9, by omega, by go_num, rfl, HH9.out, HX9.out⟩
          case measure => simp [intOf]; omega
        · as_aux_lemma =>
          have hm64 : L / 64 = m := by omega
          obtain ⟨s, hs⟩ : ∃ s, s = after all m := ⟨_, rfl⟩
          rw [hm64, ← hs] at HSha
          rw [← hs] at hh
          have HH := Lib.hid hh
          have HX := Lib.hid hx
          clear hs hh hx HAll
          go_wp2
          obtain ⟨wy, rfl⟩ : ∃ wy : World, wy = wr := ⟨_, rfl⟩
          go_loopw [7, 50] (fun bv iv wr => ∃ (j : Nat) (A : Option Addr) (c : Nat), j ≤ 8 ∧ iv = .int .i64 j ∧ bv = .slice A (4 * j) c ∧ OwnB wr wy.heap.size (.slice A (4 * j) c) (4 * j) (flat s j) ∧ Below wy.heap.size wy wr) (fun _ iv _ => 8 - (intOf iv).toNat)
          case atStart => exact ⟨0, none, 0, by omega, rfl, rfl, World.ownsRow_nil _ _ _ _, Below.refl _ _⟩
          case round =>
            obtain ⟨j, Ab, cb, hj, rfl, rfl, ho, hx⟩ := hrel
            by_cases hltj : j < 8
            · as_aux_lemma =>
              obtain ⟨gk, ok, rfl, _, hckA⟩ := (HH.out.through hx).cell (by omega)
              have hck := hckA j hltj
              clear hckA
              have hnext := flat_succ s j hltj
              generalize s.list.getD j 0 = x at hck hnext
              have hlo := n32_lo x
              have hhi := n32_hi x
              have hyx : (n32 x).toNat = x.toNat := by unfold n32; simp
              generalize n32 x = y at hck hlo hhi hyx
              have hput : ∀ W, OwnB W wy.heap.size (.slice Ab (4 * j) cb) (4 * j) (flat s j) → Calls Tryd.prog 30 #[.slice Ab (4 * j) cb, .int .u64 y, .int .i64 4] W fun e w' =>
                  ∃ A7 c7, e = .returned (.slice A7 (4 * (j + 1)) c7) ∧ OwnB w' W.heap.size (.slice A7 (4 * (j + 1)) c7) (4 * (j + 1)) (flat s (j + 1)) ∧ Below W.heap.size W w' := fun W h => by
                refine (rput_any _ Ab (4 * j) cb (flat s j) y 4 hlo (by omega) W (By.of_own h) (by omega)).mono ?_
                rintro e w7 ⟨v7, rfl, hown7, hb7⟩
                have e2 : putB (flat s j) y.toNat 4 = flat s (j + 1) := by rw [hnext, hyx]; rfl
                have e3 : putN (4 * j) 4 = 4 * (j + 1) := rfl
                rw [e2, e3] at hown7
                obtain ⟨A7, c7, rfl, _⟩ := own_form hown7
                exact ⟨A7, c7, rfl, hown7, hb7⟩
              have HPut2 := Lib.hid hput
              have HO := Lib.hid ho
              have HX := Lib.hid hx
              clear hput ho hx hnext hyx
              go_wp2_with (go_at_call 30; refine (HPut2.out wr HO.out).mono ?_; rintro e w9 ⟨A9, c9, rfl, hown9, hb9⟩; have HX9 := Lib.hid (HX.out.trans (hb9.mono HX.out.size)); have HO9 : Hid (OwnB w9 wy.heap.size (.slice A9 (4 * (j + 1)) c9) (4 * (j + 1)) (flat s (j + 1))) := Lib.hid (own_weak hown9 HX.out.size); clear hown9 hb9)
              go_roundw
              case rel => exact ⟨j + 1, A9, c9, by omega, by go_num, rfl, HO9.out, HX9.out⟩
              case measure => simp [intOf]; omega
            · as_aux_lemma =>
              have e8 : j = 8 := by omega
              subst e8
              have hbb := (By.of_own ho).weak (Q' := fun _ => True) fun _ _ => trivial
              rw [flat_8] at hbb
              obtain ⟨wv, rfl⟩ : ∃ wv : World, wv = wr := ⟨_, rfl⟩
              have hxv := HX0.out.trans ((HX.out.trans (hx.mono HX.out.size)).mono HX0.out.size)
              have hdv : Blk wv w.heap.size 25 (vs zero32) := (HD7.out.through HX.out).through hx
              have hBz : (vs s.bytes).length = 32 := by rw [vs_length, S8.bytes_length]
              obtain ⟨gb, ob, rfl, _, hcb⟩ := hbb.lt.2 (by omega)
              have hgb : gb < wv.heap.size := by rename_i hq; exact hq.2
              have hcb2 : ∀ j, j < 32 → ∃ u : UInt8, (vs s.bytes)[j]? = some (u8 u) ∧ wv.cell? ⟨gb, ob + j, none⟩ = some (u8 u) := fun j hj => by
                have hl : j < s.bytes.length := by rw [S8.bytes_length]; exact hj
                exact ⟨s.bytes[j], by rw [vs_get, List.getElem?_eq_getElem hl]; rfl, hcb j _ (List.getElem?_eq_getElem hl)⟩
              have HCb := Lib.hid hcb2
              have HXv := Lib.hid hxv
              have HDv := Lib.hid hdv
              have HBz := Lib.hid hBz
              have HGb := Lib.hid hgb
              have HWw : Hid (w.heap.size < wv.heap.size) := Lib.hid hdv.lt
              clear ho hx hbb hxv hdv hcb hcb2 hBz hgb
              go_wp2
              go_loopw [59] (fun iv wr => ∃ i : Nat, i ≤ 32 ∧ iv = .int .i64 i ∧ Blk wr wv.heap.size 25 (swp (vs s.bytes) (vs zero32) i) ∧ Below wv.heap.size wv wr) (fun iv _ => 32 - (intOf iv).toNat)
              case atStart => exact ⟨0, by omega, rfl, by rw [swp_0]; exact Blk.fresh rfl (by kernel_rfl), (Below.refl _ wv).alloc (Nat.le_refl _) _⟩
              case round =>
                obtain ⟨i, hi32, rfl, hd, hx⟩ := hrel
                by_cases hlti : i < 32
                · as_aux_lemma =>
                  obtain ⟨u, hu, hcu⟩ := HCb.out i hlti
                  have hcu2 : wr.cell? ⟨gb, ob + i, none⟩ = some (u8 u) := (World.cell?_of_block (a := ⟨gb, ob + i, none⟩) (hx.block gb HGb.out)).trans hcu
                  have hl2 : i < (vs zero32).length := by rw [vs_length, show zero32.length = 32 from rfl]; exact hlti
                  have hcz : (swp (vs s.bytes) (vs zero32) i)[i]? = some (vs zero32)[i] := by rw [swp_at _ _ _ (by rw [HBz.out]; exact hlti), List.getElem?_eq_getElem hl2]
                  have hcd : wr.cell? ⟨wv.heap.size, i, none⟩ = some (vs zero32)[i] := hd.cellAt hcz
                  have hfd : wr.frozen? ⟨wv.heap.size, i, none⟩ = false := hd.frozen _
                  generalize (vs zero32)[i] = z at hcd
                  have HSet := Lib.hid (swp_set (vs s.bytes) (vs zero32) i _ hu hl2)
                  unfold u8 at hcu2
                  have Hd := Lib.hid hd
                  have HX := Lib.hid hx
                  clear hd hx hcz hl2 hu hcu
                  go_wp2
                  go_roundw
                  case rel =>
                    have h := Hd.out.set_ i (u8 u)
                    rw [HSet.out] at h
                    exact ⟨i + 1, by omega, by go_num, h, HX.out.setCell (Nat.le_refl _) _⟩
                  case measure => simp [intOf]; omega
                · as_aux_lemma =>
                  have e32 : i = 32 := by omega
                  rw [e32, swp_all _ _ 32 HBz.out rfl] at hd
                  obtain ⟨r, hr⟩ : ∃ r, r = vs s.bytes := ⟨_, rfl⟩
                  have hrl : r.length = 32 := by rw [hr]; exact HBz.out
                  have hone : r.toArray.all (·.oneCell') = true := by rw [hr]; exact one_u8
                  have hfin : (.agg r.toArray : Value) = dig (sha xs) := by rw [hr, HSha.out]; rfl
                  rw [← hr] at hd
                  have HRl := Lib.hid hrl
                  have HO := Lib.hid hone
                  have HF := Lib.hid hfin
                  have Hd := Lib.hid hd
                  have H0 := Lib.hid (HDv.out.through hx)
                  have HX := Lib.hid (HXv.out.trans (hx.mono HXv.out.size))
                  clear hd hx e32 hr hrl hone hfin
                  go_wp2_with (first
                    | (refine wpList_load_blk rfl 25 (.tmp 10) rfl wv.heap.size rfl 25 r _ Hd.out Tryd.underlying25 rfl (by rw [HRl.out]; kernel_rfl) ?_)
                    | (refine wpList_store_row rfl 25 (.tmp 2) (.tmp 69) rfl w.heap.size r.toArray rfl rfl 25 (vs zero32).toArray H0.out (by rw [List.size_toArray, HRl.out]; kernel_rfl) (by rw [List.size_toArray, List.size_toArray, HRl.out]; rfl) HO.out ?_))
                  refine bodyPost_ret (v := .agg r.toArray) (results_cell_row rfl _ _ w.heap.size 25 _ (0, 0) _ rfl (H0.out.row _) Tryd.underlying25 rfl ?r1) rfl ⟨by rw [HF.out], below_row HX.out _ (Nat.le_refl _) _⟩
                  rw [List.size_toArray, HRl.out]; kernel_rfl

end Go.Proofs.YtolildehdibpbaaDoor
