/-
  Joined: Fm, F1, U32, F2, F3, F4, F5, F6, F7, F8.
-/
import Derived.Test.YtgbobemhogeeeaaFBase
namespace Go.Proofs.Ytgbobemhogeeeaa

section
open Go.RowKit
/-- A policy: an organization (no kids), or so many of its kids. -/
inductive Fm where
  | mk (org nd : Int) (kids : List Fm)
def Fm.org : Fm → Int | .mk o _ _ => o
def Fm.nd : Fm → Int | .mk _ a _ => a
def Fm.kids : Fm → List Fm | .mk _ _ ks => ks
mutual
theorem Fm.ind {P : Fm → Prop} (h : ∀ o a ks, (∀ k, k ∈ ks → P k) → P (.mk o a ks)) : ∀ f, P f
  | .mk o a ks => h o a ks (Fm.indL h ks)
theorem Fm.indL {P : Fm → Prop} (h : ∀ o a ks, (∀ k, k ∈ ks → P k) → P (.mk o a ks)) : ∀ (ks : List Fm) (k : Fm), k ∈ ks → P k
  | [], _, hk => by cases hk
  | x :: ks, k, hk => (List.mem_cons.1 hk).elim (fun e => e ▸ Fm.ind h x) (fun hk => Fm.indL h ks k hk)
end

mutual
/-- how many nodes -/
def Fm.size : Fm → Nat | .mk _ _ ks => 1 + Fm.sizes ks
def Fm.sizes : List Fm → Nat | [] => 0 | k :: ks => Fm.size k + Fm.sizes ks
end
mutual
/-- how deep -/
def Fm.depth : Fm → Nat | .mk _ _ ks => Fm.depths ks + 1
def Fm.depths : List Fm → Nat | [] => 0 | k :: ks => max (Fm.depth k) (Fm.depths ks)
end
mutual
/-- numbers in their ranges -/
def Fm.rng (n : Int) : Fm → Bool
  | .mk o a [] => decide (0 ≤ o) && decide (o < n) && decide (a = 0)
  | .mk o a (k :: ks) => Fm.rngs n (k :: ks) && (decide (1 ≤ a) && decide (a ≤ ((ks.length + 1 : Nat) : Int)) && decide (o = 0))
def Fm.rngs (n : Int) : List Fm → Bool | [] => true | k :: ks => Fm.rng n k && Fm.rngs n ks
end
mutual
/-- whether it holds for a set -/
def Fm.hold (s : Nat) : Fm → Bool
  | .mk o _ [] => s.testBit o.toNat
  | .mk _ a (k :: ks) => decide (a ≤ (Fm.holds s (k :: ks) : Int))
def Fm.holds (s : Nat) : List Fm → Nat | [] => 0 | k :: ks => (if Fm.hold s k then 1 else 0) + Fm.holds s ks
end
mutual
/-- all organizations in it -/
def Fm.names : Fm → Nat
  | .mk o _ [] => 2 ^ o.toNat
  | .mk _ _ (k :: ks) => Fm.namess (k :: ks)
def Fm.namess : List Fm → Nat | [] => 0 | k :: ks => Fm.names k ||| Fm.namess ks
end
mutual
/-- whether an organization stands in it -/
def Fm.stands (x : Int) : Fm → Bool
  | .mk o _ [] => o == x
  | .mk _ _ (k :: ks) => Fm.standss x (k :: ks)
def Fm.standss (x : Int) : List Fm → Bool | [] => false | k :: ks => Fm.stands x k || Fm.standss x ks
end
mutual
/-- whether they are the same -/
def Fm.same : Fm → Fm → Bool
  | .mk o a ks, .mk o' a' ks' => decide (o = o') && decide (a = a') && Fm.sames ks ks'
def Fm.sames : List Fm → List Fm → Bool | [], [] => true | k :: ks, l :: ls => Fm.same k l && Fm.sames ks ls | _, _ => false
end
/-- a few nodes, not deep -/
def Fm.few (f : Fm) : Prop := f.size ≤ 200 ∧ f.depth ≤ 50
/-- what it may be, of n organizations -/
def Fm.check (f : Fm) (n : Int) : Int := if n < 1 ∨ 7 < n then 1 else if 32 < f.size then 4 else if 5 < f.depth then 3 else if f.rng n = false then 5 else 0

theorem Fm.rng_leaf (n o a : Int) : Fm.rng n (.mk o a []) = (decide (0 ≤ o) && decide (o < n) && decide (a = 0)) := rfl
theorem Fm.size_pos (f : Fm) : 1 ≤ f.size := by cases f; simp [Fm.size]
theorem Fm.sizes_mem {k : Fm} : ∀ {ks : List Fm}, k ∈ ks → k.size ≤ Fm.sizes ks
  | [], h => by cases h
  | x :: ks, h => by
    rcases List.mem_cons.1 h with rfl | h
    · simp only [Fm.sizes]; omega
    · have := Fm.sizes_mem h; simp only [Fm.sizes]; omega
theorem Fm.depths_mem {k : Fm} : ∀ {ks : List Fm}, k ∈ ks → k.depth ≤ Fm.depths ks
  | [], h => by cases h
  | x :: ks, h => by
    rcases List.mem_cons.1 h with rfl | h
    · simp only [Fm.depths]; omega
    · have := Fm.depths_mem h; simp only [Fm.depths]; omega
theorem Fm.length_sizes : ∀ (ks : List Fm), ks.length ≤ Fm.sizes ks
  | [] => Nat.le_refl _
  | k :: ks => by have := Fm.length_sizes ks; have := k.size_pos; simp only [Fm.sizes, List.length_cons]; omega
theorem Fm.rngs_mem {n : Int} {k : Fm} : ∀ {ks : List Fm}, Fm.rngs n ks = true → k ∈ ks → k.rng n = true
  | [], _, h => by cases h
  | x :: ks, hr, h => by
    simp only [Fm.rngs, Bool.and_eq_true] at hr
    rcases List.mem_cons.1 h with rfl | h
    · exact hr.1
    · exact Fm.rngs_mem hr.2 h

/-- A policy's value: its two numbers, and the slice of its kids. -/
def Fm.val (f : Fm) (A : Option Addr) (n c : Nat) : Value := .agg #[.int .i64 f.org, .int .i64 f.nd, .slice A n c]
mutual
/-- The slice '.slice A n _' reads, in w, as the policy's kids, in memory of which Q is said. -/
def Fm.In (w : World) (Q : Nat → Prop) : Fm → Option Addr → Nat → Prop
  | .mk _ _ ks, A, n => ks.length = n ∧ n ≤ maxLen ∧ (0 < n → ∃ g o, A = some ⟨g, o, none⟩ ∧ Q g ∧ Fm.InRow w Q g o ks)
def Fm.InRow (w : World) (Q : Nat → Prop) (g : Nat) : Nat → List Fm → Prop
  | _, [] => True
  | o, k :: ks => (∃ A n c, w.rangeAt g o [.int .i64 k.org, .int .i64 k.nd, .slice A n c] ∧ Fm.In w Q k A n) ∧ Fm.InRow w Q g (o + 3) ks
end
theorem range_keep {w w' : World} {g o : Nat} {cs : List Value} (h : w.rangeAt g o cs) (e : w'.heap[g]? = w.heap[g]?) : w'.rangeAt g o cs :=
  fun j v hv => (World.cell?_of_block (a := ⟨g, o + j, none⟩) e).trans (h j v hv)
mutual
theorem Fm.In.keep {w w' : World} {Q : Nat → Prop} (hk : ∀ g, Q g → w'.heap[g]? = w.heap[g]?) : ∀ (f : Fm) (A : Option Addr) (n : Nat), Fm.In w Q f A n → Fm.In w' Q f A n
  | .mk _ _ ks, A, n, h => ⟨h.1, h.2.1, fun hn => by
    obtain ⟨g, o, e, hq, hr⟩ := h.2.2 hn
    exact ⟨g, o, e, hq, Fm.InRow.keep hk g (hk g hq) o ks hr⟩⟩
theorem Fm.InRow.keep {w w' : World} {Q : Nat → Prop} (hk : ∀ g, Q g → w'.heap[g]? = w.heap[g]?) (g : Nat) (hg : w'.heap[g]? = w.heap[g]?) : ∀ (o : Nat) (ks : List Fm), Fm.InRow w Q g o ks → Fm.InRow w' Q g o ks
  | _, [], _ => trivial
  | o, k :: ks, h => by
    obtain ⟨⟨A, n, c, h1, h2⟩, h3⟩ := h
    exact ⟨⟨A, n, c, range_keep h1 hg, Fm.In.keep hk k A n h2⟩, Fm.InRow.keep hk g hg (o + 3) ks h3⟩
end
mutual
theorem Fm.In.weak {w : World} {Q Q' : Nat → Prop} (hk : ∀ g, Q g → g < w.heap.size → Q' g) : ∀ (f : Fm) (A : Option Addr) (n : Nat), Fm.In w Q f A n → Fm.In w Q' f A n
  | .mk _ _ [], A, n, h => ⟨h.1, h.2.1, fun hn => by have := h.1; simp at this; omega⟩
  | .mk _ _ (k :: ks), A, n, h => ⟨h.1, h.2.1, fun hn => by
    obtain ⟨g, o, e, hq, hr⟩ := h.2.2 hn
    refine ⟨g, o, e, hk g hq ?_, Fm.InRow.weak hk g o (k :: ks) hr⟩
    obtain ⟨⟨A', n', c', h1, _⟩, _⟩ := hr
    exact World.block_lt_of_cell? w ⟨g, o + 0, none⟩ (h1 0 _ rfl)⟩
theorem Fm.InRow.weak {w : World} {Q Q' : Nat → Prop} (hk : ∀ g, Q g → g < w.heap.size → Q' g) (g : Nat) : ∀ (o : Nat) (ks : List Fm), Fm.InRow w Q g o ks → Fm.InRow w Q' g o ks
  | _, [], _ => trivial
  | o, k :: ks, h => by
    obtain ⟨⟨A, n, c, h1, h2⟩, h3⟩ := h
    exact ⟨⟨A, n, c, h1, Fm.In.weak hk k A n h2⟩, Fm.InRow.weak hk g (o + 3) ks h3⟩
end
section
variable {w w' : World} {Q : Nat → Prop} {f : Fm} {A : Option Addr} {n : Nat}
theorem Fm.In.lt (h : f.In w Q A n) : f.In w (fun g => Q g ∧ g < w.heap.size) A n := Fm.In.weak (fun _ h1 h2 => ⟨h1, h2⟩) f A n h
theorem Fm.In.through (h : f.In w Q A n) (hb : Below w.heap.size w w') : f.In w' Q A n :=
  Fm.In.weak (fun _ hg _ => hg.1) f A n (Fm.In.keep (fun g hg => hb.block g hg.2) f A n h.lt)
theorem Fm.In.alloc (h : f.In w Q A n) (o : Obj) : f.In (w.alloc o) Q A n := h.through ((Below.refl _ w).alloc (Nat.le_refl _) o)
theorem Fm.In.drew (h : f.In w Q A n) : f.In w.drew Q A n := h.through (Below.refl _ w).drew
/-- Block g alone is turned. -/
theorem Fm.In.only {g : Nat} (h : f.In w (· ≠ g) A n) (hb : w.grownBy w' (some g)) : f.In w' (· ≠ g) A n :=
  Fm.In.weak (fun _ hg _ => hg.1) f A n (Fm.In.keep (fun k hk => hb.block k hk.2 (fun e => hk.1 (Option.some.inj e))) f A n h.lt)
theorem Fm.In.apart {g : Nat} (h : f.In w Q A n) (hg : w.heap.size ≤ g) : f.In w (· ≠ g) A n := Fm.In.weak (fun _ _ hl => by omega) f A n h
theorem Fm.In.any (h : f.In w Q A n) : f.In w (fun _ => True) A n := Fm.In.weak (fun _ _ _ => trivial) f A n h
theorem Fm.In.len {o a : Int} {ks : List Fm} (h : (Fm.mk o a ks).In w Q A n) : ks.length = n := h.1
end
theorem Fm.InRow.get {w : World} {Q : Nat → Prop} {g : Nat} : ∀ {ks : List Fm} {o i : Nat} {k : Fm}, Fm.InRow w Q g o ks → ks[i]? = some k → ∃ A n c, w.rangeAt g (o + i * 3) [.int .i64 k.org, .int .i64 k.nd, .slice A n c] ∧ k.In w Q A n
  | [], _, _, _, _, h => by simp at h
  | x :: ks, o, 0, k, h, hk => by
    simp at hk
    subst hk
    obtain ⟨⟨A, n, c, h1, h2⟩, _⟩ := h
    exact ⟨A, n, c, by simpa using h1, h2⟩
  | x :: ks, o, i + 1, k, h, hk => by
    obtain ⟨A, n, c, h1, h2⟩ := Fm.InRow.get h.2 (by simpa using hk)
    exact ⟨A, n, c, by rw [show o + (i + 1) * 3 = o + 3 + i * 3 by omega]; exact h1, h2⟩
/-- The kid at place i. -/
theorem Fm.In.kid {w : World} {Q : Nat → Prop} {o a : Int} {ks : List Fm} {A : Option Addr} {n i : Nat} (h : (Fm.mk o a ks).In w Q A n) (hi : i < n) :
    ∃ k g b A' n' c', ks[i]? = some k ∧ k ∈ ks ∧ ks.drop i = k :: ks.drop (i + 1) ∧ A = some ⟨g, b, none⟩ ∧ Q g ∧ w.rangeAt g (b + i * 3) [.int .i64 k.org, .int .i64 k.nd, .slice A' n' c'] ∧ k.In w Q A' n' := by
  obtain ⟨hl, _, h2⟩ := h
  obtain ⟨g, b, rfl, hq, hr⟩ := h2 (by omega)
  have hx : i < ks.length := by omega
  obtain ⟨A', n', c', h3, h4⟩ := hr.get (List.getElem?_eq_getElem hx)
  exact ⟨ks[i], g, b, A', n', c', List.getElem?_eq_getElem hx, List.getElem_mem _, List.drop_eq_getElem_cons hx, rfl, hq, h3, h4⟩

theorem Try.info_fm : (Try.prog.info? 58).map (·.size) = some 3 := by kernel_rfl
end

section
open Go.RowKit
set_option maxHeartbeats 1000000 in
theorem isorg_any (o a : Int) (A : Option Addr) (n c : Nat) (w : World) :
    Calls Try.prog 97 #[.agg #[.int .i64 o, .int .i64 a, .slice A n c]] w fun e w' => e = .returned (.bool (decide (n = 0))) ∧ Below w.heap.size w w' := by
  go_enter Try.func97, Try.ntmps97
  go_wp2
  go_ret
  refine ⟨?_, (Below.refl _ w).alloc (Nat.le_refl _) _⟩
  show Ending.returned (.bool ((n : Int) == 0)) = _
  congr 2
  rw [Bool.eq_iff_iff]
  simp
end

section
open Go.RowKit
theorem ofInt_u32 (a : Nat) (h : a < 4294967296) : (BitVec.ofInt 32 (a : Int)).toNat = a := by
  rw [BitVec.toNat_ofInt]
  omega
theorem u32_and (a b : Nat) (ha : a < 4294967296) (hb : b < 4294967296) : bits .and .u32 (a : Int) (b : Int) = ((a &&& b : Nat) : Int) := by
  have hx : a &&& b < 2 ^ 32 := Nat.lt_of_le_of_lt Nat.and_le_left (by omega)
  show IntKind.u32.wrap ((BitVec.ofInt 32 (a : Int) &&& BitVec.ofInt 32 (b : Int)).toNat : Int) = _
  rw [BitVec.toNat_and, ofInt_u32 a ha, ofInt_u32 b hb]
  exact IntWalk.u32_in _ (by omega)
theorem u32_or (a b : Nat) (ha : a < 4294967296) (hb : b < 4294967296) : bits .or .u32 (a : Int) (b : Int) = ((a ||| b : Nat) : Int) := by
  have hx : a ||| b < 2 ^ 32 := Nat.or_lt_two_pow (by omega) (by omega)
  show IntKind.u32.wrap ((BitVec.ofInt 32 (a : Int) ||| BitVec.ofInt 32 (b : Int)).toNat : Int) = _
  rw [BitVec.toNat_or, ofInt_u32 a ha, ofInt_u32 b hb]
  exact IntWalk.u32_in _ (by omega)
/-- All that are not in a set. -/
def cpl (s : Nat) : Nat := 4294967295 - s
theorem cpl_lt (s : Nat) : cpl s < 4294967296 := by unfold cpl; omega
theorem cpl_bit (s i : Nat) (hs : s < 4294967296) : (cpl s).testBit i = (decide (i < 32) && !s.testBit i) := by
  have h := Nat.testBit_two_pow_sub_succ (x := s) (n := 32) (by omega) i
  rw [← h]
  unfold cpl
  rw [show 4294967295 - s = 2 ^ 32 - (s + 1) by omega]
theorem cpl_cpl (s : Nat) (hs : s < 4294967296) : cpl (cpl s) = s := by unfold cpl; omega
theorem high_bit (s i : Nat) (hs : s < 4294967296) (hi : 32 ≤ i) : s.testBit i = false :=
  Nat.testBit_lt_two_pow (Nat.lt_of_lt_of_le (show s < 2 ^ 32 by omega) (Nat.pow_le_pow_right (by omega) hi))
theorem xor_cpl (s : Nat) (hs : s < 4294967296) : 4294967295 ^^^ s = cpl s := by
  apply Nat.eq_of_testBit_eq
  intro i
  rw [Nat.testBit_xor, cpl_bit s i hs, show (4294967295 : Nat) = 2 ^ 32 - 1 from rfl, Nat.testBit_two_pow_sub_one]
  by_cases hi : i < 32
  · simp [hi]
  · simp [hi, high_bit s i hs (by omega)]
theorem u32_not (s : Nat) (hs : s < 4294967296) : bits .xor .u32 IntKind.u32.max (s : Int) = ((cpl s : Nat) : Int) := by
  have hm : IntKind.u32.max = ((4294967295 : Nat) : Int) := by decide
  have hx : 4294967295 ^^^ s < 2 ^ 32 := Nat.xor_lt_two_pow (by omega) (by omega)
  rw [hm]
  show IntKind.u32.wrap ((BitVec.ofInt 32 ((4294967295 : Nat) : Int) ^^^ BitVec.ofInt 32 (s : Int)).toNat : Int) = _
  rw [BitVec.toNat_xor, ofInt_u32 _ (by omega), ofInt_u32 s hs, xor_cpl s hs]
  have := cpl_lt s
  exact IntWalk.u32_in _ (by omega)
theorem u32_not' (s : Nat) (hs : s < 4294967296) : bits .xor .u32 (if IntKind.u32.signed = true then -1 else IntKind.u32.max) (s : Int) = ((cpl s : Nat) : Int) := by
  rw [← u32_not s hs, if_neg (by decide)]
theorem u32_andNot (a b : Nat) (ha : a < 4294967296) (hb : b < 4294967296) : bits .andNot .u32 (a : Int) (b : Int) = ((a &&& cpl b : Nat) : Int) := by
  have hx : a &&& cpl b < 2 ^ 32 := Nat.lt_of_le_of_lt Nat.and_le_left (by omega)
  show IntKind.u32.wrap ((BitVec.ofInt 32 (a : Int) &&& ~~~ BitVec.ofInt 32 (b : Int)).toNat : Int) = _
  rw [BitVec.toNat_and, BitVec.toNat_not, ofInt_u32 a ha, ofInt_u32 b hb]
  show IntKind.u32.wrap ((a &&& cpl b : Nat) : Int) = _
  exact IntWalk.u32_in _ (by omega)
theorem shr_u32 (s : Nat) (o : Int) (ho : 0 ≤ o ∧ o < 7) (w : World) : (Op.shift .shr .u32 (s : Int) .i64 o).run Try.prog w = .ok (.int .u32 ((s / 2 ^ o.toNat : Nat) : Int)) w := by
  rw [shift_shr_any _ _ _ _ ho.1]
  have hm : min o.toNat IntKind.u32.bits = o.toNat := by
    have : IntKind.u32.bits = 32 := rfl
    omega
  rw [hm]
  show Result.ok _ w = _
  congr 2
theorem shl_u32 (o : Int) (ho : 0 ≤ o ∧ o < 7) (w : World) : (Op.shift .shl .u32 1 .i64 o).run Try.prog w = .ok (.int .u32 ((2 ^ o.toNat : Nat) : Int)) w := by
  rw [shift_shl_any _ _ _ _ ho.1]
  have hm : min o.toNat IntKind.u32.bits = o.toNat := by
    have : IntKind.u32.bits = 32 := rfl
    omega
  rw [hm]
  have hp : 2 ^ o.toNat < 2 ^ 32 := Nat.pow_lt_pow_right (by omega) (by omega)
  have he : ((2 : Int) ^ o.toNat) = ((2 ^ o.toNat : Nat) : Int) := by simp
  show Result.ok _ w = _
  congr 2
  rw [Int.one_mul, he]
  generalize 2 ^ o.toNat = y at *
  exact IntWalk.u32_in _ (by omega)
theorem bit_shr (s j : Nat) (hs : s < 4294967296) : bits .and .u32 ((s / 2 ^ j : Nat) : Int) 1 = if s.testBit j then 1 else 0 := by
  have h := u32_and (s / 2 ^ j) 1 (Nat.lt_of_le_of_lt (Nat.div_le_self _ _) hs) (by omega)
  rw [show ((1 : Nat) : Int) = 1 from rfl] at h
  rw [h, Nat.and_one_is_mod, Nat.testBit_eq_decide_div_mod_eq]
  by_cases hb : s / 2 ^ j % 2 = 1
  · rw [hb]; simp
  · have : s / 2 ^ j % 2 = 0 := by omega
    rw [this]; simp
end

section
open Go.RowKit
set_option maxHeartbeats 4000000 in
set_option maxRecDepth 100000 in
theorem holds_any (s : Nat) (hs : s < 4294967296) (f : Fm) : ∀ (A : Option Addr) (n c : Nat) (w : World), f.rng 7 = true → f.In w (fun _ => True) A n →
    Calls Try.prog 85 #[f.val A n c, .int .u32 (s : Int)] w fun e w' => e = .returned (.bool (f.hold s)) ∧ Below w.heap.size w w' := by
  induction f using Fm.ind with
  | h o a ks ih =>
    intro A n c w hr h
    cases ks with
    | nil =>
      obtain rfl : 0 = n := h.len
      unfold Fm.val
      clear h ih
      have ho : 0 ≤ o ∧ o < 7 := by simp [Fm.rng] at hr; omega
      clear hr
      have hh : (Fm.mk o a []).hold s = s.testBit o.toNat := rfl
      rw [hh]
      have hsh := shr_u32 s o ho
      have hbs := bit_shr s o.toNat hs
      simp only [Fm.org, Fm.nd]
      generalize s.testBit o.toNat = x at *
      generalize ((s / 2 ^ o.toNat : Nat) : Int) = y at *
      clear hh ho
      cases x
      all_goals
        simp only [if_true, if_false, Bool.false_eq_true] at hbs
        go_enter Try.func85, Try.ntmps85
        go_wp2_with (go_at_call 97; (with_reducible refine (isorg_any _ _ _ _ _ _).mono ?_); rintro e w1 ⟨rfl, hb1⟩; have HX1 : Hid (Below w.heap.size w w1) := Lib.hid (((Below.refl _ w).alloc (Nat.le_refl _) _).trans (hb1.mono (by simp))); have HB1 := Lib.hid (Blk.through (Blk.fresh (w := w) (t := 58) rfl rfl) hb1); have d0 := HB1.out.cellAt (i := 0) rfl; clear hb1)
        go_ret
        exact ⟨rfl, HX1.out⟩
    | cons k0 ks0 =>
      have hpos : 0 < n := by have := h.len; simp at this; omega
      have hlen := h.len
      have hd0 : decide ((n : Int) = 0) = false := by simp; omega
      have hd1 : decide (n = 0) = false := by simp; omega
      have hbeq : ((n : Int) == 0) = false := by simp; omega
      have hst : (Fm.mk o a (k0 :: ks0)).hold s = decide (a ≤ (Fm.holds s (k0 :: ks0) : Int)) := rfl
      rw [hst]
      have hr2 : Fm.rngs 7 (k0 :: ks0) = true := by simp only [Fm.rng, Bool.and_eq_true] at hr; exact hr.1
      clear hst hr
      generalize hks : k0 :: ks0 = ks at *
      clear hks
      have hmax := h.2.1
      unfold maxLen at hmax
      have HF := Lib.hid h
      unfold Fm.val
      simp only [Fm.org, Fm.nd]
      have HX0 : Hid (Below w.heap.size w (w.alloc (.cells #[.int .i64 o, .int .i64 a, .slice A n c] 58))) := Lib.hid ((Below.refl _ w).alloc (Nat.le_refl _) _)
      have HB0 : Hid (Blk (w.alloc (.cells #[.int .i64 o, .int .i64 a, .slice A n c] 58)) w.heap.size 58 [.int .i64 o, .int .i64 a, .slice A n c]) := Lib.hid (Blk.fresh rfl rfl)
      have HI := Lib.hid ih
      have HR2 := Lib.hid hr2
      clear h ih hr2
      go_enter Try.func85, Try.ntmps85
      go_wp2_with (go_at_call 97; (with_reducible refine (isorg_any _ _ _ _ _ _).mono ?_); rintro e w1 ⟨rfl, hb1⟩; have HXB : Hid (Below w.heap.size w w1) := Lib.hid (HX0.out.trans (hb1.mono (by simp))); have HBB := Lib.hid (HB0.out.through hb1); have d2 := HBB.out.cellAt (i := 2) rfl; clear hb1)
      go_loopw [5, 19] (fun cv iv wr => ∃ i m : Nat, i ≤ n ∧ iv = .int .i64 i ∧ cv = .int .i64 m ∧ m ≤ i ∧ Below w.heap.size w wr ∧ Blk wr w.heap.size 58 [.int .i64 o, .int .i64 a, .slice A n c] ∧ m + Fm.holds s (ks.drop i) = Fm.holds s ks) (fun _ iv _ => n - (intOf iv).toNat)
      case atStart => exact ⟨0, 0, Nat.zero_le _, rfl, rfl, Nat.le_refl _, HXB.out, HBB.out, Nat.zero_add _⟩
      case round =>
        obtain ⟨i, m, hi, rfl, rfl, hm, hx, hb, hs⟩ := hrel
        have HX := Lib.hid hx
        have HB := Lib.hid hb
        clear hx hb
        by_cases hlt : i < n
        · obtain ⟨k, g, b, A', n', c', hk1, hk2, hk3, rfl, _, hr, hk⟩ := (HF.out.through HX.out).kid hlt
          have HR := Lib.hid hr
          have HK := Lib.hid hk
          rw [hk3] at hs
          clear hr hk hk1 hk3
          have hcall : ∀ W, k.In W (fun _ => True) A' n' → Calls Try.prog 85 #[.agg #[.int .i64 k.org, .int .i64 k.nd, .slice A' n' c'], .int .u32 (s : Int)] W fun e w' => e = .returned (.bool (k.hold s)) ∧ Below W.heap.size W w' := fun W h => HI.out k hk2 A' n' c' W (Fm.rngs_mem HR2.out hk2) h
          have hcons : Fm.holds s (k :: ks.drop (i + 1)) = (if k.hold s then 1 else 0) + Fm.holds s (ks.drop (i + 1)) := rfl
          rw [hcons] at hs
          cases hkx : k.hold s <;> rw [hkx] at hcall hs <;> have HC := Lib.hid hcall <;> have HS := Lib.hid hs <;> clear hcall hkx hcons hs
          all_goals
            go_wp2_with (first
              | (refine wpList_load_mid rfl 58 (.tmp 21) rfl g (b + i * 3) (by simp [Act.eval]) [.int .i64 k.org, .int .i64 k.nd, .slice A' n' c'] _ HR.out Try.underlying58 rfl (by kernel_rfl) ?_)
              | (go_at_call 85; (with_reducible refine (HC.out _ (HK.out.alloc _)).mono ?_); rintro e w5 ⟨rfl, hb5⟩; have hx5 : Below wr.heap.size wr w5 := ((Below.refl _ wr).alloc (Nat.le_refl _) _).trans (hb5.mono (by simp)); have HX5 := Lib.hid (HX.out.trans (hx5.mono HX.out.size)); have HB5 := Lib.hid (HB.out.through hx5); clear hb5 hx5))
          · go_roundw
            case rel => exact ⟨i + 1, m, by omega, by go_num, rfl, by omega, HX5.out, HB5.out, by simpa using HS.out⟩
            case measure => simp [intOf]; omega
          · go_roundw
            case rel => exact ⟨i + 1, m + 1, by omega, by go_num, by go_num, by omega, HX5.out, HB5.out, by have := HS.out; simp at this; omega⟩
            case measure => simp [intOf]; omega
        · obtain rfl : i = n := by omega
          have c1 := HB.out.cellAt (i := 1) rfl
          have hs : m = Fm.holds s ks := by rw [← hs, List.drop_of_length_le (by omega)]; rfl
          rw [← hs]
          go_wp2
          go_ret
          exact ⟨rfl, HX.out⟩
end

section
open Go.RowKit
end


section
open Go.RowKit
theorem Try.size_int (w : World) : (sizeOf 3).run Try.prog w = .ok 1 w := by kernel_rfl
theorem Try.size_u32 (w : World) : (sizeOf 37).run Try.prog w = .ok 1 w := by kernel_rfl

theorem ret_bool {b c : Bool} (h : b = c) : Ending.returned (Value.bool b) = Ending.returned (.bool c) := by rw [h]

set_option maxHeartbeats 1000000 in
theorem many1_any (o a d : Int) (A : Option Addr) (n c s g : Nat) (w : World) (hb : Blk w g 3 [.int .i64 (s : Int)]) (hs : s ≤ 1000) :
    Calls Try.prog 94 #[.agg #[.int .i64 o, .int .i64 a, .slice A n c], .int .i64 d, .pointer (some ⟨g, 0, none⟩)] w fun e w' => e = .returned (.bool (decide (s + 1 ≤ 32))) ∧ Blk w' g 3 [.int .i64 ((s + 1 : Nat) : Int)] ∧ w.grownBy w' (some g) := by
  have hb2 : Blk (w.alloc (.cells #[.int .i64 o, .int .i64 a, .slice A n c] 58)) g 3 [.int .i64 (s : Int)] := hb.alloc _
  have c0 := hb2.cellAt (i := 0) rfl
  have HB := Lib.hid hb2
  clear hb hb2
  go_enter Try.func94, Try.ntmps94
  go_wp2_with (refine wpList_store_cell rfl 3 (.tmp 2) (.tmp 7) rfl g 0 rfl (.int .i64 ((s : Int) + 1)) rfl rfl rfl Try.size_int 3 [.int .i64 (s : Int)] HB.out (by simp) ?_; intro w1 hb1 hg1; have H1 : Hid (Blk w1 g 3 [.int .i64 ((s : Int) + 1)]) := Lib.hid hb1; have d0 := H1.out.cellAt (i := 0) rfl; have HG1 := Lib.hid (only_trans (World.grownBy_alloc w _ (some g)) hg1); clear hb1 hg1)
  go_ret
  exact ⟨by congr 2; simp; omega, H1.out, HG1.out⟩

set_option maxHeartbeats 1000000 in
theorem deep1_any (o a d : Int) (A : Option Addr) (n c : Nat) (w : World) :
    Calls Try.prog 95 #[.agg #[.int .i64 o, .int .i64 a, .slice A n c], .int .i64 d] w fun e w' => e = .returned (.bool (decide (d ≤ 5))) ∧ Below w.heap.size w w' := by
  go_enter Try.func95, Try.ntmps95
  go_wp2
  go_ret
  exact ⟨rfl, (Below.refl _ w).alloc (Nat.le_refl _) _⟩

/-- whether a node's own numbers may be -/
def rng1 (x o a : Int) (n : Nat) : Bool := if n = 0 then decide (0 ≤ o) && decide (o < x) && decide (a = 0) else decide (o = 0) && decide (1 ≤ a) && decide (a ≤ (n : Int))

set_option maxHeartbeats 2000000 in
set_option maxRecDepth 100000 in
theorem within1_any (x o a d : Int) (A : Option Addr) (n c g : Nat) (w : World) (hb : Blk w g 3 [.int .i64 x]) :
    Calls Try.prog 96 #[.agg #[.int .i64 o, .int .i64 a, .slice A n c], .int .i64 d, .pointer (some ⟨g, 0, none⟩)] w fun e w' => e = .returned (.bool (rng1 x o a n)) ∧ Below w.heap.size w w' := by
  have HB := Lib.hid hb
  clear hb
  obtain ⟨v, hv⟩ : ∃ v, v = rng1 x o a n := ⟨_, rfl⟩
  rw [← hv]
  have HV := Lib.hid hv
  clear hv
  by_cases hn : n = 0
  · subst hn
    rcases (show a ≠ 0 ∨ (a = 0 ∧ o < 0) ∨ (a = 0 ∧ 0 ≤ o ∧ x ≤ o) ∨ (a = 0 ∧ 0 ≤ o ∧ o < x) by omega) with h | ⟨h, h2⟩ | ⟨h, h2, h3⟩ | ⟨h, h2, h3⟩
    case' inl => have h4 : (a == 0) = false := by simpa using h
    case' inr.inl | inr.inr.inl | inr.inr.inr => have h4 : (a == 0) = true := by simpa using h
    all_goals
      go_enter Try.func96, Try.ntmps96
      go_wp2_with (go_at_call 97; (with_reducible refine (isorg_any _ _ _ _ _ _).mono ?_); rintro e w1 ⟨rfl, hb1⟩; have HX1 : Hid (Below w.heap.size w w1) := Lib.hid (((Below.refl _ w).alloc (Nat.le_refl _) _).trans (hb1.mono (by simp))); have B1 := Lib.hid (Blk.through (Blk.fresh (w := w) (t := 58) rfl rfl) hb1); have d0 := B1.out.cellAt (i := 0) rfl; have d1 := B1.out.cellAt (i := 1) rfl; have d2 := B1.out.cellAt (i := 2) rfl; have H1 := Lib.hid (HB.out.through HX1.out); have e0 := H1.out.cellAt (i := 0) rfl; clear hb1)
      go_ret
      refine ⟨ret_bool ?_, HX1.out⟩
      rw [HV.out]
      unfold rng1
      rw [if_pos rfl]
      rw [Bool.eq_iff_iff]; simp only [Bool.and_eq_true, decide_eq_true_eq, Bool.false_eq_true, true_iff, false_iff]; omega
  · have hd1 : decide (n = 0) = false := by simp; omega
    rcases (show o ≠ 0 ∨ (o = 0 ∧ a < 1) ∨ (o = 0 ∧ 1 ≤ a ∧ (n : Int) < a) ∨ (o = 0 ∧ 1 ≤ a ∧ a ≤ (n : Int)) by omega) with h | ⟨h, h2⟩ | ⟨h, h2, h3⟩ | ⟨h, h2, h3⟩
    case' inl => have h4 : (o == 0) = false := by simpa using h
    case' inr.inl | inr.inr.inl | inr.inr.inr => have h4 : (o == 0) = true := by simpa using h
    all_goals
      go_enter Try.func96, Try.ntmps96
      go_wp2_with (go_at_call 97; (with_reducible refine (isorg_any _ _ _ _ _ _).mono ?_); rintro e w1 ⟨rfl, hb1⟩; have HX1 : Hid (Below w.heap.size w w1) := Lib.hid (((Below.refl _ w).alloc (Nat.le_refl _) _).trans (hb1.mono (by simp))); have B1 := Lib.hid (Blk.through (Blk.fresh (w := w) (t := 58) rfl rfl) hb1); have d0 := B1.out.cellAt (i := 0) rfl; have d1 := B1.out.cellAt (i := 1) rfl; have d2 := B1.out.cellAt (i := 2) rfl; have H1 := Lib.hid (HB.out.through HX1.out); have e0 := H1.out.cellAt (i := 0) rfl; clear hb1)
      go_ret
      refine ⟨ret_bool ?_, HX1.out⟩
      rw [HV.out]
      unfold rng1
      rw [if_neg hn]
      rw [Bool.eq_iff_iff]; simp only [Bool.and_eq_true, decide_eq_true_eq, Bool.false_eq_true, true_iff, false_iff]; omega

/-- the names behind a node -/
def nam1 (s : Nat) (o : Int) (n : Nat) : Nat := if n = 0 then s ||| 2 ^ o.toNat else s
end

section
open Go.RowKit
set_option maxHeartbeats 4000000 in
set_option maxRecDepth 100000 in
theorem each_many (f : Fm) : ∀ (s g : Nat) (d : Int) (A : Option Addr) (n c : Nat) (w : World), s + f.size ≤ 1000 → f.In w (· ≠ g) A n → Blk w g 3 [.int .i64 (s : Int)] →
    Calls Try.prog 93 #[f.val A n c, .int .i64 d, .func (.func 94) #[] #[.pointer (some ⟨g, 0, none⟩)]] w fun e w' => ∃ s' : Nat, e = .returned (.bool (decide (s + f.size ≤ 32))) ∧ Blk w' g 3 [.int .i64 (s' : Int)] ∧ (s + f.size ≤ 32 → s' = s + f.size) ∧ w.grownBy w' (some g) := by
  induction f using Fm.ind with
  | h o a ks ih =>
    intro s g d A n c w hz h hst
    have hzs : (Fm.mk o a ks).size = 1 + Fm.sizes ks := rfl
    rw [hzs] at hz ⊢
    clear hzs
    have hgl := hst.lt
    have HS0 := Lib.hid hst
    clear hst
    obtain ⟨v, hv⟩ : ∃ v, v = decide (s + (1 + Fm.sizes ks) ≤ 32) := ⟨_, rfl⟩
    rw [← hv]
    have HV := Lib.hid hv
    clear hv
    obtain ⟨d', hd'⟩ : ∃ d', wrap64 (d + 1) = d' := ⟨_, rfl⟩
    have hlen := h.len
    have hmax := h.2.1
    unfold maxLen at hmax
    have HF := Lib.hid h
    unfold Fm.val
    simp only [Fm.org, Fm.nd]
    have hB0 : Blk (w.alloc (.cells #[.int .i64 o, .int .i64 a, .slice A n c] 58)) w.heap.size 58 [.int .i64 o, .int .i64 a, .slice A n c] := Blk.fresh rfl rfl
    have HB0 := Lib.hid hB0
    have HI := Lib.hid ih
    clear h ih hB0
    by_cases h1 : s + 1 ≤ 32
    · have hd1 : decide (s + 1 ≤ 32) = true := by simpa using h1
      go_enter Try.func93, Try.ntmps93
      go_wp2_with (go_at_call 94; (with_reducible refine (many1_any o a d A n c s g _ (HS0.out.alloc _) (by omega)).mono ?_); rintro e w1 ⟨rfl, hs1, hg1⟩; have HS1 := Lib.hid hs1; have B1 := Lib.hid (HB0.out.grown hg1 (by simp; omega)); have HG1 := Lib.hid (only_trans (World.grownBy_alloc w _ (some g)) hg1); have b2 := B1.out.cellAt (i := 2) rfl; clear hs1 hg1)
      go_loopw [17] (fun iv wr => ∃ (i si : Nat), i ≤ n ∧ iv = .int .i64 i ∧ Blk wr g 3 [.int .i64 (si : Int)] ∧ w.grownBy wr (some g) ∧ Blk wr w.heap.size 58 [.int .i64 o, .int .i64 a, .slice A n c] ∧ (si ≤ 32 ∧ si + Fm.sizes (ks.drop i) = s + (1 + Fm.sizes ks))) (fun iv _ => n - (intOf iv).toNat)
      case atStart => exact ⟨0, s + 1, Nat.zero_le _, rfl, HS1.out, HG1.out, B1.out, h1, by simp; omega⟩
      case round =>
        obtain ⟨i, si, hi, rfl, hst, hg, hb, hs⟩ := hrel
        have HS := Lib.hid hst
        have HG := Lib.hid hg
        have HB := Lib.hid hb
        clear hst hg hb
        by_cases hlt : i < n
        · skip
          obtain ⟨k, g0, b, A', n', c', hk1, hk2, hk3, rfl, _, hr, hk⟩ := (HF.out.only HG.out).kid hlt
          have HR := Lib.hid hr
          have HK := Lib.hid hk
          rw [hk3] at hs
          clear hr hk hk1 hk3
          have hc1 : Fm.sizes (k :: ks.drop (i + 1)) = k.size + Fm.sizes (ks.drop (i + 1)) := rfl
          rw [hc1] at hs
          obtain ⟨hs0, hs⟩ := hs
          have hcall : ∀ W, k.In W (· ≠ g) A' n' → Blk W g 3 [.int .i64 (si : Int)] → Calls Try.prog 93 #[.agg #[.int .i64 k.org, .int .i64 k.nd, .slice A' n' c'], .int .i64 d', .func (.func 94) #[] #[.pointer (some ⟨g, 0, none⟩)]] W fun e w' => ∃ s' : Nat, e = .returned (.bool (decide (si + k.size ≤ 32))) ∧ Blk w' g 3 [.int .i64 (s' : Int)] ∧ (si + k.size ≤ 32 → s' = si + k.size) ∧ W.grownBy w' (some g) := fun W h1 h2 => HI.out k hk2 si g d' A' n' c' W (by omega) h1 h2
          have HS9 := Lib.hid hs
          by_cases hkx : si + k.size ≤ 32
          · rw [show decide (si + k.size ≤ 32) = true by simpa using hkx] at hcall
            have HC := Lib.hid hcall
            clear hcall hc1 hs
            go_wp2_with (first
              | (refine wpList_load_mid rfl 58 (.tmp 19) rfl g0 (b + i * 3) (by simp [Act.eval]) [.int .i64 k.org, .int .i64 k.nd, .slice A' n' c'] _ HR.out Try.underlying58 rfl (by kernel_rfl) ?_)
              | (go_at_call 93; (with_reducible refine (HC.out _ (HK.out.alloc _) (HS.out.alloc _)).mono ?_); rintro e w5 ⟨s', rfl, hs5, hn5, hg5⟩; have HS5 := Lib.hid hs5; have HN5 := Lib.hid (hn5 hkx); have hg6 := only_trans (World.grownBy_alloc wr _ (some g)) hg5; have HG5 := Lib.hid (only_trans HG.out hg6); have HB5 := Lib.hid ((HB.out).grown hg6 (by simp; omega)); clear hg5 hg6; clear hs5 hn5))
            go_roundw
            case rel => exact ⟨i + 1, s', by omega, by go_num, HS5.out, HG5.out, HB5.out, by have h7 := HN5.out; have h8 := HS9.out; exact ⟨by omega, by omega⟩⟩
            case measure => simp [intOf]; omega
          · rw [show decide (si + k.size ≤ 32) = false by simpa using hkx] at hcall
            have HC := Lib.hid hcall
            clear hcall hc1 hs
            go_wp2_with (first
              | (refine wpList_load_mid rfl 58 (.tmp 19) rfl g0 (b + i * 3) (by simp [Act.eval]) [.int .i64 k.org, .int .i64 k.nd, .slice A' n' c'] _ HR.out Try.underlying58 rfl (by kernel_rfl) ?_)
              | (go_at_call 93; (with_reducible refine (HC.out _ (HK.out.alloc _) (HS.out.alloc _)).mono ?_); rintro e w5 ⟨s', rfl, hs5, hn5, hg5⟩; have HS5 := Lib.hid hs5; have hg6 := only_trans (World.grownBy_alloc wr _ (some g)) hg5; have HG5 := Lib.hid (only_trans HG.out hg6); have HB5 := Lib.hid ((HB.out).grown hg6 (by simp; omega)); clear hg5 hg6; clear hs5 hn5))
            go_ret
            have h8 := HS9.out
            exact ⟨s', ret_bool (by rw [HV.out]; simp; omega), HS5.out, fun h => by omega, HG5.out⟩
        · obtain rfl : i = n := by omega
          rw [List.drop_of_length_le (by omega)] at hs
          have HS9 := Lib.hid hs
          clear hs
          go_wp2
          go_ret
          have h8 : si = s + (1 + Fm.sizes ks) := HS9.out.2
          have h9 := HS9.out.1
          exact ⟨si, ret_bool (by rw [HV.out]; simp; omega), HS.out, fun _ => h8, HG.out⟩
    · have hd1 : decide (s + 1 ≤ 32) = false := by simpa using h1
      go_enter Try.func93, Try.ntmps93
      go_wp2_with (go_at_call 94; (with_reducible refine (many1_any o a d A n c s g _ (HS0.out.alloc _) (by omega)).mono ?_); rintro e w1 ⟨rfl, hs1, hg1⟩; have HS1 := Lib.hid hs1; have B1 := Lib.hid (HB0.out.grown hg1 (by simp; omega)); have HG1 := Lib.hid (only_trans (World.grownBy_alloc w _ (some g)) hg1); have b2 := B1.out.cellAt (i := 2) rfl; clear hs1 hg1)
      go_ret
      exact ⟨s + 1, ret_bool (by rw [HV.out]; simp; omega), HS1.out, fun h => by omega, HG1.out⟩

set_option maxHeartbeats 4000000 in
set_option maxRecDepth 100000 in
theorem each_deep (f : Fm) : ∀ (d : Int) (A : Option Addr) (n c : Nat) (w : World), 0 ≤ d → d + f.depth ≤ 1000 → f.In w (fun _ => True) A n →
    Calls Try.prog 93 #[f.val A n c, .int .i64 d, .func (.func 95) #[] #[]] w fun e w' => e = .returned (.bool (decide (d + f.depth ≤ 6))) ∧ Below w.heap.size w w' := by
  induction f using Fm.ind with
  | h o a ks ih =>
    intro d A n c w hd0 hdz h
    have hzs : (Fm.mk o a ks).depth = Fm.depths ks + 1 := rfl
    rw [hzs] at hdz ⊢
    clear hzs
    obtain ⟨v, hv⟩ : ∃ v, v = decide (d + ((Fm.depths ks + 1 : Nat) : Int) ≤ 6) := ⟨_, rfl⟩
    rw [← hv]
    have HV := Lib.hid hv
    have HDZ := Lib.hid hdz
    have hdl : d ≤ 1000 := by omega
    clear hv hdz
    have hlen := h.len
    have hmax := h.2.1
    unfold maxLen at hmax
    have HF := Lib.hid h
    unfold Fm.val
    simp only [Fm.org, Fm.nd]
    have hB0 : Blk (w.alloc (.cells #[.int .i64 o, .int .i64 a, .slice A n c] 58)) w.heap.size 58 [.int .i64 o, .int .i64 a, .slice A n c] := Blk.fresh rfl rfl
    have HB0 := Lib.hid hB0
    have HI := Lib.hid ih
    clear h ih hB0
    by_cases h1 : d ≤ 5
    · have hd1 : decide (d ≤ 5) = true := by simpa using h1
      go_enter Try.func93, Try.ntmps93
      go_wp2_with (go_at_call 95; (with_reducible refine (deep1_any o a d A n c _).mono ?_); rintro e w1 ⟨rfl, hb1⟩; have HX1 : Hid (Below w.heap.size w w1) := Lib.hid (((Below.refl _ w).alloc (Nat.le_refl _) _).trans (hb1.mono (by simp))); have B1 := Lib.hid (HB0.out.through hb1); have b2 := B1.out.cellAt (i := 2) rfl; clear hb1)
      go_loopw [17] (fun iv wr => ∃ i : Nat, i ≤ n ∧ iv = .int .i64 i ∧ Below w.heap.size w wr ∧ Blk wr w.heap.size 58 [.int .i64 o, .int .i64 a, .slice A n c] ∧ (d + (Fm.depths ks : Int) ≤ 5 ↔ d + (Fm.depths (ks.drop i) : Int) ≤ 5)) (fun iv _ => n - (intOf iv).toNat)
      case atStart => exact ⟨0, Nat.zero_le _, rfl, HX1.out, B1.out, by simp⟩
      case round =>
        obtain ⟨i, hi, rfl, hx, hb, hs⟩ := hrel
        have HX := Lib.hid hx
        have HB := Lib.hid hb
        clear hx hb
        by_cases hlt : i < n
        · skip
          obtain ⟨k, g0, b, A', n', c', hk1, hk2, hk3, rfl, _, hr, hk⟩ := (HF.out.through HX.out).kid hlt
          have HR := Lib.hid hr
          have HK := Lib.hid hk
          rw [hk3] at hs
          clear hr hk hk1 hk3
          have hc1 : Fm.depths (k :: ks.drop (i + 1)) = max k.depth (Fm.depths (ks.drop (i + 1))) := rfl
          rw [hc1] at hs
          have hkd : d + 1 + (k.depth : Int) ≤ 1000 := by have h8 := Fm.depths_mem hk2; have h9 := HDZ.out; omega
          have hcall : ∀ W, k.In W (fun _ => True) A' n' → Calls Try.prog 93 #[.agg #[.int .i64 k.org, .int .i64 k.nd, .slice A' n' c'], .int .i64 (d + 1), .func (.func 95) #[] #[]] W fun e w' => e = .returned (.bool (decide (d + 1 + k.depth ≤ 6))) ∧ Below W.heap.size W w' := fun W h1 => HI.out k hk2 (d + 1) A' n' c' W (by omega) hkd h1
          have HS9 := Lib.hid hs
          have HKD := Lib.hid hkd
          by_cases hkx : d + 1 + (k.depth : Int) ≤ 6
          · rw [show decide (d + 1 + (k.depth : Int) ≤ 6) = true by simpa using hkx] at hcall
            have HC := Lib.hid hcall
            have HKX := Lib.hid hkx
            clear hcall hc1 hs hkd hkx
            go_wp2_with (first
              | (refine wpList_load_mid rfl 58 (.tmp 19) rfl g0 (b + i * 3) (by simp [Act.eval]) [.int .i64 k.org, .int .i64 k.nd, .slice A' n' c'] _ HR.out Try.underlying58 rfl (by kernel_rfl) ?_)
              | (go_at_call 93; (with_reducible refine (HC.out _ (HK.out.alloc _)).mono ?_); rintro e w5 ⟨rfl, hb5⟩; have hx5 : Below wr.heap.size wr w5 := ((Below.refl _ wr).alloc (Nat.le_refl _) _).trans (hb5.mono (by simp)); have HX5 := Lib.hid (HX.out.trans (hx5.mono HX.out.size)); have HB5 := Lib.hid (HB.out.through hx5); clear hb5 hx5))
            go_roundw
            case rel => exact ⟨i + 1, by omega, by go_num, HX5.out, HB5.out, by have h7 := HKX.out; have h8 := HS9.out; omega⟩
            case measure => simp [intOf]; omega
          · rw [show decide (d + 1 + (k.depth : Int) ≤ 6) = false by simpa using hkx] at hcall
            have HC := Lib.hid hcall
            have HKX := Lib.hid hkx
            clear hcall hc1 hs hkd hkx
            go_wp2_with (first
              | (refine wpList_load_mid rfl 58 (.tmp 19) rfl g0 (b + i * 3) (by simp [Act.eval]) [.int .i64 k.org, .int .i64 k.nd, .slice A' n' c'] _ HR.out Try.underlying58 rfl (by kernel_rfl) ?_)
              | (go_at_call 93; (with_reducible refine (HC.out _ (HK.out.alloc _)).mono ?_); rintro e w5 ⟨rfl, hb5⟩; have hx5 : Below wr.heap.size wr w5 := ((Below.refl _ wr).alloc (Nat.le_refl _) _).trans (hb5.mono (by simp)); have HX5 := Lib.hid (HX.out.trans (hx5.mono HX.out.size)); have HB5 := Lib.hid (HB.out.through hx5); clear hb5 hx5))
            go_ret
            have h7 := HKX.out
            have h8 := HS9.out
            exact ⟨ret_bool (by rw [HV.out]; simp; omega), HX5.out⟩
        · obtain rfl : i = n := by omega
          rw [List.drop_of_length_le (by omega)] at hs
          have hs2 := hs.2 (by simp [Fm.depths]; omega)
          have HS9 := Lib.hid hs2
          clear hs hs2
          go_wp2
          go_ret
          have h8 := HS9.out
          exact ⟨ret_bool (by rw [HV.out]; simp; omega), HX.out⟩
    · have hd1 : decide (d ≤ 5) = false := by simpa using h1
      go_enter Try.func93, Try.ntmps93
      go_wp2_with (go_at_call 95; (with_reducible refine (deep1_any o a d A n c _).mono ?_); rintro e w1 ⟨rfl, hb1⟩; have HX1 : Hid (Below w.heap.size w w1) := Lib.hid (((Below.refl _ w).alloc (Nat.le_refl _) _).trans (hb1.mono (by simp))); have B1 := Lib.hid (HB0.out.through hb1); have b2 := B1.out.cellAt (i := 2) rfl; clear hb1)
      go_ret
      exact ⟨ret_bool (by rw [HV.out]; simp; omega), HX1.out⟩

theorem Fm.rng_eq (x o a : Int) (ks : List Fm) : Fm.rng x (.mk o a ks) = (rng1 x o a ks.length && Fm.rngs x ks) := by
  cases ks with
  | nil => simp [Fm.rng, Fm.rngs, rng1]
  | cons k ks =>
    simp only [Fm.rng, rng1, List.length_cons]
    rw [if_neg (by omega), Bool.and_comm]
    congr 1
    rw [Bool.and_comm, Bool.and_assoc]

set_option maxHeartbeats 4000000 in
set_option maxRecDepth 100000 in
theorem each_within (x : Int) (f : Fm) : ∀ (g : Nat) (d : Int) (A : Option Addr) (n c : Nat) (w : World), f.In w (fun _ => True) A n → Blk w g 3 [.int .i64 x] →
    Calls Try.prog 93 #[f.val A n c, .int .i64 d, .func (.func 96) #[] #[.pointer (some ⟨g, 0, none⟩)]] w fun e w' => e = .returned (.bool (f.rng x)) ∧ Below w.heap.size w w' := by
  induction f using Fm.ind with
  | h o a ks ih =>
    intro g d A n c w h hst
    rw [Fm.rng_eq, h.len]
    have HS0 := Lib.hid hst
    clear hst
    obtain ⟨v, hv⟩ : ∃ v, v = (rng1 x o a n && Fm.rngs x ks) := ⟨_, rfl⟩
    rw [← hv]
    obtain ⟨d', hd'⟩ : ∃ d', wrap64 (d + 1) = d' := ⟨_, rfl⟩
    have hwin : ∀ W, Blk W g 3 [.int .i64 x] → Calls Try.prog 96 #[.agg #[.int .i64 o, .int .i64 a, .slice A n c], .int .i64 d, .pointer (some ⟨g, 0, none⟩)] W fun e w' => e = .returned (.bool (rng1 x o a n)) ∧ Below W.heap.size W w' := fun W h => within1_any x o a d A n c g W h
    have hlen := h.len
    have hmax := h.2.1
    unfold maxLen at hmax
    have HF := Lib.hid h
    unfold Fm.val
    simp only [Fm.org, Fm.nd]
    have hB0 : Blk (w.alloc (.cells #[.int .i64 o, .int .i64 a, .slice A n c] 58)) w.heap.size 58 [.int .i64 o, .int .i64 a, .slice A n c] := Blk.fresh rfl rfl
    have HB0 := Lib.hid hB0
    have HI := Lib.hid ih
    clear h ih hB0
    cases h1 : rng1 x o a n <;> rw [h1] at hwin hv <;> have HW := Lib.hid hwin <;> have HV := Lib.hid hv <;> clear hwin hv h1
    · go_enter Try.func93, Try.ntmps93
      go_wp2_with (go_at_call 96; (with_reducible refine (HW.out _ (HS0.out.alloc _)).mono ?_); rintro e w1 ⟨rfl, hb1⟩; have HS1 := Lib.hid ((HS0.out.alloc _).through hb1); have HX1 : Hid (Below w.heap.size w w1) := Lib.hid (((Below.refl _ w).alloc (Nat.le_refl _) _).trans (hb1.mono (by simp))); have B1 := Lib.hid (HB0.out.through hb1); have b2 := B1.out.cellAt (i := 2) rfl; clear hb1)
      go_ret
      exact ⟨ret_bool (by rw [HV.out]; rfl), HX1.out⟩
    · go_enter Try.func93, Try.ntmps93
      go_wp2_with (go_at_call 96; (with_reducible refine (HW.out _ (HS0.out.alloc _)).mono ?_); rintro e w1 ⟨rfl, hb1⟩; have HS1 := Lib.hid ((HS0.out.alloc _).through hb1); have HX1 : Hid (Below w.heap.size w w1) := Lib.hid (((Below.refl _ w).alloc (Nat.le_refl _) _).trans (hb1.mono (by simp))); have B1 := Lib.hid (HB0.out.through hb1); have b2 := B1.out.cellAt (i := 2) rfl; clear hb1)
      go_loopw [17] (fun iv wr => ∃ i : Nat, i ≤ n ∧ iv = .int .i64 i ∧ Blk wr g 3 [.int .i64 x] ∧ Below w.heap.size w wr ∧ Blk wr w.heap.size 58 [.int .i64 o, .int .i64 a, .slice A n c] ∧ Fm.rngs x ks = Fm.rngs x (ks.drop i)) (fun iv _ => n - (intOf iv).toNat)
      case atStart => exact ⟨0, Nat.zero_le _, rfl, HS1.out, HX1.out, B1.out, rfl⟩
      case round =>
        obtain ⟨i, hi, rfl, hst, hx, hb, hs⟩ := hrel
        have HS := Lib.hid hst
        have HX := Lib.hid hx
        have HB := Lib.hid hb
        clear hst hx hb
        by_cases hlt : i < n
        · skip
          obtain ⟨k, g0, b, A', n', c', hk1, hk2, hk3, rfl, _, hr, hk⟩ := (HF.out.through HX.out).kid hlt
          have HR := Lib.hid hr
          have HK := Lib.hid hk
          rw [hk3] at hs
          clear hr hk hk1 hk3
          have hcall : ∀ W, k.In W (fun _ => True) A' n' → Blk W g 3 [.int .i64 x] → Calls Try.prog 93 #[.agg #[.int .i64 k.org, .int .i64 k.nd, .slice A' n' c'], .int .i64 d', .func (.func 96) #[] #[.pointer (some ⟨g, 0, none⟩)]] W fun e w' => e = .returned (.bool (k.rng x)) ∧ Below W.heap.size W w' := fun W h1 h2 => HI.out k hk2 g d' A' n' c' W h1 h2
          have hcons : Fm.rngs x (k :: ks.drop (i + 1)) = (k.rng x && Fm.rngs x (ks.drop (i + 1))) := rfl
          rw [hcons] at hs
          cases hkx : k.rng x <;> rw [hkx] at hcall hs <;> have HC := Lib.hid hcall <;> have HS9 := Lib.hid hs <;> clear hcall hkx hcons hs
          all_goals
            go_wp2_with (first
              | (refine wpList_load_mid rfl 58 (.tmp 19) rfl g0 (b + i * 3) (by simp [Act.eval]) [.int .i64 k.org, .int .i64 k.nd, .slice A' n' c'] _ HR.out Try.underlying58 rfl (by kernel_rfl) ?_)
              | (go_at_call 93; (with_reducible refine (HC.out _ (HK.out.alloc _) (HS.out.alloc _)).mono ?_); rintro e w5 ⟨rfl, hb5⟩; have HS5 := Lib.hid ((HS.out.alloc _).through hb5); have hx5 : Below wr.heap.size wr w5 := ((Below.refl _ wr).alloc (Nat.le_refl _) _).trans (hb5.mono (by simp)); have HX5 := Lib.hid (HX.out.trans (hx5.mono HX.out.size)); have HB5 := Lib.hid (HB.out.through hx5); clear hb5 hx5))
          · go_ret
            exact ⟨ret_bool (by rw [HV.out, HS9.out]; rfl), HX5.out⟩
          · go_roundw
            case rel => exact ⟨i + 1, by omega, by go_num, HS5.out, HX5.out, HB5.out, by have := HS9.out; simpa using this⟩
            case measure => simp [intOf]; omega
        · obtain rfl : i = n := by omega
          rw [List.drop_of_length_le (by omega)] at hs
          have HS9 := Lib.hid hs
          clear hs
          go_wp2
          go_ret
          exact ⟨ret_bool (by rw [HV.out, HS9.out]; rfl), HX.out⟩

theorem Fm.names_eq (s : Nat) (o a : Int) (ks : List Fm) : s ||| Fm.names (.mk o a ks) = nam1 s o ks.length ||| Fm.namess ks := by
  cases ks with
  | nil => simp [Fm.names, Fm.namess, nam1]
  | cons k ks =>
    simp only [Fm.names, nam1, List.length_cons]
    rw [if_neg (by omega)]
end

section
open Go.RowKit
set_option maxHeartbeats 4000000 in
set_option maxRecDepth 100000 in
theorem ismany_any (f : Fm) (A : Option Addr) (n c : Nat) (w : World) (hz : f.size ≤ 200) (h : f.In w (fun _ => True) A n) :
    Calls Try.prog 81 #[f.val A n c] w fun e w' => e = .returned (.bool (decide (32 < f.size))) ∧ Below w.heap.size w w' := by
  have hmf : ∀ (fn : Fn) (first cap : Array Value) (w : World), (Instr.makeFunc fn first cap).run Try.prog w = .ok (.func fn first cap) w := fun _ _ _ _ => rfl
  have hcall : ∀ W g, f.In W (· ≠ g) A n → Blk W g 3 [.int .i64 0] → Calls Try.prog 93 #[f.val A n c, .int .i64 1, .func (.func 94) #[] #[.pointer (some ⟨g, 0, none⟩)]] W fun e w' => e = .returned (.bool (!decide (32 < f.size))) ∧ W.grownBy w' (some g) := fun W g h1 h2 => by
    refine (each_many f 0 g 1 A n c W (by omega) h1 h2).mono ?_
    rintro e w' ⟨s', rfl, _, _, hg⟩
    refine ⟨ret_bool ?_, hg⟩
    rw [Bool.eq_iff_iff]
    simp
  have HF := Lib.hid (h.apart (g := w.heap.size + 1) (by omega))
  unfold Fm.val at hcall ⊢
  cases hv : decide (32 < f.size) <;> rw [hv] at hcall <;> have HC := Lib.hid hcall <;> clear hcall hv h
  all_goals
    go_enter Try.func81, Try.ntmps81
    go_wp2_with (go_at_call 93; (with_reducible refine (HC.out _ (w.heap.size + 1) ((HF.out.alloc _).alloc _) (Blk.fresh (by simp) rfl)).mono ?_); rintro e w1 ⟨rfl, hg1⟩; have hx1 : Below w.heap.size w w1 := (((Below.refl _ w).alloc (Nat.le_refl _) _).alloc (by simp) _).grown hg1 (by simp; omega) (fun k hk => by have := Option.some.inj hk; omega); have HX1 := Lib.hid hx1; clear hg1 hx1)
    go_ret
    exact ⟨rfl, HX1.out⟩

set_option maxHeartbeats 4000000 in
set_option maxRecDepth 100000 in
theorem isdeep_any (f : Fm) (A : Option Addr) (n c : Nat) (w : World) (hz : f.depth ≤ 50) (h : f.In w (fun _ => True) A n) :
    Calls Try.prog 82 #[f.val A n c] w fun e w' => e = .returned (.bool (decide (5 < f.depth))) ∧ Below w.heap.size w w' := by
  have hcall : ∀ W, f.In W (fun _ => True) A n → Calls Try.prog 93 #[f.val A n c, .int .i64 1, .func (.func 95) #[] #[]] W fun e w' => e = .returned (.bool (!decide (5 < f.depth))) ∧ Below W.heap.size W w' := fun W h1 => by
    refine (each_deep f 1 A n c W (by omega) (by omega) h1).mono ?_
    rintro e w' ⟨rfl, hg⟩
    refine ⟨ret_bool ?_, hg⟩
    rw [Bool.eq_iff_iff]
    simp
    omega
  have HF := Lib.hid h
  unfold Fm.val at hcall ⊢
  cases hv : decide (5 < f.depth) <;> rw [hv] at hcall <;> have HC := Lib.hid hcall <;> clear hcall hv h
  all_goals
    go_enter Try.func82, Try.ntmps82
    go_wp2_with (go_at_call 93; (with_reducible refine (HC.out _ (HF.out.alloc _)).mono ?_); rintro e w1 ⟨rfl, hb1⟩; have HX1 : Hid (Below w.heap.size w w1) := Lib.hid (((Below.refl _ w).alloc (Nat.le_refl _) _).trans (hb1.mono (by simp))); clear hb1)
    go_ret
    exact ⟨rfl, HX1.out⟩

set_option maxHeartbeats 4000000 in
set_option maxRecDepth 100000 in
theorem iswithin_any (x : Int) (f : Fm) (A : Option Addr) (n c : Nat) (w : World) (h : f.In w (fun _ => True) A n) :
    Calls Try.prog 83 #[f.val A n c, .int .i64 x] w fun e w' => e = .returned (.bool (f.rng x)) ∧ Below w.heap.size w w' := by
  have hmf : ∀ (fn : Fn) (first cap : Array Value) (w : World), (Instr.makeFunc fn first cap).run Try.prog w = .ok (.func fn first cap) w := fun _ _ _ _ => rfl
  have hcall : ∀ W g, f.In W (fun _ => True) A n → Blk W g 3 [.int .i64 x] → Calls Try.prog 93 #[f.val A n c, .int .i64 1, .func (.func 96) #[] #[.pointer (some ⟨g, 0, none⟩)]] W fun e w' => e = .returned (.bool (f.rng x)) ∧ Below W.heap.size W w' := fun W g h1 h2 => each_within x f g 1 A n c W h1 h2
  have HF := Lib.hid h
  have HC := Lib.hid hcall
  unfold Fm.val at HC ⊢
  clear hcall h
  go_enter Try.func83, Try.ntmps83
  go_wp2_with (go_at_call 93; (with_reducible refine (HC.out _ (w.heap.size + 1) ((HF.out.alloc _).alloc _) (Blk.fresh (by simp) rfl)).mono ?_); rintro e w1 ⟨rfl, hb1⟩; have hx1 : Below w.heap.size w w1 := (((Below.refl _ w).alloc (Nat.le_refl _) _).alloc (by simp) _).trans (hb1.mono (by simp; omega)); have HX1 := Lib.hid hx1; clear hb1 hx1)
  go_ret
  exact ⟨rfl, HX1.out⟩

set_option maxHeartbeats 4000000 in
set_option maxRecDepth 100000 in
theorem check_any (f : Fm) (x : Int) (A : Option Addr) (n c : Nat) (w : World) (hz : f.few) (h : f.In w (fun _ => True) A n) :
    Calls Try.prog 55 #[f.val A n c, .int .i64 x] w fun e w' => e = .returned (.int .i64 (f.check x)) ∧ Below w.heap.size w w' := by
  obtain ⟨hz1, hz2⟩ := hz
  obtain ⟨v, hv⟩ : ∃ v, v = f.check x := ⟨_, rfl⟩
  rw [← hv]
  have HF := Lib.hid h
  unfold Fm.check at hv
  have hB0 : Blk (w.alloc (.cells #[.int .i64 f.org, .int .i64 f.nd, .slice A n c] 58)) w.heap.size 58 [.int .i64 f.org, .int .i64 f.nd, .slice A n c] := Blk.fresh rfl rfl
  have HB0 := Lib.hid hB0
  have HX0 : Hid (Below w.heap.size w (w.alloc (.cells #[.int .i64 f.org, .int .i64 f.nd, .slice A n c] 58))) := Lib.hid ((Below.refl _ w).alloc (Nat.le_refl _) _)
  clear hB0 h
  rcases (show x < 1 ∨ 7 < x ∨ (1 ≤ x ∧ x ≤ 7 ∧ 32 < f.size) ∨ (1 ≤ x ∧ x ≤ 7 ∧ f.size ≤ 32 ∧ 5 < f.depth) ∨ (1 ≤ x ∧ x ≤ 7 ∧ f.size ≤ 32 ∧ f.depth ≤ 5 ∧ f.rng x = false) ∨ (1 ≤ x ∧ x ≤ 7 ∧ f.size ≤ 32 ∧ f.depth ≤ 5 ∧ f.rng x = true) by cases f.rng x <;> simp <;> omega) with h1 | h1 | ⟨h1, h2, h3⟩ | ⟨h1, h2, h3, h4⟩ | ⟨h1, h2, h3, h4, h5⟩ | ⟨h1, h2, h3, h4, h5⟩
  · rw [if_pos (Or.inl h1)] at hv
    have HV := Lib.hid hv
    clear hv
    unfold Fm.val
    clear hz1 hz2
    go_enter Try.func55, Try.ntmps55
    go_wp2
    go_ret
    exact ⟨by rw [HV.out]; rfl, HX0.out⟩
  · rw [if_pos (Or.inr h1)] at hv
    have HV := Lib.hid hv
    clear hv
    unfold Fm.val
    clear hz1 hz2
    go_enter Try.func55, Try.ntmps55
    go_wp2
    go_ret
    exact ⟨by rw [HV.out]; rfl, HX0.out⟩
  · rw [if_neg (by omega), if_pos h3] at hv
    have HV := Lib.hid hv
    clear hv
    have hm : ∀ W, f.In W (fun _ => True) A n → Calls Try.prog 81 #[.agg #[.int .i64 f.org, .int .i64 f.nd, .slice A n c]] W fun e w' => e = .returned (.bool true) ∧ Below W.heap.size W w' := fun W h => by have := ismany_any f A n c W hz1 h; rw [show decide (32 < f.size) = true by simp; omega] at this; exact this
    have HM := Lib.hid hm
    clear hm
    unfold Fm.val
    generalize f.org = fo at *
    generalize f.nd = fa at *
    clear hz1 hz2
    go_enter Try.func55, Try.ntmps55
    go_wp2_with (first
      | (refine wpList_load_blk rfl 58 (.tmp 2) rfl w.heap.size rfl 58 [.int .i64 fo, .int .i64 fa, .slice A n c] _ HB0.out Try.underlying58 rfl (by kernel_rfl) ?_)
      | (go_at_call 81; (with_reducible refine (HM.out _ (HF.out.through HX0.out)).mono ?_); rintro e wa ⟨rfl, hb⟩; have HXa := Lib.hid (HX0.out.trans (hb.mono HX0.out.size)); have HBa := Lib.hid (HB0.out.through hb); clear hb)
      | (refine wpList_load_blk rfl 58 (.tmp 2) rfl w.heap.size rfl 58 [.int .i64 fo, .int .i64 fa, .slice A n c] _ HBa.out Try.underlying58 rfl (by kernel_rfl) ?_))
    go_ret
    exact ⟨by rw [HV.out]; rfl, HXa.out⟩
  · rw [if_neg (by omega), if_neg (by omega), if_pos h4] at hv
    have HV := Lib.hid hv
    clear hv
    have hm : ∀ W, f.In W (fun _ => True) A n → Calls Try.prog 81 #[.agg #[.int .i64 f.org, .int .i64 f.nd, .slice A n c]] W fun e w' => e = .returned (.bool false) ∧ Below W.heap.size W w' := fun W h => by have := ismany_any f A n c W hz1 h; rw [show decide (32 < f.size) = false by simp; omega] at this; exact this
    have HM := Lib.hid hm
    have hd : ∀ W, f.In W (fun _ => True) A n → Calls Try.prog 82 #[.agg #[.int .i64 f.org, .int .i64 f.nd, .slice A n c]] W fun e w' => e = .returned (.bool true) ∧ Below W.heap.size W w' := fun W h => by have := isdeep_any f A n c W hz2 h; rw [show decide (5 < f.depth) = true by simp; omega] at this; exact this
    have HD := Lib.hid hd
    clear hm hd
    unfold Fm.val
    generalize f.org = fo at *
    generalize f.nd = fa at *
    clear hz1 hz2
    go_enter Try.func55, Try.ntmps55
    go_wp2_with (first
      | (refine wpList_load_blk rfl 58 (.tmp 2) rfl w.heap.size rfl 58 [.int .i64 fo, .int .i64 fa, .slice A n c] _ HB0.out Try.underlying58 rfl (by kernel_rfl) ?_)
      | (go_at_call 81; (with_reducible refine (HM.out _ (HF.out.through HX0.out)).mono ?_); rintro e wa ⟨rfl, hb⟩; have HXa := Lib.hid (HX0.out.trans (hb.mono HX0.out.size)); have HBa := Lib.hid (HB0.out.through hb); clear hb)
      | (refine wpList_load_blk rfl 58 (.tmp 2) rfl w.heap.size rfl 58 [.int .i64 fo, .int .i64 fa, .slice A n c] _ HBa.out Try.underlying58 rfl (by kernel_rfl) ?_)
      | (go_at_call 82; (with_reducible refine (HD.out _ (HF.out.through HXa.out)).mono ?_); rintro e wb ⟨rfl, hb⟩; have HXb := Lib.hid (HXa.out.trans (hb.mono HXa.out.size)); have HBb := Lib.hid (HBa.out.through hb); clear hb)
      | (refine wpList_load_blk rfl 58 (.tmp 2) rfl w.heap.size rfl 58 [.int .i64 fo, .int .i64 fa, .slice A n c] _ HBb.out Try.underlying58 rfl (by kernel_rfl) ?_))
    go_ret
    exact ⟨by rw [HV.out]; rfl, HXb.out⟩
  · rw [if_neg (by omega), if_neg (by omega), if_neg (by omega), if_pos h5] at hv
    have HV := Lib.hid hv
    clear hv
    have hm : ∀ W, f.In W (fun _ => True) A n → Calls Try.prog 81 #[.agg #[.int .i64 f.org, .int .i64 f.nd, .slice A n c]] W fun e w' => e = .returned (.bool false) ∧ Below W.heap.size W w' := fun W h => by have := ismany_any f A n c W hz1 h; rw [show decide (32 < f.size) = false by simp; omega] at this; exact this
    have HM := Lib.hid hm
    have hd : ∀ W, f.In W (fun _ => True) A n → Calls Try.prog 82 #[.agg #[.int .i64 f.org, .int .i64 f.nd, .slice A n c]] W fun e w' => e = .returned (.bool false) ∧ Below W.heap.size W w' := fun W h => by have := isdeep_any f A n c W hz2 h; rw [show decide (5 < f.depth) = false by simp; omega] at this; exact this
    have HD := Lib.hid hd
    have hw : ∀ W, f.In W (fun _ => True) A n → Calls Try.prog 83 #[.agg #[.int .i64 f.org, .int .i64 f.nd, .slice A n c], .int .i64 x] W fun e w' => e = .returned (.bool false) ∧ Below W.heap.size W w' := fun W h => by have := iswithin_any x f A n c W h; rw [h5] at this; exact this
    have HW := Lib.hid hw
    clear hm hd hw
    unfold Fm.val
    generalize f.org = fo at *
    generalize f.nd = fa at *
    clear hz1 hz2
    go_enter Try.func55, Try.ntmps55
    go_wp2_with (first
      | (refine wpList_load_blk rfl 58 (.tmp 2) rfl w.heap.size rfl 58 [.int .i64 fo, .int .i64 fa, .slice A n c] _ HB0.out Try.underlying58 rfl (by kernel_rfl) ?_)
      | (go_at_call 81; (with_reducible refine (HM.out _ (HF.out.through HX0.out)).mono ?_); rintro e wa ⟨rfl, hb⟩; have HXa := Lib.hid (HX0.out.trans (hb.mono HX0.out.size)); have HBa := Lib.hid (HB0.out.through hb); clear hb)
      | (refine wpList_load_blk rfl 58 (.tmp 2) rfl w.heap.size rfl 58 [.int .i64 fo, .int .i64 fa, .slice A n c] _ HBa.out Try.underlying58 rfl (by kernel_rfl) ?_)
      | (go_at_call 82; (with_reducible refine (HD.out _ (HF.out.through HXa.out)).mono ?_); rintro e wb ⟨rfl, hb⟩; have HXb := Lib.hid (HXa.out.trans (hb.mono HXa.out.size)); have HBb := Lib.hid (HBa.out.through hb); clear hb)
      | (refine wpList_load_blk rfl 58 (.tmp 2) rfl w.heap.size rfl 58 [.int .i64 fo, .int .i64 fa, .slice A n c] _ HBb.out Try.underlying58 rfl (by kernel_rfl) ?_)
      | (go_at_call 83; (with_reducible refine (HW.out _ (HF.out.through HXb.out)).mono ?_); rintro e wc ⟨rfl, hb⟩; have HXc := Lib.hid (HXb.out.trans (hb.mono HXb.out.size)); have HBc := Lib.hid (HBb.out.through hb); clear hb)
      | (refine wpList_load_blk rfl 58 (.tmp 2) rfl w.heap.size rfl 58 [.int .i64 fo, .int .i64 fa, .slice A n c] _ HBc.out Try.underlying58 rfl (by kernel_rfl) ?_))
    go_ret
    exact ⟨by rw [HV.out]; rfl, HXc.out⟩
  · rw [if_neg (by omega), if_neg (by omega), if_neg (by omega), if_neg (by rw [h5]; simp)] at hv
    have HV := Lib.hid hv
    clear hv
    have hm : ∀ W, f.In W (fun _ => True) A n → Calls Try.prog 81 #[.agg #[.int .i64 f.org, .int .i64 f.nd, .slice A n c]] W fun e w' => e = .returned (.bool false) ∧ Below W.heap.size W w' := fun W h => by have := ismany_any f A n c W hz1 h; rw [show decide (32 < f.size) = false by simp; omega] at this; exact this
    have HM := Lib.hid hm
    have hd : ∀ W, f.In W (fun _ => True) A n → Calls Try.prog 82 #[.agg #[.int .i64 f.org, .int .i64 f.nd, .slice A n c]] W fun e w' => e = .returned (.bool false) ∧ Below W.heap.size W w' := fun W h => by have := isdeep_any f A n c W hz2 h; rw [show decide (5 < f.depth) = false by simp; omega] at this; exact this
    have HD := Lib.hid hd
    have hw : ∀ W, f.In W (fun _ => True) A n → Calls Try.prog 83 #[.agg #[.int .i64 f.org, .int .i64 f.nd, .slice A n c], .int .i64 x] W fun e w' => e = .returned (.bool true) ∧ Below W.heap.size W w' := fun W h => by have := iswithin_any x f A n c W h; rw [h5] at this; exact this
    have HW := Lib.hid hw
    clear hm hd hw
    unfold Fm.val
    generalize f.org = fo at *
    generalize f.nd = fa at *
    clear hz1 hz2
    go_enter Try.func55, Try.ntmps55
    go_wp2_with (first
      | (refine wpList_load_blk rfl 58 (.tmp 2) rfl w.heap.size rfl 58 [.int .i64 fo, .int .i64 fa, .slice A n c] _ HB0.out Try.underlying58 rfl (by kernel_rfl) ?_)
      | (go_at_call 81; (with_reducible refine (HM.out _ (HF.out.through HX0.out)).mono ?_); rintro e wa ⟨rfl, hb⟩; have HXa := Lib.hid (HX0.out.trans (hb.mono HX0.out.size)); have HBa := Lib.hid (HB0.out.through hb); clear hb)
      | (refine wpList_load_blk rfl 58 (.tmp 2) rfl w.heap.size rfl 58 [.int .i64 fo, .int .i64 fa, .slice A n c] _ HBa.out Try.underlying58 rfl (by kernel_rfl) ?_)
      | (go_at_call 82; (with_reducible refine (HD.out _ (HF.out.through HXa.out)).mono ?_); rintro e wb ⟨rfl, hb⟩; have HXb := Lib.hid (HXa.out.trans (hb.mono HXa.out.size)); have HBb := Lib.hid (HBa.out.through hb); clear hb)
      | (refine wpList_load_blk rfl 58 (.tmp 2) rfl w.heap.size rfl 58 [.int .i64 fo, .int .i64 fa, .slice A n c] _ HBb.out Try.underlying58 rfl (by kernel_rfl) ?_)
      | (go_at_call 83; (with_reducible refine (HW.out _ (HF.out.through HXb.out)).mono ?_); rintro e wc ⟨rfl, hb⟩; have HXc := Lib.hid (HXb.out.trans (hb.mono HXb.out.size)); have HBc := Lib.hid (HBb.out.through hb); clear hb)
      | (refine wpList_load_blk rfl 58 (.tmp 2) rfl w.heap.size rfl 58 [.int .i64 fo, .int .i64 fa, .slice A n c] _ HBc.out Try.underlying58 rfl (by kernel_rfl) ?_))
    go_ret
    exact ⟨by rw [HV.out]; rfl, HXc.out⟩

end

section
open Go.RowKit
/-- it may be, of some n -/
def Fm.mb (f : Fm) : Bool := decide (f.check 7 = 0)
theorem Fm.mb_iff (f : Fm) : f.mb = true ↔ f.size ≤ 32 ∧ f.depth ≤ 5 ∧ f.rng 7 = true := by
  unfold Fm.mb Fm.check
  rw [decide_eq_true_eq]
  cases hr : f.rng 7 <;> simp <;> split <;> try split
  all_goals first | omega | (simp; omega)
theorem Fm.mb_rng {f : Fm} (h : f.mb = true) : f.rng 7 = true := ((Fm.mb_iff f).1 h).2.2

set_option maxHeartbeats 4000000 in
set_option maxRecDepth 100000 in
theorem maybe_any (f : Fm) (A : Option Addr) (n c : Nat) (w : World) (hz : f.few) (h : f.In w (fun _ => True) A n) :
    Calls Try.prog 84 #[f.val A n c] w fun e w' => e = .returned (.bool f.mb) ∧ Below w.heap.size w w' := by
  have hcall : ∀ W, f.In W (fun _ => True) A n → Calls Try.prog 55 #[f.val A n c, .int .i64 7] W fun e w' => e = .returned (.int .i64 (f.check 7)) ∧ Below W.heap.size W w' := fun W h1 => check_any f 7 A n c W hz h1
  have HF := Lib.hid h
  unfold Fm.val at hcall ⊢
  unfold Fm.mb
  generalize f.org = fo at *
  generalize f.nd = fa at *
  have hB0 : Blk (w.alloc (.cells #[.int .i64 fo, .int .i64 fa, .slice A n c] 58)) w.heap.size 58 [.int .i64 fo, .int .i64 fa, .slice A n c] := Blk.fresh rfl rfl
  have HB0 := Lib.hid hB0
  have HX0 : Hid (Below w.heap.size w (w.alloc (.cells #[.int .i64 fo, .int .i64 fa, .slice A n c] 58))) := Lib.hid ((Below.refl _ w).alloc (Nat.le_refl _) _)
  clear hB0
  generalize hk : f.check 7 = k at *
  by_cases h0 : k = 0
  · subst h0
    have HC := Lib.hid hcall
    clear hcall h hk
    go_enter Try.func84, Try.ntmps84
    go_wp2_with (first
      | (refine wpList_load_blk rfl 58 (.tmp 1) rfl w.heap.size rfl 58 [.int .i64 fo, .int .i64 fa, .slice A n c] _ HB0.out Try.underlying58 rfl (by kernel_rfl) ?_)
      | (go_at_call 55; (with_reducible refine (HC.out _ (HF.out.through HX0.out)).mono ?_); rintro e wa ⟨rfl, hb⟩; have HXa := Lib.hid (HX0.out.trans (hb.mono HX0.out.size)); have HBa := Lib.hid (HB0.out.through hb); clear hb))
    go_ret
    exact ⟨rfl, HXa.out⟩
  · have h1 : (k == 0) = false := by simpa using h0
    have hd : decide (k = 0) = false := by simpa using h0
    have HD := Lib.hid hd
    have HC := Lib.hid hcall
    clear hcall h hk hd
    go_enter Try.func84, Try.ntmps84
    go_wp2_with (first
      | (refine wpList_load_blk rfl 58 (.tmp 1) rfl w.heap.size rfl 58 [.int .i64 fo, .int .i64 fa, .slice A n c] _ HB0.out Try.underlying58 rfl (by kernel_rfl) ?_)
      | (go_at_call 55; (with_reducible refine (HC.out _ (HF.out.through HX0.out)).mono ?_); rintro e wa ⟨rfl, hb⟩; have HXa := Lib.hid (HX0.out.trans (hb.mono HX0.out.size)); have HBa := Lib.hid (HB0.out.through hb); clear hb))
    go_ret
    exact ⟨ret_bool (by rw [HD.out]), HXa.out⟩

set_option maxHeartbeats 4000000 in
set_option maxRecDepth 100000 in
theorem Hold_any (s : Nat) (hs : s < 4294967296) (f : Fm) (A : Option Addr) (n c : Nat) (w : World) (hz : f.few) (h : f.In w (fun _ => True) A n) :
    Calls Try.prog 56 #[f.val A n c, .int .u32 (s : Int)] w fun e w' => e = .returned (.bool (f.mb && f.hold s)) ∧ Below w.heap.size w w' := by
  have hmb : ∀ W, f.In W (fun _ => True) A n → Calls Try.prog 84 #[f.val A n c] W fun e w' => e = .returned (.bool f.mb) ∧ Below W.heap.size W w' := fun W h1 => maybe_any f A n c W hz h1
  have HF := Lib.hid h
  cases hm : f.mb
  · rw [hm] at hmb
    unfold Fm.val at hmb
    unfold Fm.val
    generalize f.org = fo at *
    generalize f.nd = fa at *
    have HM := Lib.hid hmb
    clear hmb h hm
    have hB0 : Blk (w.alloc (.cells #[.int .i64 fo, .int .i64 fa, .slice A n c] 58)) w.heap.size 58 [.int .i64 fo, .int .i64 fa, .slice A n c] := Blk.fresh rfl rfl
    have HB0 := Lib.hid hB0
    have HX0 : Hid (Below w.heap.size w (w.alloc (.cells #[.int .i64 fo, .int .i64 fa, .slice A n c] 58))) := Lib.hid ((Below.refl _ w).alloc (Nat.le_refl _) _)
    clear hB0
    go_enter Try.func56, Try.ntmps56
    go_wp2_with (first
      | (refine wpList_load_blk rfl 58 (.tmp 2) rfl w.heap.size rfl 58 [.int .i64 fo, .int .i64 fa, .slice A n c] _ HB0.out Try.underlying58 rfl (by kernel_rfl) ?_)
      | (go_at_call 84; (with_reducible refine (HM.out _ (HF.out.through HX0.out)).mono ?_); rintro e wa ⟨rfl, hb⟩; have HXa := Lib.hid (HX0.out.trans (hb.mono HX0.out.size)); have HBa := Lib.hid (HB0.out.through hb); clear hb))
    go_ret
    exact ⟨rfl, HXa.out⟩
  · rw [hm] at hmb
    have hcall : ∀ W, f.In W (fun _ => True) A n → Calls Try.prog 85 #[f.val A n c, .int .u32 (s : Int)] W fun e w' => e = .returned (.bool (f.hold (s))) ∧ Below W.heap.size W w' := fun W h1 => holds_any (s) hs f A n c W (Fm.mb_rng hm) h1
    generalize f.hold (s) = v at *
    unfold Fm.val at hmb hcall
    unfold Fm.val
    generalize f.org = fo at *
    generalize f.nd = fa at *
    have HM := Lib.hid hmb
    have HC := Lib.hid hcall
    clear hmb h hm hcall
    have hB0 : Blk (w.alloc (.cells #[.int .i64 fo, .int .i64 fa, .slice A n c] 58)) w.heap.size 58 [.int .i64 fo, .int .i64 fa, .slice A n c] := Blk.fresh rfl rfl
    have HB0 := Lib.hid hB0
    have HX0 : Hid (Below w.heap.size w (w.alloc (.cells #[.int .i64 fo, .int .i64 fa, .slice A n c] 58))) := Lib.hid ((Below.refl _ w).alloc (Nat.le_refl _) _)
    clear hB0
    go_enter Try.func56, Try.ntmps56
    go_wp2_with (first
      | (refine wpList_load_blk rfl 58 (.tmp 2) rfl w.heap.size rfl 58 [.int .i64 fo, .int .i64 fa, .slice A n c] _ HB0.out Try.underlying58 rfl (by kernel_rfl) ?_)
      | (go_at_call 84; (with_reducible refine (HM.out _ (HF.out.through HX0.out)).mono ?_); rintro e wa ⟨rfl, hb⟩; have HXa := Lib.hid (HX0.out.trans (hb.mono HX0.out.size)); have HBa := Lib.hid (HB0.out.through hb); clear hb)
      | (refine wpList_load_blk_g 58 (.tmp 2) rfl (by kernel_rfl) w.heap.size rfl 58 [.int .i64 fo, .int .i64 fa, .slice A n c] _ HBa.out Try.underlying58 rfl (by kernel_rfl) ?_)
      | (go_at_call 85; (with_reducible refine (HC.out _ (HF.out.through HXa.out)).mono ?_); rintro e wb ⟨rfl, hb⟩; have HXb := Lib.hid (HXa.out.trans (hb.mono HXa.out.size)); have HBb := Lib.hid (HBa.out.through hb); clear hb))
    go_ret
    exact ⟨ret_bool (by simp), HXb.out⟩
end

end Go.Proofs.Ytgbobemhogeeeaa
