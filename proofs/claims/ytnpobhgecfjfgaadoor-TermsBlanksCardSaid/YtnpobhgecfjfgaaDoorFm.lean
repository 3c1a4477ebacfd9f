/-
  Policies as trees: plain functions; a policy in memory. No walk here.
-/
import Derived.Test.YtnpobhgecfjfgaaDoorFBase
namespace Go.Proofs.YtnpobhgecfjfgaaDoor
open Go.RowKit

/-- A policy: an organization (no kids), or so many of its kids. -/
inductive Fm where
  | mk (org nd : Int) (kids : List Fm)
def Fm.org : Fm → Int | .mk o _ _ => o
def Fm.nd : Fm → Int | .mk _ a _ => a
def Fm.kids : Fm → List Fm | .mk _ _ ks => ks
mutual
theorem Fm.ind {P : Fm → Prop} (h : ∀ o a ks, (∀ k, k ∈ ks → P k) → P (.mk o a ks)) : ∀ f, P f
  | .mk o a ks => h o a ks (Fm.indL h ks)
theorem Fm.indL {P : Fm → Prop} (h : ∀ o a ks, (∀ k, k ∈ ks → P k) → P (.mk o a ks)) : ∀ (ks : List Fm) (k : Fm), k ∈ ks → P k
  | [], _, hk => by cases hk
  | x :: ks, k, hk => (List.mem_cons.1 hk).elim (fun e => e ▸ Fm.ind h x) (fun hk => Fm.indL h ks k hk)
end

mutual
/-- how many nodes -/
def Fm.size : Fm → Nat | .mk _ _ ks => 1 + Fm.sizes ks
def Fm.sizes : List Fm → Nat | [] => 0 | k :: ks => Fm.size k + Fm.sizes ks
end
mutual
/-- how deep -/
def Fm.depth : Fm → Nat | .mk _ _ ks => Fm.depths ks + 1
def Fm.depths : List Fm → Nat | [] => 0 | k :: ks => max (Fm.depth k) (Fm.depths ks)
end
mutual
/-- numbers in their ranges -/
def Fm.rng (n : Int) : Fm → Bool
  | .mk o a [] => decide (0 ≤ o) && decide (o < n) && decide (a = 0)
  | .mk o a (k :: ks) => Fm.rngs n (k :: ks) && (decide (1 ≤ a) && decide (a ≤ ((ks.length + 1 : Nat) : Int)) && decide (o = 0))
def Fm.rngs (n : Int) : List Fm → Bool | [] => true | k :: ks => Fm.rng n k && Fm.rngs n ks
end
mutual
/-- whether it holds for a set -/
def Fm.hold (s : Nat) : Fm → Bool
  | .mk o _ [] => s.testBit o.toNat
  | .mk _ a (k :: ks) => decide (a ≤ (Fm.holds s (k :: ks) : Int))
def Fm.holds (s : Nat) : List Fm → Nat | [] => 0 | k :: ks => (if Fm.hold s k then 1 else 0) + Fm.holds s ks
end
mutual
/-- all organizations in it -/
def Fm.names : Fm → Nat
  | .mk o _ [] => 2 ^ o.toNat
  | .mk _ _ (k :: ks) => Fm.namess (k :: ks)
def Fm.namess : List Fm → Nat | [] => 0 | k :: ks => Fm.names k ||| Fm.namess ks
end
mutual
/-- whether an organization stands in it -/
def Fm.stands (x : Int) : Fm → Bool
  | .mk o _ [] => o == x
  | .mk _ _ (k :: ks) => Fm.standss x (k :: ks)
def Fm.standss (x : Int) : List Fm → Bool | [] => false | k :: ks => Fm.stands x k || Fm.standss x ks
end
mutual
/-- whether they are the same -/
def Fm.same : Fm → Fm → Bool
  | .mk o a ks, .mk o' a' ks' => decide (o = o') && decide (a = a') && Fm.sames ks ks'
def Fm.sames : List Fm → List Fm → Bool | [], [] => true | k :: ks, l :: ls => Fm.same k l && Fm.sames ks ls | _, _ => false
end
/-- a few nodes, not deep -/
def Fm.few (f : Fm) : Prop := f.size ≤ 200 ∧ f.depth ≤ 50
/-- what it may be, of n organizations -/
def Fm.check (f : Fm) (n : Int) : Int := if n < 1 ∨ 7 < n then 1 else if 32 < f.size then 4 else if 5 < f.depth then 3 else if f.rng n = false then 5 else 0

theorem Fm.rng_leaf (n o a : Int) : Fm.rng n (.mk o a []) = (decide (0 ≤ o) && decide (o < n) && decide (a = 0)) := rfl
theorem Fm.size_pos (f : Fm) : 1 ≤ f.size := by cases f; simp [Fm.size]
theorem Fm.sizes_mem {k : Fm} : ∀ {ks : List Fm}, k ∈ ks → k.size ≤ Fm.sizes ks
  | [], h => by cases h
  | x :: ks, h => by
    rcases List.mem_cons.1 h with rfl | h
    · simp only [Fm.sizes]; omega
    · have := Fm.sizes_mem h; simp only [Fm.sizes]; omega
theorem Fm.depths_mem {k : Fm} : ∀ {ks : List Fm}, k ∈ ks → k.depth ≤ Fm.depths ks
  | [], h => by cases h
  | x :: ks, h => by
    rcases List.mem_cons.1 h with rfl | h
    · simp only [Fm.depths]; omega
    · have := Fm.depths_mem h; simp only [Fm.depths]; omega
theorem Fm.length_sizes : ∀ (ks : List Fm), ks.length ≤ Fm.sizes ks
  | [] => Nat.le_refl _
  | k :: ks => by have := Fm.length_sizes ks; have := k.size_pos; simp only [Fm.sizes, List.length_cons]; omega
theorem Fm.rngs_mem {n : Int} {k : Fm} : ∀ {ks : List Fm}, Fm.rngs n ks = true → k ∈ ks → k.rng n = true
  | [], _, h => by cases h
  | x :: ks, hr, h => by
    simp only [Fm.rngs, Bool.and_eq_true] at hr
    rcases List.mem_cons.1 h with rfl | h
    · exact hr.1
    · exact Fm.rngs_mem hr.2 h

/-- A policy's value: its two numbers, and the slice of its kids. -/
def Fm.val (f : Fm) (A : Option Addr) (n c : Nat) : Value := .agg #[.int .i64 f.org, .int .i64 f.nd, .slice A n c]
mutual
/-- The slice '.slice A n _' reads, in w, as the policy's kids, in memory of which Q is said. -/
def Fm.In (w : World) (Q : Nat → Prop) : Fm → Option Addr → Nat → Prop
  | .mk _ _ ks, A, n => ks.length = n ∧ n ≤ maxLen ∧ (0 < n → ∃ g o, A = some ⟨g, o, none⟩ ∧ Q g ∧ Fm.InRow w Q g o ks)
def Fm.InRow (w : World) (Q : Nat → Prop) (g : Nat) : Nat → List Fm → Prop
  | _, [] => True
  | o, k :: ks => (∃ A n c, w.rangeAt g o [.int .i64 k.org, .int .i64 k.nd, .slice A n c] ∧ Fm.In w Q k A n) ∧ Fm.InRow w Q g (o + 3) ks
end
theorem range_keep {w w' : World} {g o : Nat} {cs : List Value} (h : w.rangeAt g o cs) (e : w'.heap[g]? = w.heap[g]?) : w'.rangeAt g o cs :=
  fun j v hv => (World.cell?_of_block (a := ⟨g, o + j, none⟩) e).trans (h j v hv)
mutual
theorem Fm.In.keep {w w' : World} {Q : Nat → Prop} (hk : ∀ g, Q g → w'.heap[g]? = w.heap[g]?) : ∀ (f : Fm) (A : Option Addr) (n : Nat), Fm.In w Q f A n → Fm.In w' Q f A n
  | .mk _ _ ks, A, n, h => ⟨h.1, h.2.1, fun hn => by
    obtain ⟨g, o, e, hq, hr⟩ := h.2.2 hn
    exact ⟨g, o, e, hq, Fm.InRow.keep hk g (hk g hq) o ks hr⟩⟩
theorem Fm.InRow.keep {w w' : World} {Q : Nat → Prop} (hk : ∀ g, Q g → w'.heap[g]? = w.heap[g]?) (g : Nat) (hg : w'.heap[g]? = w.heap[g]?) : ∀ (o : Nat) (ks : List Fm), Fm.InRow w Q g o ks → Fm.InRow w' Q g o ks
  | _, [], _ => trivial
  | o, k :: ks, h => by
    obtain ⟨⟨A, n, c, h1, h2⟩, h3⟩ := h
    exact ⟨⟨A, n, c, range_keep h1 hg, Fm.In.keep hk k A n h2⟩, Fm.InRow.keep hk g hg (o + 3) ks h3⟩
end
mutual
theorem Fm.In.weak {w : World} {Q Q' : Nat → Prop} (hk : ∀ g, Q g → g < w.heap.size → Q' g) : ∀ (f : Fm) (A : Option Addr) (n : Nat), Fm.In w Q f A n → Fm.In w Q' f A n
  | .mk _ _ [], A, n, h => ⟨h.1, h.2.1, fun hn => by have := h.1; simp at this; omega⟩
  | .mk _ _ (k :: ks), A, n, h => ⟨h.1, h.2.1, fun hn => by
    obtain ⟨g, o, e, hq, hr⟩ := h.2.2 hn
    refine ⟨g, o, e, hk g hq ?_, Fm.InRow.weak hk g o (k :: ks) hr⟩
    obtain ⟨⟨A', n', c', h1, _⟩, _⟩ := hr
    exact World.block_lt_of_cell? w ⟨g, o + 0, none⟩ (h1 0 _ rfl)⟩
theorem Fm.InRow.weak {w : World} {Q Q' : Nat → Prop} (hk : ∀ g, Q g → g < w.heap.size → Q' g) (g : Nat) : ∀ (o : Nat) (ks : List Fm), Fm.InRow w Q g o ks → Fm.InRow w Q' g o ks
  | _, [], _ => trivial
  | o, k :: ks, h => by
    obtain ⟨⟨A, n, c, h1, h2⟩, h3⟩ := h
    exact ⟨⟨A, n, c, h1, Fm.In.weak hk k A n h2⟩, Fm.InRow.weak hk g (o + 3) ks h3⟩
end
section
variable {w w' : World} {Q : Nat → Prop} {f : Fm} {A : Option Addr} {n : Nat}
theorem Fm.In.lt (h : f.In w Q A n) : f.In w (fun g => Q g ∧ g < w.heap.size) A n := Fm.In.weak (fun _ h1 h2 => ⟨h1, h2⟩) f A n h
theorem Fm.In.through (h : f.In w Q A n) (hb : Below w.heap.size w w') : f.In w' Q A n :=
  Fm.In.weak (fun _ hg _ => hg.1) f A n (Fm.In.keep (fun g hg => hb.block g hg.2) f A n h.lt)
theorem Fm.In.alloc (h : f.In w Q A n) (o : Obj) : f.In (w.alloc o) Q A n := h.through ((Below.refl _ w).alloc (Nat.le_refl _) o)
theorem Fm.In.drew (h : f.In w Q A n) : f.In w.drew Q A n := h.through (Below.refl _ w).drew
/-- Block g alone is turned. -/
theorem Fm.In.only {g : Nat} (h : f.In w (· ≠ g) A n) (hb : w.grownBy w' (some g)) : f.In w' (· ≠ g) A n :=
  Fm.In.weak (fun _ hg _ => hg.1) f A n (Fm.In.keep (fun k hk => hb.block k hk.2 (fun e => hk.1 (Option.some.inj e))) f A n h.lt)
theorem Fm.In.apart {g : Nat} (h : f.In w Q A n) (hg : w.heap.size ≤ g) : f.In w (· ≠ g) A n := Fm.In.weak (fun _ _ hl => by omega) f A n h
theorem Fm.In.any (h : f.In w Q A n) : f.In w (fun _ => True) A n := Fm.In.weak (fun _ _ _ => trivial) f A n h
theorem Fm.In.len {o a : Int} {ks : List Fm} (h : (Fm.mk o a ks).In w Q A n) : ks.length = n := h.1
end
theorem Fm.InRow.get {w : World} {Q : Nat → Prop} {g : Nat} : ∀ {ks : List Fm} {o i : Nat} {k : Fm}, Fm.InRow w Q g o ks → ks[i]? = some k → ∃ A n c, w.rangeAt g (o + i * 3) [.int .i64 k.org, .int .i64 k.nd, .slice A n c] ∧ k.In w Q A n
  | [], _, _, _, _, h => by simp at h
  | x :: ks, o, 0, k, h, hk => by
    simp at hk
    subst hk
    obtain ⟨⟨A, n, c, h1, h2⟩, _⟩ := h
    exact ⟨A, n, c, by simpa using h1, h2⟩
  | x :: ks, o, i + 1, k, h, hk => by
    obtain ⟨A, n, c, h1, h2⟩ := Fm.InRow.get h.2 (by simpa using hk)
    exact ⟨A, n, c, by rw [show o + (i + 1) * 3 = o + 3 + i * 3 by omega]; exact h1, h2⟩
/-- The kid at place i. -/
theorem Fm.In.kid {w : World} {Q : Nat → Prop} {o a : Int} {ks : List Fm} {A : Option Addr} {n i : Nat} (h : (Fm.mk o a ks).In w Q A n) (hi : i < n) :
    ∃ k g b A' n' c', ks[i]? = some k ∧ k ∈ ks ∧ ks.drop i = k :: ks.drop (i + 1) ∧ A = some ⟨g, b, none⟩ ∧ Q g ∧ w.rangeAt g (b + i * 3) [.int .i64 k.org, .int .i64 k.nd, .slice A' n' c'] ∧ k.In w Q A' n' := by
  obtain ⟨hl, _, h2⟩ := h
  obtain ⟨g, b, rfl, hq, hr⟩ := h2 (by omega)
  have hx : i < ks.length := by omega
  obtain ⟨A', n', c', h3, h4⟩ := hr.get (List.getElem?_eq_getElem hx)
  exact ⟨ks[i], g, b, A', n', c', List.getElem?_eq_getElem hx, List.getElem_mem _, List.drop_eq_getElem_cons hx, rfl, hq, h3, h4⟩

theorem Tryd.info_fm : (Tryd.prog.info? 25).map (·.size) = some 3 := by kernel_rfl

end Go.Proofs.YtnpobhgecfjfgaaDoor
