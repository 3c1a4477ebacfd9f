/-
  Joined: WnF.
-/
import Derived.Test.YtponmfkddglopaaWV13
namespace Go.Proofs.Ytponmfkddglopaa
open Go.RowKit

/-- what is asked of an object that has blocks of its own -/
structure Kv (T : World → Value → (Nat → Prop) → Slt → Prop) : Prop where
 lt : ∀ {w : World} {v : Value} {D : Nat → Prop} {s : Slt}, T w v D s → ∀ q, D q → q < w.heap.size
 keep : ∀ {w w' : World} {v : Value} {D : Nat → Prop} {s : Slt}, T w v D s → w.heap.size ≤ w'.heap.size → (∀ q, D q → w'.heap[q]? = w.heap[q]?) → T w' v D s
/-- an object of the row: its number, where it lies, what it holds -/
structure Fr where
 q : Int
 v : Value
 D : Nat → Prop
 s : Slt
def FD (l : List Fr) : Nat → Prop := fun q => ∃ x ∈ l, x.D q
structure Fam (T : World → Value → (Nat → Prop) → Slt → Prop) (W : World) (l : List Fr) : Prop where
 has : ∀ x ∈ l, T W x.v x.D x.s
 apart : l.Pairwise (fun a b => ∀ q, a.D q → ¬ b.D q)
section
variable {T : World → Value → (Nat → Prop) → Slt → Prop} {W W' : World} {l l' a b : List Fr} {x : Fr}
theorem FD.nil (q : Nat) : ¬ FD [] q := fun ⟨_, h, _⟩ => nomatch h
theorem FD.sub (h : l'.Sublist l) {q : Nat} (hq : FD l' q) : FD l q := by obtain ⟨x, hx, hd⟩ := hq; exact ⟨x, h.subset hx, hd⟩
theorem FD.mid {q : Nat} : FD (a ++ x :: b) q ↔ x.D q ∨ FD (a ++ b) q := by
 unfold FD
 constructor
 ·rintro ⟨y, hy, hd⟩
  rcases List.mem_append.1 hy with hy | hy
  ·exact .inr ⟨y, List.mem_append_left _ hy, hd⟩
  ·rcases List.mem_cons.1 hy with rfl | hy
   ·exact .inl hd
   ·exact .inr ⟨y, List.mem_append_right _ hy, hd⟩
 ·rintro (hd | ⟨y, hy, hd⟩)
  ·exact ⟨x, List.mem_append_right _ (List.mem_cons_self ..), hd⟩
  ·rcases List.mem_append.1 hy with hy | hy
   ·exact ⟨y, List.mem_append_left _ hy, hd⟩
   ·exact ⟨y, List.mem_append_right _ (List.mem_cons_of_mem _ hy), hd⟩
theorem Fam.nil : Fam T W [] := ⟨(fun _ h => nomatch h), List.Pairwise.nil⟩
theorem Fam.lt (K : Kv T) (h : Fam T W l) : ∀ q, FD l q → q < W.heap.size := by
 rintro q ⟨x, hx, hd⟩
 exact K.lt (h.has x hx) q hd
theorem Fam.ft (K : Kv T) {E : Nat → Prop} (h : Fam T W l) (hf : Ft E W W') (ha : ∀ q, FD l q → ¬ E q) : Fam T W' l :=
 ⟨fun x hx => K.keep (h.has x hx) hf.size (fun q hq => hf.block q (K.lt (h.has x hx) q hq) (ha q ⟨x, hx, hq⟩)), h.apart⟩
theorem Fam.through (K : Kv T) (h : Fam T W l) (hb : Below W.heap.size W W') : Fam T W' l :=
 ⟨fun x hx => K.keep (h.has x hx) hb.size (fun q hq => hb.block q (K.lt (h.has x hx) q hq)), h.apart⟩
theorem Fam.sub (h : Fam T W l) (hs : l'.Sublist l) : Fam T W l' := ⟨fun x hx => h.has x (hs.subset hx), h.apart.sublist hs⟩
theorem Fam.off (h : Fam T W (a ++ x :: b)) : Fam T W (a ++ b) := h.sub (List.Sublist.append (List.Sublist.refl a) (List.sublist_cons_self x b))
theorem Fam.mid (h : Fam T W (a ++ x :: b)) : ∀ y ∈ a ++ b, ∀ q, x.D q → ¬ y.D q := by
 obtain ⟨_, h2, h3⟩ := List.pairwise_append.1 h.apart
 intro y hy q hq h9
 rcases List.mem_append.1 hy with hy | hy
 ·exact h3 y hy x (List.mem_cons_self ..) q h9 hq
 ·exact (List.pairwise_cons.1 h2).1 y hy q hq h9
theorem Fam.join (h : Fam T W (a ++ b)) (h1 : T W x.v x.D x.s) (h2 : ∀ y ∈ a ++ b, ∀ q, x.D q → ¬ y.D q) : Fam T W (a ++ x :: b) := by
 obtain ⟨p1, p2, p3⟩ := List.pairwise_append.1 h.apart
 refine ⟨fun y hy => ?_, List.pairwise_append.2 ⟨p1, List.pairwise_cons.2 ⟨fun y hy q hq => h2 y (List.mem_append_right _ hy) q hq, p2⟩, fun y hy z hz q hq h9 => ?_⟩⟩
 ·rcases List.mem_append.1 hy with hy | hy
  ·exact h.has y (List.mem_append_left _ hy)
  ·rcases List.mem_cons.1 hy with rfl | hy
   ·exact h1
   ·exact h.has y (List.mem_append_right _ hy)
 ·rcases List.mem_cons.1 hz with rfl | hz
  ·exact h2 y (List.mem_append_left _ hy) q h9 hq
  ·exact p3 y hy z hz q hq h9
/-- one of them is turned -/
theorem Fam.put (K : Kv T) (h : Fam T W (a ++ x :: b)) {D' : Nat → Prop} {s' : Slt} (h1 : T W' x.v D' s') (h2 : Ft x.D W W') (h3 : ∀ q, D' q → x.D q ∨ W.heap.size ≤ q) : Fam T W' (a ++ ⟨x.q, x.v, D', s'⟩ :: b) := by
 refine Fam.join (h.off.ft K h2 (fun q ⟨y, hy, hd⟩ h9 => h.mid y hy q h9 hd)) h1 (fun y hy q hq h9 => ?_)
 rcases h3 q hq with h8 | h8
 ·exact h.mid y hy q h8 h9
 ·have := h.off.lt K q ⟨y, hy, h9⟩
  omega
/-- a new one -/
theorem Fam.ins (K : Kv T) (h : Fam T W (a ++ b)) (hb : Below W.heap.size W W') (h1 : T W' x.v x.D x.s) (h2 : ∀ q, x.D q → W.heap.size ≤ q) : Fam T W' (a ++ x :: b) :=
 Fam.join (h.through K hb) h1 (fun y hy q hq h9 => by have := h.lt K q ⟨y, hy, h9⟩; have := h2 q hq; omega)
theorem FD.put {D' : Nat → Prop} {s' : Slt} (h3 : ∀ q, D' q → x.D q ∨ W.heap.size ≤ q) {q : Nat} (hq : FD (a ++ ⟨x.q, x.v, D', s'⟩ :: b) q) : FD (a ++ x :: b) q ∨ W.heap.size ≤ q := by
 rcases FD.mid.1 hq with h9 | h9
 ·rcases h3 q h9 with h8 | h8
  ·exact .inl (FD.mid.2 (.inl h8))
  ·exact .inr h8
 ·exact .inl (FD.mid.2 (.inr h9))
theorem FD.ins (h2 : ∀ q, x.D q → W.heap.size ≤ q) {q : Nat} (hq : FD (a ++ x :: b) q) : FD (a ++ b) q ∨ W.heap.size ≤ q := by
 rcases FD.mid.1 hq with h9 | h9
 ·exact .inr (h2 q h9)
 ·exact .inl h9
end

end Go.Proofs.Ytponmfkddglopaa
