/-
  ChW NvR
-/
import Derived.Test.YtheecifgbkdecaaSN21
import Derived.Deep.CutBlock
import Derived.Test.YtheecifgbkdecaaSN26
namespace Go.Proofs.Ytheecifgbkdecaa
open Go.RowKit
section
variable {w w' : World} {B B' : Nat}
theorem ChOwn.off {P Q R : Pl} {C : Ch} {g : Nat} (h : ChOwn w B P Q R C) (hg : w.grownBy w' (some g)) (hl : g < B) : ChOwn w' B P Q R C := ⟨h.1.off hg hl, h.2.1.off hg hl, h.2.2.off hg hl⟩
theorem ChOwn.through {P Q R : Pl} {C : Ch} (h : ChOwn w B P Q R C) (hb : Below w.heap.size w w') : ChOwn w' B P Q R C := ⟨h.1.through hb, h.2.1.through hb, h.2.2.through hb⟩
theorem ChOwn.weak {P Q R : Pl} {C : Ch} (h : ChOwn w B P Q R C) (hB : B' ≤ B) : ChOwn w B' P Q R C := ⟨h.1.weak hB, h.2.1.weak hB, h.2.2.weak hB⟩
end

end Go.Proofs.Ytheecifgbkdecaa

namespace Go.Proofs.Ytheecifgbkdecaa
open Go.RowKit

theorem Try.build_sg (fr : Int) (C : Ch) (P Q R : Pl) (w : World) : (Instr.build 106 #[(0, .int .i64 fr), (1, .agg (Ch.cells C P Q R).toArray)]).run Try.prog w = .ok (.agg (sgC ⟨fr, C⟩ (P, Q, R)).toArray) w := by kernel_rfl
theorem sgC_one (s : Sg) (t : Pl × Pl × Pl) : ∀ u ∈ sgC s t, u.oneCell' = true := fun u hu => by
 simp [sgC, Ch.cells] at hu
 rcases hu with rfl | rfl | rfl | rfl | rfl | rfl <;> rfl
section
variable {w w' : World} {B B' k k' : Nat} {v vv : Value} {rows xs : List (List Value)} {e e' : TypeId}
theorem Os.own_ (h : Os w B e k v xs) (ho : Os w B' e' k' vv rows) (hg : w.grownBy w' vv.ownBlock) (hne : e' ≠ e) : Os w' B e k v xs := by
 rcases ho.1.2 with ⟨hv, _⟩ | ⟨g, cap, cur, hv, hb, hq, _⟩
 ·rw [hv] at hg
  exact h.through ((Below.refl _ w).grown hg (Nat.le_refl _) (fun k hk => by simp [Value.ownBlock] at hk))
 ·rw [hv] at hg
  exact h.only hg hq hne
theorem AllB.own_ {ps : List Pf} {ss : List Pl} (h : AllB w B ps ss) (ho : Os w B' 106 k' vv rows) (hg : w.grownBy w' vv.ownBlock) : AllB w' B ps ss := h.mono fun _ _ h => ⟨Os.own_ h.1 ho hg (by decide), h.2⟩
theorem ChOwn.own {P Q R : Pl} {C : Ch} (h : ChOwn w B P Q R C) (ho : Os w B' 106 k' vv rows) (hg : w.grownBy w' vv.ownBlock) : ChOwn w' B P Q R C := by
 obtain ⟨h1, ⟨ss, h2, h3⟩, ts, h4, h5⟩ := h
 exact ⟨⟨Os.own_ h1.1 ho hg (by decide), h1.2⟩, ⟨ss, Os.own_ h2 ho hg (by decide), h3.own_ ho hg⟩, ts, Os.own_ h4 ho hg (by decide), h5.own_ ho hg⟩
def AllO (w : World) (B : Nat) : List Sg → List (Pl × Pl × Pl) → Prop
 | [], [] => True
 | s :: l, t :: ts => ChOwn w B t.1 t.2.1 t.2.2 s.ch ∧ AllO w B l ts
 | [], _ :: _ => False
 | _ :: _, [] => False
theorem AllO.all : ∀ {l : List Sg} {ts : List (Pl × Pl × Pl)}, AllO w B l ts → AllS w l ts
 | [], [], _ => trivial
 | _ :: _, _ :: _, h => ⟨chin_of h.1.1 h.1.2.1 h.1.2.2, AllO.all h.2⟩
 | [], _ :: _, h => h.elim
 | _ :: _, [], h => h.elim
theorem AllO.mono : ∀ {l : List Sg} {ts : List (Pl × Pl × Pl)}, AllO w B l ts → (∀ P Q R C, ChOwn w B P Q R C → ChOwn w' B P Q R C) → AllO w' B l ts
 | [], [], _, _ => trivial
 | _ :: _, _ :: _, h, hm => ⟨hm _ _ _ _ h.1, AllO.mono h.2 hm⟩
 | [], _ :: _, h, _ => h.elim
 | _ :: _, [], h, _ => h.elim
theorem AllO.len {l : List Sg} {ts : List (Pl × Pl × Pl)} (h : AllO w B l ts) : l.length = ts.length := h.all.len
theorem AllO.through {l : List Sg} {ts : List (Pl × Pl × Pl)} (h : AllO w B l ts) (hb : Below w.heap.size w w') : AllO w' B l ts := h.mono fun _ _ _ _ h => h.through hb
theorem AllO.own {l : List Sg} {ts : List (Pl × Pl × Pl)} (h : AllO w B l ts) (ho : Os w B' 106 k' vv rows) (hg : w.grownBy w' vv.ownBlock) : AllO w' B l ts := h.mono fun _ _ _ _ h => h.own ho hg
theorem AllO.snoc : ∀ {l : List Sg} {ts : List (Pl × Pl × Pl)} {s : Sg} {t : Pl × Pl × Pl}, AllO w B l ts → ChOwn w B t.1 t.2.1 t.2.2 s.ch → AllO w B (l ++ [s]) (ts ++ [t])
 | [], [], _, _, _, h => ⟨h, trivial⟩
 | _ :: _, _ :: _, _, _, h, h' => ⟨h.1, AllO.snoc h.2 h'⟩
 | [], _ :: _, _, _, h, _ => h.elim
 | _ :: _, [], _, _, h, _ => h.elim
/-- a call's own row of signed changes -/
def OSg (w : World) (B : Nat) (v : Value) (l : List Sg) : Prop := ∃ ts, Os w B 106 6 v (sgR l ts) ∧ AllO w B l ts
theorem OSg.off {l : List Sg} {g : Nat} (h : OSg w B v l) (hg : w.grownBy w' (some g)) (hl : g < B) : OSg w' B v l := by
 obtain ⟨ts, h1, h2⟩ := h
 exact ⟨ts, h1.far hg hl, h2.mono fun _ _ _ _ h => h.off hg hl⟩
theorem OSg.nil (w : World) (B : Nat) : OSg w B (.slice none 0 0) [] := ⟨[], Os.nil _ _ _ _, trivial⟩
theorem OSg.out {l : List Sg} (h : OSg w B v l) : ∃ A c, v = .slice A l.length c ∧ l.length ≤ c ∧ c ≤ maxLen ∧ SgsIn w A l.length l := by
 obtain ⟨ts, h1, h2⟩ := h
 obtain ⟨A, c, e, hn, hm, hs⟩ := h1.out
 rw [sgR_len h2.len] at e hn hs
 exact ⟨A, c, e, hn, hm, ts, hs, h2.all⟩
end
theorem parseCh_lt {row : List UInt8} {n : Int} {L : Nat} (h : row.length ≤ L) : (∀ p ∈ (parseCh row n).1.pp, ∀ y ∈ p.es, y.co.lt.length ≤ L) ∧ ∀ p ∈ (parseCh row n).1.pd, ∀ y ∈ p.es, y.co.lt.length ≤ L := by
 unfold parseCh finCh
 have hs : stL (some row) ≤ L := by simp only [stL]; exact h
 have h2 : stL (nnext 8 (nnext 8 (some row))) ≤ L := Nat.le_trans (nnext_stL _ _) (Nat.le_trans (nnext_stL _ _) hs)
 have h3 : stL (rdPos (nnext 8 (nnext 8 (some row)))).2 ≤ L := Nat.le_trans (rdMany_stL rdPo_stL _ _) (Nat.le_trans (cnext_stL _ _) h2)
 have h4 : stL (rdPfs 8 (rdPos (nnext 8 (nnext 8 (some row)))).2).2 ≤ L := Nat.le_trans (rdMany_stL rdPf_stL _ _) (Nat.le_trans (cnext_stL _ _) h3)
 split
 ·exact ⟨fun p hp => by simp [Ch.no] at hp, fun p hp => by simp [Ch.no] at hp⟩
 ·split
  ·exact ⟨rdPfs_lt h3, rdPfs_lt h4⟩
  ·exact ⟨fun p hp => by simp [Ch.no] at hp, fun p hp => by simp [Ch.no] at hp⟩
/-- a call that answers a view, a proof of it, and an error -/
def NvOut (w : World) (p : Int × List Sg) (er : Int) (e : Ending) (w' : World) : Prop := ∃ (A : Option Addr) (n c : Nat), e = .returned (.tuple #[.int .i64 p.1, .slice A n c, .int .i64 er]) ∧ SgsIn w' A n p.2 ∧ n ≤ c ∧ c ≤ maxLen ∧ Below w.heap.size w w'

end Go.Proofs.Ytheecifgbkdecaa
