/-
  Joined: WnM.
-/
import Derived.Test.YtponmfkddglopaaWV32
import Derived.Test.YtponmfkddglopaaWV16
namespace Go.Proofs.Ytponmfkddglopaa
open Go.RowKit

def qC (i : Int) : List Value := [.int .i64 i]
def vC (v : Value) : List Value := [v]
def lgC (n low : Int) (sv tv : Value) : List Value := [.int .i64 n, .int .i64 low, sv, tv]
theorem Try.el_qs : El Try.prog 33 2 1 8 (.int .i64 0) := ⟨Try.underlying33, by kernel_rfl, rfl, by omega, by omega, by omega⟩
theorem Try.el_ps : El Try.prog 36 43 1 8 (.pointer none) := ⟨Try.underlying36, by kernel_rfl, rfl, by omega, by omega, by omega⟩
theorem Try.ix_qs (W : World) (g o n c j : Nat) (hj : j < n) : (Instr.indexAt 33 (.slice (some ⟨g, o, none⟩) n c) (.int .i64 (j : Int))).run Try.prog W = .ok (.pointer (some ⟨g, o + j, none⟩)) W := by
 have := Try.el_qs.index (by kernel_rfl) W g o n c j hj
 rwa [Nat.mul_one] at this
theorem Try.ix_ps (W : World) (g o n c j : Nat) (hj : j < n) : (Instr.indexAt 36 (.slice (some ⟨g, o, none⟩) n c) (.int .i64 (j : Int))).run Try.prog W = .ok (.pointer (some ⟨g, o + j, none⟩)) W := by
 have := Try.el_ps.index (by kernel_rfl) W g o n c j hj
 rwa [Nat.mul_one] at this
theorem Try.agg_qs (w : World) : (isAgg 33).run Try.prog w = .ok false w := by kernel_rfl
theorem Try.agg_ps (w : World) : (isAgg 36).run Try.prog w = .ok false w := by kernel_rfl
theorem Try.sz_i64 (w : World) : (sizeOf 2).run Try.prog w = .ok 1 w := by kernel_rfl
theorem Try.sz_qs (w : World) : (sizeOf 33).run Try.prog w = .ok 1 w := by kernel_rfl
theorem Try.sz_ps (w : World) : (sizeOf 36).run Try.prog w = .ok 1 w := by kernel_rfl
/-- numbers -/
def QIn (w : World) (A : Option Addr) (k : Nat) (l : List Int) : Prop := Sl w 1 A k (l.map qC)
/-- values -/
def VIn (w : World) (A : Option Addr) (k : Nat) (l : List Value) : Prop := Sl w 1 A k (l.map vC)
section
variable {w w' : World} {A : Option Addr} {k : Nat}
theorem QIn.through {l : List Int} (h : QIn w A k l) (hb : Below w.heap.size w w') : QIn w' A k l := Sl.through h hb
theorem QIn.len {l : List Int} (h : QIn w A k l) : l.length = k := by simpa using Sl.len h
theorem QIn.at {l : List Int} (h : QIn w A k l) {i : Nat} (hi : i < k) : ∃ g o x, A = some ⟨g, o, none⟩ ∧ l[i]? = some x ∧ l.drop i = x :: l.drop (i + 1) ∧ w.cell? ⟨g, o + i, none⟩ = some (.int .i64 x) := by
 obtain ⟨g, o, cs, e, h1, h2, _, h4⟩ := Sl.at h hi
 have hl : i < l.length := by rw [h.len]; exact hi
 rw [List.getElem?_map, List.getElem?_eq_getElem hl] at h1
 simp only [Option.map_some, Option.some.injEq] at h1
 subst h1
 refine ⟨g, o, l[i], e, List.getElem?_eq_getElem hl, List.drop_eq_getElem_cons hl, ?_⟩
 have := h4 0 _ rfl
 simpa using this
theorem VIn.through {l : List Value} (h : VIn w A k l) (hb : Below w.heap.size w w') : VIn w' A k l := Sl.through h hb
theorem VIn.len {l : List Value} (h : VIn w A k l) : l.length = k := by simpa using Sl.len h
theorem VIn.at {l : List Value} (h : VIn w A k l) {i : Nat} (hi : i < k) : ∃ g o x, A = some ⟨g, o, none⟩ ∧ l[i]? = some x ∧ w.cell? ⟨g, o + i, none⟩ = some x := by
 obtain ⟨g, o, cs, e, h1, h2, _, h4⟩ := Sl.at h hi
 have hl : i < l.length := by rw [h.len]; exact hi
 rw [List.getElem?_map, List.getElem?_eq_getElem hl] at h1
 simp only [Option.map_some, Option.some.injEq] at h1
 subst h1
 refine ⟨g, o, l[i], e, List.getElem?_eq_getElem hl, ?_⟩
 have := h4 0 _ rfl
 simpa using this
end
/-- the document's slot, in which nobody has proposed or committed anything -/
def TD (W : World) (v : Value) (D : Nat → Prop) (s : Slt) : Prop := ∃ R pv, v = .pointer (some ⟨R, 0, none⟩) ∧ (∀ q, D q ↔ q = R ∨ pv.ownBlock = some q) ∧ Blk W R 57 (slC s (.slice none 0 0) pv (.slice none 0 0)) ∧ OWd W 0 pv s.pr ∧ pv.ownBlock ≠ some R ∧ s.dg.length = 32
theorem td_kv : Kv TD where
 lt := by
  rintro w v D s ⟨R, pv, rfl, hd, hb, ho, _, _⟩ q hq
  rcases (hd q).1 hq with rfl | hq
  ·exact hb.lt
  ·exact (ho.1.lt q hq).2
 keep := by
  rintro w w' v D s ⟨R, pv, rfl, hd, hb, ho, hn, h32⟩ hsz hk
  exact ⟨R, pv, rfl, hd, (hk R ((hd R).2 (.inl rfl))).trans hb, ⟨ho.1.keep (fun b _ _ hq => hk b ((hd b).2 (.inr hq))), ho.2⟩, hn, h32⟩
theorem td_new {W : World} {R : Nat} (n : Int) (h : Blk W R 57 (slC (Slt.no n) (.slice none 0 0) (.slice none 0 0) (.slice none 0 0))) : TD W (.pointer (some ⟨R, 0, none⟩)) (fun q => q = R) (Slt.no n) :=
 ⟨R, .slice none 0 0, rfl, fun q => ⟨fun e => .inl e, fun e => e.elim id (fun h9 => by simp [Value.ownBlock] at h9)⟩, h, OWd.nil _ _, by simp [Value.ownBlock], rfl⟩
theorem td_prepare {w : World} {v : Value} {D : Nat → Prop} {s : Slt} (who : Int) (d : List UInt8) (h : TD w v D s) (hp : s.pr.length ≤ 100000) (hd : d.length = 32) : Calls Try.prog 15 #[v, .int .i64 who, .agg (vs d).toArray] w fun e w' => e = .returned (.int .i64 (prepS s who d).2) ∧ ∃ D', TD w' v D' (prepS s who d).1 ∧ Ft D w w' ∧ ∀ q, D' q → D q ∨ w.heap.size ≤ q := by
 obtain ⟨R, pv, rfl, hD, hb, ho, hn, h32⟩ := h
 obtain ⟨A, c, rfl, _, _, hA⟩ := ho.out
 refine (rprepare_any_ s who d R (.slice none 0 0) (.slice none 0 0) A _ c w hb hA hp h32 hd).mono ?_
 rintro e w' ⟨A2, n2, c2, w1, rfl, h5, h6, h7, h8⟩
 have hf : Ft (fun q => q = R) w w' := (Ft.of_below h6).trans (D' := fun q => q = R) (Ft.of_grown h7 (fun _ hb => .inl (Option.some.inj hb).symm)) (fun _ hq => .inl hq)
 have hF : Ft D w w' := ⟨hf.os, hf.tape, hf.output, hf.size, fun b hb hn => hf.block b hb (fun e => hn ((hD b).2 (.inl e)))⟩
 have hdg : (prepS s who d).1.dg.length = 32 := h32
 refine ⟨rfl, ?_⟩
 rcases h8 with ⟨h9, rfl, rfl, rfl⟩ | ⟨h9, h10⟩
 ·refine ⟨D, ⟨R, _, rfl, hD, h5, ?_, hn, hdg⟩, hF, fun q hq => .inl hq⟩
  have hpr : (prepS s who d).1.pr = s.pr := by
   show voteW s.n s.pr who d = s.pr
   unfold voteW
   exact if_neg h9
  rw [hpr]
  exact ⟨ho.1.keep (fun b _ hl hq => hf.block b hl (fun e => hn (by rw [← e]; exact hq))), ho.2⟩
 ·have hpr : (prepS s who d).1.pr = s.pr ++ [(who, d)] := by
   show voteW s.n s.pr who d = _
   unfold voteW
   exact if_pos h9
  have h11 : OWd w' w.heap.size (.slice A2 n2 c2) (s.pr ++ [(who, d)]) := ⟨h10.1.keep (fun b hB _ hq => h7.block b (by have := h10.1.lt b hq; omega) (fun e => by have := Option.some.inj e; have := hb.lt; omega)), h10.2⟩
  refine ⟨fun q => q = R ∨ (Value.slice A2 n2 c2).ownBlock = some q, ⟨R, _, rfl, fun q => Iff.rfl, h5, by rw [hpr]; exact ⟨h11.1.weak (Nat.zero_le _), h11.2⟩, fun e => ?_, hdg⟩, hF, fun q hq => ?_⟩
  ·have := (h11.1.lt R e).1
   have := hb.lt
   omega
  ·rcases hq with rfl | hq
   ·exact .inl ((hD q).2 (.inl rfl))
   ·exact .inr (h11.1.lt q hq).1

end Go.Proofs.Ytponmfkddglopaa
