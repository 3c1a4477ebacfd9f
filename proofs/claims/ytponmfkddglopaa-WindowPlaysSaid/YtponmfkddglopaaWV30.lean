/-
  Joined: WpT.
-/
import Derived.Test.YtponmfkddglopaaWV28
import Derived.Test.YtponmfkddglopaaWV29
namespace Go.Proofs.Ytponmfkddglopaa
open Go.RowKit

def TS (w : World) (v : Value) (D : Nat → Prop) (s : Slt) : Prop := ∃ R gp pv pc gm mv mc bv, v = .pointer (some ⟨R, 0, none⟩) ∧ D = DS R gp pv pc gm mv mc bv ∧ SwR w R gp pv pc gm mv mc bv s
theorem Ft.more {D D' : Nat → Prop} {w w' : World} (h : Ft D w w') (hd : ∀ q, D q → D' q) : Ft D' w w' := ⟨h.os, h.tape, h.output, h.size, fun b hb hn => h.block b hb (fun h9 => hn (hd b h9))⟩
theorem ts_kv : Kv TS where
 lt := by
  rintro w v D s ⟨R, gp, pv, pc, gm, mv, mc, bv, rfl, rfl, h⟩
  exact h.lt
 keep := by
  rintro w w' v D s ⟨R, gp, pv, pc, gm, mv, mc, bv, rfl, rfl, h⟩ _ hb
  exact ⟨R, gp, pv, pc, gm, mv, mc, bv, rfl, rfl, h.keep hb⟩
theorem ts_ptr {w : World} {v : Value} {D : Nat → Prop} {s : Slt} (h : TS w v D s) : ∃ R, v = .pointer (some ⟨R, 0, none⟩) := by
 obtain ⟨R, _, _, _, _, _, _, _, e, _⟩ := h
 exact ⟨R, e⟩
theorem ts_new (n : Int) (w : World) (h1 : 1 ≤ n) (h7 : n ≤ 7) : Calls Try.prog 21 #[.int .i64 n] w fun e w' => ∃ R D, e = .returned (.pointer (some ⟨R, 0, none⟩)) ∧ TS w' (.pointer (some ⟨R, 0, none⟩)) D (Slt.no n) ∧ Below w.heap.size w w' ∧ ∀ q, D q → w.heap.size ≤ q :=
 (new_sw n w h1 h7).mono (by
  rintro e w' ⟨R, gp, pv, pc, gm, mv, mc, rfl, h, hb, hq⟩
  exact ⟨R, _, rfl, ⟨R, gp, pv, pc, gm, mv, mc, _, rfl, rfl, h⟩, hb, hq⟩)
theorem ts_prepare {w : World} {v : Value} {D : Nat → Prop} {s : Slt} (who : Int) (d : List UInt8) (h : TS w v D s) (hl : SlLow s) (hd : d.length = 32) : Calls Try.prog 14 #[v, .int .i64 who, .agg (vs d).toArray] w fun e w' => e = .returned (.int .i64 (prepS s who d).2) ∧ TS w' v D (prepS s who d).1 ∧ Ft D w w' := by
 obtain ⟨R, gp, pv, pc, gm, mv, mc, bv, rfl, rfl, h⟩ := h
 refine (prepare_sw who d h hl hd).mono ?_
 rintro e w' ⟨rfl, h1, h2⟩
 exact ⟨rfl, ⟨R, gp, pv, pc, gm, mv, mc, bv, rfl, rfl, h1⟩, h2.more (fun q hq => .inr (.inl hq))⟩

end Go.Proofs.Ytponmfkddglopaa
