/-
  The program's AppendInt of a small number, its putWord, on a slice of bytes of one's own.
-/
import Derived.Test.YtnpobhgecfjfgaaDoorRPr
import Derived.Test.YtnpobhgecfjfgaaDoorTShelf
import Derived.Lib.AppendStr
import Derived.OwnWalk
import Derived.Lib.BufferKept
namespace Go.Proofs.YtnpobhgecfjfgaaDoor
open Go.RowKit

theorem dec_digs (n : Nat) : Lib.decDigits n = digs n := by
  induction n using Nat.strongRecOn with
  | ind n ih =>
    unfold Lib.decDigits digs
    by_cases h : n < 10
    · rw [dif_pos h, if_pos h]; rfl
    · rw [dif_neg h, if_neg h, ih (n / 10) (by omega)]; rfl

/-- Bytes, as cells. -/
def vb (l : List UInt8) : List Value := Lib.byteCells l
theorem vb_append (a b : List UInt8) : vb (a ++ b) = vb a ++ vb b := by simp [vb, Lib.byteCells]
theorem vb_length (a : List UInt8) : (vb a).length = a.length := by simp [vb, Lib.byteCells]
/-- v is the call's own slice of these bytes. -/
def Bs (w : World) (B : Nat) (v : Value) (l : List UInt8) : Prop := w.ownsRow B 5 1 v l.length (vb l)
theorem Bs.nil (w : World) (B : Nat) : Bs w B (.slice none 0 0) [] := World.ownsRow_nil w _ _ _
theorem Bs.alloc {w : World} {B : Nat} {v : Value} {l : List UInt8} (h : Bs w B v l) (o : Obj) : Bs (w.alloc o) B v l := World.ownsRow.alloc h o
/-- What lies below B stands; and whatever is no row of bytes. -/
structure Fr (B : Nat) (w w' : World) : Prop where
  below : Below B w w'
  kept : Lib.OthersKept 5 none w w'
section
variable {B : Nat} {a w w' : World}
theorem Fr.refl (B : Nat) (w : World) : Fr B w w := ⟨Below.refl _ w, Lib.OthersKept.refl _ _ w⟩
theorem Fr.trans {c : World} (h : Fr B a w) (k : Fr B w c) : Fr B a c := ⟨h.below.trans k.below, h.kept.trans k.kept⟩
theorem Fr.alloc (h : Fr B a w) (hB : B ≤ w.heap.size) (o : Obj) : Fr B a (w.alloc o) := ⟨h.below.alloc hB o, h.kept.alloc o⟩
theorem Fr.grown {v : Value} {n : Nat} {xs : List Value} (h : Fr B a w) (ho : w.ownsRow B 5 1 v n xs) (hg : w.grownBy w' v.ownBlock) (hB : B ≤ w.heap.size) : Fr B a w' :=
  ⟨h.below.grown hg hB (fun k hk => (World.ownsRow.lt ho k hk).1), h.kept.grown hg fun g hgb => by
    rcases ho.2 with ⟨rfl, _⟩ | ⟨g', cap, cur, rfl, _, hgg, _⟩
    · simp [Value.ownBlock] at hgb
    · simp [Value.ownBlock] at hgb
      subst hgb
      exact ⟨cur, (0, 0), hgg⟩⟩
theorem Fr.blk {g : Nat} {t : TypeId} {cs : List Value} (h : Fr B w w') (hb : Blk w g t cs) (ht : t ≠ 5) : Blk w' g t cs :=
  h.kept g _ hb (by simp) (fun c fz e => by injection e with _ e2 _; exact ht e2)
end
theorem strCells_ba (l : List UInt8) : Lib.strCells (ba l) = vb l := by
  unfold Lib.strCells vb Lib.byteCells ba
  simp

set_option maxHeartbeats 2000000 in
theorem iappend_any (B n : Nat) (hn : n < 100) (sv : Value) (l : List UInt8) (hl : l.length ≤ 100000) (w : World) (h : Bs w B sv l) (hB : B ≤ w.heap.size) :
    Calls Tryd.prog 48 #[sv, .int .i64 (n : Int), .int .i64 10] w fun e w' => ∃ v', e = .returned v' ∧ Bs w' B v' (l ++ digs n) ∧ Fr B w w' := by
  have hc : Calls Tryd.prog 52 #[sv, .int .u64 (n : Int), .int .i64 10] w fun e w' => ∃ v', e = .returned v' ∧ Bs w' B v' (l ++ digs n) ∧ Fr B w w' := by
    refine (Tryd.internal_strconv_AppendUint_10_small B l.length n hn sv (vb l) w h hB (by omega)).mono fun e w' ⟨v', he, ho, hb, hk⟩ => ⟨v', he, ?_, hb, hk⟩
    unfold Bs
    rw [List.length_append, vb_append]
    rw [dec_digs] at ho
    exact ho
  have HC := Lib.hid hc
  clear hc h
  go_enter Tryd.func48, Tryd.ntmps48
  go_wp2_with (go_at_call 52; (with_reducible refine (HC.out).mono ?_); rintro e w1 ⟨v1, rfl, h1, hb1⟩; have H1 := Lib.hid h1; have HX1 := Lib.hid hb1; clear h1 hb1)
  go_ret
  exact ⟨v1, rfl, H1.out, HX1.out⟩

set_option maxHeartbeats 2000000 in
theorem append_any (B n : Nat) (hn : n < 100) (sv : Value) (l : List UInt8) (hl : l.length ≤ 100000) (w : World) (h : Bs w B sv l) (hB : B ≤ w.heap.size) :
    Calls Tryd.prog 38 #[sv, .int .i64 (n : Int), .int .i64 10] w fun e w' => ∃ v', e = .returned v' ∧ Bs w' B v' (l ++ digs n) ∧ Fr B w w' := by
  have hc := iappend_any B n hn sv l hl w h hB
  have HC := Lib.hid hc
  clear hc h
  go_enter Tryd.func38, Tryd.ntmps38
  go_wp2_with (go_at_call 48; (with_reducible refine (HC.out).mono ?_); rintro e w1 ⟨v1, rfl, h1, hb1⟩; have H1 := Lib.hid h1; have HX1 := Lib.hid hb1; clear h1 hb1)
  go_ret
  exact ⟨v1, rfl, H1.out, HX1.out⟩

end Go.Proofs.YtnpobhgecfjfgaaDoor
