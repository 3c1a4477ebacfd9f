/-
  Joined: BaS.
-/
import Derived.BigQuiet
import Derived.Test.YtkpgjcahmpekbaaSS15
namespace Go.Proofs.Ytkpgjcahmpekbaa
open Go.RowKit

set_option maxHeartbeats 8000000 in
set_option maxRecDepth 100000 in
theorem rsame15_any (a b : List Ey) (A : Option Addr) (n c : Nat) (B : Option Addr) (m d : Nat) (w : World) (h : EysIn w A n a) (h' : EysIn w B m b) (hn : n ≤ 9223372036854775807) :
  Calls Try.prog 48 #[.slice A n c, .slice B m d] w fun e w' => e = .returned (.bool (sameB a b)) ∧ Below w.heap.size w w' := by
 have HI := Lib.hid h
 have HJ := Lib.hid h'
 obtain ⟨bb, hbb⟩ : ∃ bb, sameB a b = bb := ⟨_, rfl⟩
 rw [hbb]
 by_cases s2 : n = m
 case neg =>
  have s2i : ¬ (n : Int) = (m : Int) := by omega
  have s2b : ((n : Int) == (m : Int)) = false := by simpa using s2i
  have s2d : ((n : Int) != (m : Int)) = true := by simpa using s2i
  have s2c : (n == m) = false := by simpa using s2
  have s2e : (n != m) = true := by simpa using s2
  have HV : Hid (bb = false) := Lib.hid (by rw [← hbb]; cases hb : sameB a b; rfl; exact absurd (allB_len hb) (by rw [h.len, h'.len]; exact s2))
  clear h h' hbb s2 s2i
  go_enter Try.func48, Try.ntmps48
  go_wp2
  go_ret
  exact ⟨ret_b HV.out.symm, Below.refl _ _⟩
 subst s2
 have HLn := Lib.hid h.len
 have HLm := Lib.hid h'.len
 have HBB : Hid (allB Ey.eqb a b = bb) := Lib.hid hbb
 clear h h' hbb
 go_enter Try.func48, Try.ntmps48
 go_wp2
 go_loopw [13] (fun iv wr => ∃ i : Nat, i ≤ n ∧ iv = .int .i64 i ∧ bb = allB Ey.eqb (a.drop i) (b.drop i) ∧ Below w.heap.size w wr) (fun iv _ => n - (intOf iv).toNat)
 case atStart => exact ⟨0, Nat.zero_le _, rfl, HBB.out.symm, Below.refl _ _⟩
 case round =>
  obtain ⟨i, hi, rfl, hp, hx⟩ := hrel
  have HX := Lib.hid hx
  by_cases hlt : i < n
  ·obtain ⟨g, o, x, rfl, _, _, hd, hrx⟩ := (HI.out.through HX.out).at hlt
   obtain ⟨g', o', y, rfl, _, _, hd', hry⟩ := (HJ.out.through HX.out).at hlt
   rw [hd, hd'] at hp
   have hix := fun (W : World) => Try.ix_ey W g o n c i hlt
   have hix' := fun (W : World) => Try.ix_ey W g' o' n d i hlt
   have hne := neq_ey x y
   cases s0 : x.eqb y with
   | false =>
    rw [s0] at hne
    have HV : Hid (bb = false) := Lib.hid (by rw [hp]; simp [allB, s0])
    have p0 : wr.cell? ⟨g, o + i * 8, none⟩ = some (.int .i64 x.co.cl) := hrx 0 _ rfl
    have p1 : wr.cell? ⟨g, o + i * 8 + 1, none⟩ = some (.int .i64 x.co.sp) := hrx 1 _ rfl
    have p2 : wr.cell? ⟨g, o + i * 8 + 2, none⟩ = some (.int .i64 x.co.op) := hrx 2 _ rfl
    have p3 : wr.cell? ⟨g, o + i * 8 + 3, none⟩ = some (.string (ba x.co.lt)) := hrx 3 _ rfl
    have p4 : wr.cell? ⟨g, o + i * 8 + 4, none⟩ = some (.int .i64 x.co.a) := hrx 4 _ rfl
    have p5 : wr.cell? ⟨g, o + i * 8 + 5, none⟩ = some (.int .i64 x.co.b) := hrx 5 _ rfl
    have p6 : wr.cell? ⟨g, o + i * 8 + 6, none⟩ = some (.string (ba x.co.tx)) := hrx 6 _ rfl
    have p7 : wr.cell? ⟨g, o + i * 8 + 7, none⟩ = some (.int .u32 (x.ms : Int)) := hrx 7 _ rfl
    have q0 : wr.cell? ⟨g', o' + i * 8, none⟩ = some (.int .i64 y.co.cl) := hry 0 _ rfl
    have q1 : wr.cell? ⟨g', o' + i * 8 + 1, none⟩ = some (.int .i64 y.co.sp) := hry 1 _ rfl
    have q2 : wr.cell? ⟨g', o' + i * 8 + 2, none⟩ = some (.int .i64 y.co.op) := hry 2 _ rfl
    have q3 : wr.cell? ⟨g', o' + i * 8 + 3, none⟩ = some (.string (ba y.co.lt)) := hry 3 _ rfl
    have q4 : wr.cell? ⟨g', o' + i * 8 + 4, none⟩ = some (.int .i64 y.co.a) := hry 4 _ rfl
    have q5 : wr.cell? ⟨g', o' + i * 8 + 5, none⟩ = some (.int .i64 y.co.b) := hry 5 _ rfl
    have q6 : wr.cell? ⟨g', o' + i * 8 + 6, none⟩ = some (.string (ba y.co.tx)) := hry 6 _ rfl
    have q7 : wr.cell? ⟨g', o' + i * 8 + 7, none⟩ = some (.int .u32 (y.ms : Int)) := hry 7 _ rfl
    clear hp hd hd' s0 hrx hry hx
    go_wp2
    go_quiet (fail)
    go_wp2
    go_ret
    exact ⟨ret_b HV.out.symm, below_drewN HX.out _⟩
   | true =>
    rw [s0] at hne
    have HV : Hid (bb = allB Ey.eqb (a.drop (i + 1)) (b.drop (i + 1))) := Lib.hid (by rw [hp]; simp [allB, s0])
    have p0 : wr.cell? ⟨g, o + i * 8, none⟩ = some (.int .i64 x.co.cl) := hrx 0 _ rfl
    have p1 : wr.cell? ⟨g, o + i * 8 + 1, none⟩ = some (.int .i64 x.co.sp) := hrx 1 _ rfl
    have p2 : wr.cell? ⟨g, o + i * 8 + 2, none⟩ = some (.int .i64 x.co.op) := hrx 2 _ rfl
    have p3 : wr.cell? ⟨g, o + i * 8 + 3, none⟩ = some (.string (ba x.co.lt)) := hrx 3 _ rfl
    have p4 : wr.cell? ⟨g, o + i * 8 + 4, none⟩ = some (.int .i64 x.co.a) := hrx 4 _ rfl
    have p5 : wr.cell? ⟨g, o + i * 8 + 5, none⟩ = some (.int .i64 x.co.b) := hrx 5 _ rfl
    have p6 : wr.cell? ⟨g, o + i * 8 + 6, none⟩ = some (.string (ba x.co.tx)) := hrx 6 _ rfl
    have p7 : wr.cell? ⟨g, o + i * 8 + 7, none⟩ = some (.int .u32 (x.ms : Int)) := hrx 7 _ rfl
    have q0 : wr.cell? ⟨g', o' + i * 8, none⟩ = some (.int .i64 y.co.cl) := hry 0 _ rfl
    have q1 : wr.cell? ⟨g', o' + i * 8 + 1, none⟩ = some (.int .i64 y.co.sp) := hry 1 _ rfl
    have q2 : wr.cell? ⟨g', o' + i * 8 + 2, none⟩ = some (.int .i64 y.co.op) := hry 2 _ rfl
    have q3 : wr.cell? ⟨g', o' + i * 8 + 3, none⟩ = some (.string (ba y.co.lt)) := hry 3 _ rfl
    have q4 : wr.cell? ⟨g', o' + i * 8 + 4, none⟩ = some (.int .i64 y.co.a) := hry 4 _ rfl
    have q5 : wr.cell? ⟨g', o' + i * 8 + 5, none⟩ = some (.int .i64 y.co.b) := hry 5 _ rfl
    have q6 : wr.cell? ⟨g', o' + i * 8 + 6, none⟩ = some (.string (ba y.co.tx)) := hry 6 _ rfl
    have q7 : wr.cell? ⟨g', o' + i * 8 + 7, none⟩ = some (.int .u32 (y.ms : Int)) := hry 7 _ rfl
    clear hp hd hd' s0 hrx hry hx
    go_wp2
    go_quiet (fail)
    go_wp2
    go_roundw
    case rel => exact ⟨i + 1, by omega, by go_num, HV.out, below_drewN HX.out _⟩
    case measure => simp [intOf]; omega
  ·have e : a.drop i = [] := List.drop_of_length_le (by have := HLn.out; omega)
   have e' : b.drop i = [] := List.drop_of_length_le (by have := HLm.out; omega)
   rw [e, e'] at hp
   have HV : Hid (bb = true) := Lib.hid hp
   clear hp e e'
   go_wp2
   go_ret
   exact ⟨ret_b HV.out.symm, HX.out⟩

end Go.Proofs.Ytkpgjcahmpekbaa
