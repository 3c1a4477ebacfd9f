/-
  The program's Same.
-/
import Derived.Test.YtkbeodlihmmdbaaPgF1
namespace Go.Proofs.Ytkbeodlihmmdbaa
open Go.RowKit

set_option maxHeartbeats 16000000 in
set_option maxRecDepth 100000 in
theorem same_any (l k : Lg) (A : Option Addr) (n c : Nat) (B : Option Addr) (m d : Nat) (A' : Option Addr) (n' c' : Nat) (B' : Option Addr) (m' d' : Nat) (w : World) (h : LgIn w A n B m l) (h' : LgIn w A' n' B' m' k) (hn : n ≤ 1000000) (hm : m ≤ 1000000) (hn' : n' ≤ 1000000) (hm' : m' ≤ 1000000) :
    Calls Try.prog 23 #[l.val A n c B m d, k.val A' n' c' B' m' d'] w fun e w' => e = .returned (.bool (l.same k)) ∧ Below w.heap.size w w' := by
  have he1 : ∀ W, Below w.heap.size w W → Calls Try.prog 50 #[.slice A n c, .slice A' n' c'] W fun e w' => e = .returned (.bool (allB Lt.eqb l.ls k.ls)) ∧ Below W.heap.size W w' := fun W hW => equalL_any l.ls k.ls A n c A' n' c' W (h.1.through hW) (h'.1.through hW) hn hn'
  have he2 : ∀ W, Below w.heap.size w W → Calls Try.prog 51 #[.slice B m d, .slice B' m' d'] W fun e w' => e = .returned (.bool (allB Oc.eqb l.os k.os)) ∧ Below W.heap.size W w' := fun W hW => equalO_any l.os k.os B m d B' m' d' W (h.2.through hW) (h'.2.through hW) hm hm'
  obtain ⟨bb, hbb⟩ : ∃ bb, l.same k = bb := ⟨_, rfl⟩
  rw [hbb]
  have HBB := Lib.hid hbb
  have HX0 : Hid (Below w.heap.size w ((w.alloc (.cells #[.int .i64 l.sq, .int .i64 l.tt, .slice A n c, .slice B m d] 25)).alloc (.cells #[.int .i64 k.sq, .int .i64 k.tt, .slice A' n' c', .slice B' m' d'] 25))) := Lib.hid (below2 w _ _)
  have K1 : Hid (Blk ((w.alloc (.cells #[.int .i64 l.sq, .int .i64 l.tt, .slice A n c, .slice B m d] 25)).alloc (.cells #[.int .i64 k.sq, .int .i64 k.tt, .slice A' n' c', .slice B' m' d'] 25)) w.heap.size 25 [.int .i64 l.sq, .int .i64 l.tt, .slice A n c, .slice B m d]) := Lib.hid ((Blk.fresh rfl rfl).alloc _)
  have K2 : Hid (Blk ((w.alloc (.cells #[.int .i64 l.sq, .int .i64 l.tt, .slice A n c, .slice B m d] 25)).alloc (.cells #[.int .i64 k.sq, .int .i64 k.tt, .slice A' n' c', .slice B' m' d'] 25)) (w.heap.size + 1) 25 [.int .i64 k.sq, .int .i64 k.tt, .slice A' n' c', .slice B' m' d']) := Lib.hid (Blk.fresh (by simp) rfl)
  unfold Lg.val
  clear h h' hbb
  by_cases s0 : l.sq = k.sq
  case neg =>
    have b0 : (l.sq == k.sq) = false := by simpa using s0
    clear he1 he2
    go_enter Try.func23, Try.ntmps23
    go_wp2
    go_ret
    exact ⟨ret_b (by rw [← HBB.out, Lg.same_eq]; simp [s0]), HX0.out⟩
  case pos =>
    have b0 : (l.sq == k.sq) = true := by simpa using s0
    by_cases s1 : l.tt = k.tt
    case neg =>
      have b1 : (l.tt == k.tt) = false := by simpa using s1
      clear he1 he2 s0
      go_enter Try.func23, Try.ntmps23
      go_wp2
      go_ret
      exact ⟨ret_b (by rw [← HBB.out, Lg.same_eq]; simp [s1]), HX0.out⟩
    case pos =>
      have b1 : (l.tt == k.tt) = true := by simpa using s1
      have HS0 := Lib.hid s0
      have HS1 := Lib.hid s1
      clear s0 s1
      cases s2 : allB Lt.eqb l.ls k.ls with
      | false =>
        rw [s2] at he1
        have HE1 := Lib.hid he1
        have HS2 := Lib.hid s2
        clear he1 he2 s2
        go_enter Try.func23, Try.ntmps23
        go_wp2_with (first
          | (go_at_call 50; (with_reducible refine (HE1.out _ HX0.out).mono ?_); rintro e w1 ⟨rfl, hb1⟩; have HX1 : Hid (Below w.heap.size w w1) := Lib.hid (below_step HX0.out hb1); have M1 := Lib.hid (K1.out.through hb1); have M2 := Lib.hid (K2.out.through hb1); have c13 := M1.out.cellAt (i := 3) rfl; have c23 := M2.out.cellAt (i := 3) rfl; clear hb1))
        go_ret
        exact ⟨ret_b (by rw [← HBB.out, Lg.same_eq]; simp [HS2.out]), HX1.out⟩
      | true =>
        rw [s2] at he1
        have HE1 := Lib.hid he1
        have HS2 := Lib.hid s2
        clear he1 s2
        cases s3 : allB Oc.eqb l.os k.os with
        | false =>
          rw [s3] at he2
          have HE2 := Lib.hid he2
          have HS3 := Lib.hid s3
          clear he2 s3
          go_enter Try.func23, Try.ntmps23
          go_wp2_with (first
            | (go_at_call 50; (with_reducible refine (HE1.out _ HX0.out).mono ?_); rintro e w1 ⟨rfl, hb1⟩; have HX1 : Hid (Below w.heap.size w w1) := Lib.hid (below_step HX0.out hb1); have M1 := Lib.hid (K1.out.through hb1); have M2 := Lib.hid (K2.out.through hb1); have c13 := M1.out.cellAt (i := 3) rfl; have c23 := M2.out.cellAt (i := 3) rfl; clear hb1)
            | (go_at_call 51; (with_reducible refine (HE2.out _ HX1.out).mono ?_); rintro e w2 ⟨rfl, hb2⟩; have HX2 : Hid (Below w.heap.size w w2) := Lib.hid (below_step HX1.out hb2); clear hb2))
          go_ret
          exact ⟨ret_b (by rw [← HBB.out, Lg.same_eq]; simp [HS3.out]), HX2.out⟩
        | true =>
          rw [s3] at he2
          have HE2 := Lib.hid he2
          have HS3 := Lib.hid s3
          clear he2 s3
          go_enter Try.func23, Try.ntmps23
          go_wp2_with (first
            | (go_at_call 50; (with_reducible refine (HE1.out _ HX0.out).mono ?_); rintro e w1 ⟨rfl, hb1⟩; have HX1 : Hid (Below w.heap.size w w1) := Lib.hid (below_step HX0.out hb1); have M1 := Lib.hid (K1.out.through hb1); have M2 := Lib.hid (K2.out.through hb1); have c13 := M1.out.cellAt (i := 3) rfl; have c23 := M2.out.cellAt (i := 3) rfl; clear hb1)
            | (go_at_call 51; (with_reducible refine (HE2.out _ HX1.out).mono ?_); rintro e w2 ⟨rfl, hb2⟩; have HX2 : Hid (Below w.heap.size w w2) := Lib.hid (below_step HX1.out hb2); clear hb2))
          go_ret
          exact ⟨ret_b (by rw [← HBB.out, Lg.same_eq]; simp [HS0.out, HS1.out, HS2.out, HS3.out]), HX2.out⟩

end Go.Proofs.Ytkbeodlihmmdbaa
