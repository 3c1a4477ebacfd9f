/-
  The program's Check.
-/
import Derived.Test.YtkbeodlihmmdbaaPgE1
import Derived.Test.YtkbeodlihmmdbaaPgB1
import Derived.Deep.CutRange
namespace Go.Proofs.Ytkbeodlihmmdbaa
open Go.RowKit

theorem lsOk_split : ∀ ls : List Lt, lsOk none ls = (ris (fun a b : Lt => ltS a.nm b.nm) ls && ls.all ltOk) := by
  have key : ∀ (p : Lt) (ls : List Lt), lsOk (some p) ls = (ris (fun a b : Lt => ltS a.nm b.nm) (p :: ls) && ls.all ltOk) := fun p ls => by
    induction ls generalizing p with
    | nil => rfl
    | cons x xs ih =>
      rw [lsOk, ih x, ris_two, List.all_cons]
      generalize ltS p.nm x.nm = a
      generalize ris (fun a b : Lt => ltS a.nm b.nm) (x :: xs) = b
      generalize xs.all ltOk = c
      generalize ltOk x = d
      revert a b c d
      decide
  intro ls
  cases ls with
  | nil => rfl
  | cons x xs =>
    rw [lsOk, key x, List.all_cons]
    generalize ris (fun a b : Lt => ltS a.nm b.nm) (x :: xs) = b
    generalize xs.all ltOk = c
    generalize ltOk x = d
    revert b c d
    decide
theorem osOk_split : ∀ ls : List Oc, osOk none ls = (ris (fun a b : Oc => decide (a.cl < b.cl)) ls && ls.all ocOk) := by
  have key : ∀ (p : Oc) (ls : List Oc), osOk (some p) ls = (ris (fun a b : Oc => decide (a.cl < b.cl)) (p :: ls) && ls.all ocOk) := fun p ls => by
    induction ls generalizing p with
    | nil => rfl
    | cons x xs ih =>
      rw [osOk, ih x, ris_two, List.all_cons]
      generalize decide (p.cl < x.cl) = a
      generalize ris (fun a b : Oc => decide (a.cl < b.cl)) (x :: xs) = b
      generalize xs.all ocOk = c
      generalize ocOk x = d
      revert a b c d
      decide
  intro ls
  cases ls with
  | nil => rfl
  | cons x xs =>
    rw [osOk, key x, List.all_cons]
    generalize ris (fun a b : Oc => decide (a.cl < b.cl)) (x :: xs) = b
    generalize xs.all ocOk = c
    generalize ocOk x = d
    revert b c d
    decide
def chkE (l : Lg) : Int := if l.right then 0 else 2
theorem chk_split (l : Lg) : l.right = ((decide (0 ≤ l.sq) && (decide (l.sq ≤ 1048576) && isM l.tt)) && ((decide (l.ls.length ≤ 16) && (ris (fun a b : Lt => ltS a.nm b.nm) l.ls && l.ls.all ltOk)) && (decide (l.os.length ≤ 4) && (ris (fun a b : Oc => decide (a.cl < b.cl)) l.os && l.os.all ocOk)))) := by
  unfold Lg.right
  rw [lsOk_split, osOk_split]
  generalize decide (0 ≤ l.sq) = a1
  generalize decide (l.sq ≤ 1048576) = a2
  generalize isM l.tt = a3
  generalize decide (l.os.length ≤ 4) = a4
  generalize decide (l.ls.length ≤ 16) = a5
  generalize ris (fun a b : Lt => ltS a.nm b.nm) l.ls = a6
  generalize l.ls.all ltOk = a7
  generalize ris (fun a b : Oc => decide (a.cl < b.cl)) l.os = a8
  generalize l.os.all ocOk = a9
  revert a1 a2 a3 a4 a5 a6 a7 a8 a9
  decide

set_option maxHeartbeats 16000000 in
set_option maxRecDepth 100000 in
theorem check_any (l : Lg) (A : Option Addr) (n c : Nat) (B : Option Addr) (m d : Nat) (w : World) (h : LgIn w A n B m l) (hn : n ≤ 1000000) (hm : m ≤ 1000000) (hnl : ∀ x ∈ l.ls, x.nm.length ≤ 140737488355328) :
    Calls Try.prog 21 #[l.val A n c B m d] w fun e w' => e = .returned (.int .i64 (chkE l)) ∧ Below w.heap.size w w' := by
  have hr1 : ∀ W, Below w.heap.size w W → Calls Try.prog 42 #[.slice A n c, .func (.func 28) #[] #[]] W fun e w' => e = .returned (.bool (ris (fun a b : Lt => ltS a.nm b.nm) l.ls)) ∧ Below W.heap.size W w' := fun W hW => risesL_any l.ls A n c W (h.1.through hW) hn
  have ha1 : ∀ W, Below w.heap.size w W → Calls Try.prog 43 #[.slice A n c, .func (.func 44) #[] #[]] W fun e w' => e = .returned (.bool (l.ls.all ltOk)) ∧ Below W.heap.size W w' := fun W hW => allL_any l.ls A n c W (h.1.through hW) hn hnl
  have hr2 : ∀ W, Below w.heap.size w W → Calls Try.prog 45 #[.slice B m d, .func (.func 32) #[] #[]] W fun e w' => e = .returned (.bool (ris (fun a b : Oc => decide (a.cl < b.cl)) l.os)) ∧ Below W.heap.size W w' := fun W hW => risesO_any l.os B m d W (h.2.through hW) hm
  have ha2 : ∀ W, Below w.heap.size w W → Calls Try.prog 46 #[.slice B m d, .func (.func 47) #[] #[]] W fun e w' => e = .returned (.bool (l.os.all ocOk)) ∧ Below W.heap.size W w' := fun W hW => allO_any l.os B m d W (h.2.through hW) hm
  have HR0n := Lib.hid hr1
  have HA0n := Lib.hid ha1
  have HR0m := Lib.hid hr2
  have HA0m := Lib.hid ha2
  have HLn := Lib.hid h.len.1
  have HLm := Lib.hid h.len.2
  have hsp := chk_split l
  obtain ⟨nb, hnb⟩ : ∃ nb, (decide (0 ≤ l.sq) && (decide (l.sq ≤ 1048576) && isM l.tt)) = nb := ⟨_, rfl⟩
  obtain ⟨lb, hlb⟩ : ∃ lb, (decide (l.ls.length ≤ 16) && (ris (fun a b : Lt => ltS a.nm b.nm) l.ls && l.ls.all ltOk)) = lb := ⟨_, rfl⟩
  obtain ⟨ob, hob⟩ : ∃ ob, (decide (l.os.length ≤ 4) && (ris (fun a b : Oc => decide (a.cl < b.cl)) l.os && l.os.all ocOk)) = ob := ⟨_, rfl⟩
  rw [hnb, hlb, hob] at hsp
  have HN := Lib.hid hnb
  have Hlb := Lib.hid hlb
  have Hob := Lib.hid hob
  have HSP := Lib.hid hsp
  obtain ⟨v, hv⟩ : ∃ v, chkE l = v := ⟨_, rfl⟩
  rw [hv]
  have HV := Lib.hid hv
  have hmm := fun (W : World) => is_any l.tt W
  have HM0 := Lib.hid hmm
  have H1 : Hid (Blk (w.alloc (.cells #[.int .i64 l.sq, .int .i64 l.tt, .slice A n c, .slice B m d] 25)) w.heap.size 25 [.int .i64 l.sq, .int .i64 l.tt, .slice A n c, .slice B m d]) := Lib.hid (Blk.fresh rfl rfl)
  have HX1 : Hid (Below w.heap.size w (w.alloc (.cells #[.int .i64 l.sq, .int .i64 l.tt, .slice A n c, .slice B m d] 25))) := Lib.hid (below1 w _)
  unfold Lg.val
  clear h hr1 ha1 hr2 ha2 hsp hnb hlb hob hv hmm hnl
  go_enter Try.func21, Try.ntmps21
  go_upto_region 1 with fail
  go_cut [3] from 6 to 18 (fun v wx => v = .bool nb ∧ Blk wx w.heap.size 25 [.int .i64 l.sq, .int .i64 l.tt, .slice A n c, .slice B m d] ∧ Below w.heap.size w wx)
  case first =>
    by_cases k0 : 0 ≤ l.sq
    case neg =>
      have d0 : decide (0 ≤ l.sq) = false := by simpa using k0
      have hv : nb = false := by rw [← HN.out]; simp [k0]
      go_wp2
      go_meet
      case rel => exact ⟨congrArg Value.bool hv.symm, H1.out, HX1.out⟩
    case pos =>
      by_cases k1 : l.sq ≤ 1048576
      case neg =>
        have d1 : decide (l.sq ≤ 1048576) = false := by simpa using k1
        have hv : nb = false := by rw [← HN.out]; simp [k1]
        go_wp2
        go_meet
        case rel => exact ⟨congrArg Value.bool hv.symm, H1.out, HX1.out⟩
      case pos =>
        cases k2 : isM l.tt
        case false =>
          have HM : Hid (∀ W, Calls Try.prog 41 #[.int .i64 l.tt] W fun e w' => e = .returned (.bool false) ∧ w' = W) := Lib.hid (fun W => by have := HM0.out W; rw [k2] at this; exact this)
          have hv : nb = false := by rw [← HN.out]; simp [k2]
          go_wp2_with (first
            | (go_at_call 41; (with_reducible refine (HM.out _).mono ?_); rintro e w1 ⟨rfl, rfl⟩))
          go_meet
          case rel => exact ⟨congrArg Value.bool hv.symm, H1.out, HX1.out⟩
        case true =>
          have HM : Hid (∀ W, Calls Try.prog 41 #[.int .i64 l.tt] W fun e w' => e = .returned (.bool true) ∧ w' = W) := Lib.hid (fun W => by have := HM0.out W; rw [k2] at this; exact this)
          have hv : nb = true := by rw [← HN.out]; simp [k0, k1, k2]
          go_wp2_with (first
            | (go_at_call 41; (with_reducible refine (HM.out _).mono ?_); rintro e w1 ⟨rfl, rfl⟩))
          go_meet
          case rel => exact ⟨congrArg Value.bool hv.symm, H1.out, HX1.out⟩
  case rest =>
    obtain ⟨rfl, hbc, hxc⟩ := hcut
    have HBc := Lib.hid hbc
    have HXc := Lib.hid hxc
    clear hbc hxc
    go_upto_region 2 with fail
    go_cut [4] from 19 to 32 (fun v wx => v = .bool lb ∧ Blk wx w.heap.size 25 [.int .i64 l.sq, .int .i64 l.tt, .slice A n c, .slice B m d] ∧ Below w.heap.size w wx)
    case first =>
      have c0 := HBc.out.cellAt (i := 2) rfl
      by_cases k0 : n ≤ 16
      case neg =>
        have d0 : decide ((n : Int) ≤ 16) = false := by simp; omega
        have hv : lb = false := by rw [← Hlb.out, HLn.out]; simp [k0]
        go_wp2
        go_meet
        case rel => exact ⟨congrArg Value.bool hv.symm, HBc.out, HXc.out⟩
      case pos =>
        have d0 : decide ((n : Int) ≤ 16) = true := by simp; omega
        cases k1 : ris (fun a b : Lt => ltS a.nm b.nm) l.ls
        case false =>
          have hR2 : ∀ W, Below w.heap.size w W → Calls Try.prog 42 #[.slice A n c, .func (.func 28) #[] #[]] W fun e w' => e = .returned (.bool false) ∧ Below W.heap.size W w' := fun W hW => by have := HR0n.out W hW; rw [k1] at this; exact this
          have HR := Lib.hid hR2
          clear hR2
          have hv : lb = false := by rw [← Hlb.out]; simp [k1]
          clear k1
          go_wp2_with (first
            | (go_at_call 42; (with_reducible refine (HR.out _ HXc.out).mono ?_); rintro e w2 ⟨rfl, hb2⟩; have HX2 : Hid (Below w.heap.size w w2) := Lib.hid (below_step HXc.out hb2); have HB2 := Lib.hid (HBc.out.through hb2); have c2 := HB2.out.cellAt (i := 2) rfl; clear hb2))
          go_meet
          case rel => exact ⟨congrArg Value.bool hv.symm, HB2.out, HX2.out⟩
        case true =>
          have hR2 : ∀ W, Below w.heap.size w W → Calls Try.prog 42 #[.slice A n c, .func (.func 28) #[] #[]] W fun e w' => e = .returned (.bool true) ∧ Below W.heap.size W w' := fun W hW => by have := HR0n.out W hW; rw [k1] at this; exact this
          have HR := Lib.hid hR2
          clear hR2
          cases k2 : l.ls.all ltOk
          case false =>
            have hA2 : ∀ W, Below w.heap.size w W → Calls Try.prog 43 #[.slice A n c, .func (.func 44) #[] #[]] W fun e w' => e = .returned (.bool false) ∧ Below W.heap.size W w' := fun W hW => by have := HA0n.out W hW; rw [k2] at this; exact this
            have HA := Lib.hid hA2
            clear hA2
            have hv : lb = false := by rw [← Hlb.out]; simp [k2]
            clear k1 k2
            go_wp2_with (first
              | (go_at_call 42; (with_reducible refine (HR.out _ HXc.out).mono ?_); rintro e w2 ⟨rfl, hb2⟩; have HX2 : Hid (Below w.heap.size w w2) := Lib.hid (below_step HXc.out hb2); have HB2 := Lib.hid (HBc.out.through hb2); have c2 := HB2.out.cellAt (i := 2) rfl; clear hb2)
              | (go_at_call 43; (with_reducible refine (HA.out _ HX2.out).mono ?_); rintro e w3 ⟨rfl, hb3⟩; have HX3 : Hid (Below w.heap.size w w3) := Lib.hid (below_step HX2.out hb3); have HB3 := Lib.hid (HB2.out.through hb3); clear hb3))
            go_meet
            case rel => exact ⟨congrArg Value.bool hv.symm, HB3.out, HX3.out⟩
          case true =>
            have hA2 : ∀ W, Below w.heap.size w W → Calls Try.prog 43 #[.slice A n c, .func (.func 44) #[] #[]] W fun e w' => e = .returned (.bool true) ∧ Below W.heap.size W w' := fun W hW => by have := HA0n.out W hW; rw [k2] at this; exact this
            have HA := Lib.hid hA2
            clear hA2
            have hv : lb = true := by rw [← Hlb.out]; simp [k0, k1, k2, HLn.out]
            clear k1 k2
            go_wp2_with (first
              | (go_at_call 42; (with_reducible refine (HR.out _ HXc.out).mono ?_); rintro e w2 ⟨rfl, hb2⟩; have HX2 : Hid (Below w.heap.size w w2) := Lib.hid (below_step HXc.out hb2); have HB2 := Lib.hid (HBc.out.through hb2); have c2 := HB2.out.cellAt (i := 2) rfl; clear hb2)
              | (go_at_call 43; (with_reducible refine (HA.out _ HX2.out).mono ?_); rintro e w3 ⟨rfl, hb3⟩; have HX3 : Hid (Below w.heap.size w w3) := Lib.hid (below_step HX2.out hb3); have HB3 := Lib.hid (HB2.out.through hb3); clear hb3))
            go_meet
            case rel => exact ⟨congrArg Value.bool hv.symm, HB3.out, HX3.out⟩
    case rest =>
      obtain ⟨rfl, hbd, hxd⟩ := hcut
      have HBd := Lib.hid hbd
      have HXd := Lib.hid hxd
      clear hbd hxd
      go_upto_region 3 with fail
      go_cut [5] from 33 to 46 (fun v wx => v = .bool ob ∧ Blk wx w.heap.size 25 [.int .i64 l.sq, .int .i64 l.tt, .slice A n c, .slice B m d] ∧ Below w.heap.size w wx)
      case first =>
        have c0 := HBd.out.cellAt (i := 3) rfl
        by_cases k0 : m ≤ 4
        case neg =>
          have d0 : decide ((m : Int) ≤ 4) = false := by simp; omega
          have hv : ob = false := by rw [← Hob.out, HLm.out]; simp [k0]
          go_wp2
          go_meet
          case rel => exact ⟨congrArg Value.bool hv.symm, HBd.out, HXd.out⟩
        case pos =>
          have d0 : decide ((m : Int) ≤ 4) = true := by simp; omega
          cases k1 : ris (fun a b : Oc => decide (a.cl < b.cl)) l.os
          case false =>
            have hR2 : ∀ W, Below w.heap.size w W → Calls Try.prog 45 #[.slice B m d, .func (.func 32) #[] #[]] W fun e w' => e = .returned (.bool false) ∧ Below W.heap.size W w' := fun W hW => by have := HR0m.out W hW; rw [k1] at this; exact this
            have HR := Lib.hid hR2
            clear hR2
            have hv : ob = false := by rw [← Hob.out]; simp [k1]
            clear k1
            go_wp2_with (first
              | (go_at_call 45; (with_reducible refine (HR.out _ HXd.out).mono ?_); rintro e w2 ⟨rfl, hb2⟩; have HX2 : Hid (Below w.heap.size w w2) := Lib.hid (below_step HXd.out hb2); have HB2 := Lib.hid (HBd.out.through hb2); have c2 := HB2.out.cellAt (i := 3) rfl; clear hb2))
            go_meet
            case rel => exact ⟨congrArg Value.bool hv.symm, HB2.out, HX2.out⟩
          case true =>
            have hR2 : ∀ W, Below w.heap.size w W → Calls Try.prog 45 #[.slice B m d, .func (.func 32) #[] #[]] W fun e w' => e = .returned (.bool true) ∧ Below W.heap.size W w' := fun W hW => by have := HR0m.out W hW; rw [k1] at this; exact this
            have HR := Lib.hid hR2
            clear hR2
            cases k2 : l.os.all ocOk
            case false =>
              have hA2 : ∀ W, Below w.heap.size w W → Calls Try.prog 46 #[.slice B m d, .func (.func 47) #[] #[]] W fun e w' => e = .returned (.bool false) ∧ Below W.heap.size W w' := fun W hW => by have := HA0m.out W hW; rw [k2] at this; exact this
              have HA := Lib.hid hA2
              clear hA2
              have hv : ob = false := by rw [← Hob.out]; simp [k2]
              clear k1 k2
              go_wp2_with (first
                | (go_at_call 45; (with_reducible refine (HR.out _ HXd.out).mono ?_); rintro e w2 ⟨rfl, hb2⟩; have HX2 : Hid (Below w.heap.size w w2) := Lib.hid (below_step HXd.out hb2); have HB2 := Lib.hid (HBd.out.through hb2); have c2 := HB2.out.cellAt (i := 3) rfl; clear hb2)
                | (go_at_call 46; (with_reducible refine (HA.out _ HX2.out).mono ?_); rintro e w3 ⟨rfl, hb3⟩; have HX3 : Hid (Below w.heap.size w w3) := Lib.hid (below_step HX2.out hb3); have HB3 := Lib.hid (HB2.out.through hb3); clear hb3))
              go_meet
              case rel => exact ⟨congrArg Value.bool hv.symm, HB3.out, HX3.out⟩
            case true =>
              have hA2 : ∀ W, Below w.heap.size w W → Calls Try.prog 46 #[.slice B m d, .func (.func 47) #[] #[]] W fun e w' => e = .returned (.bool true) ∧ Below W.heap.size W w' := fun W hW => by have := HA0m.out W hW; rw [k2] at this; exact this
              have HA := Lib.hid hA2
              clear hA2
              have hv : ob = true := by rw [← Hob.out]; simp [k0, k1, k2, HLm.out]
              clear k1 k2
              go_wp2_with (first
                | (go_at_call 45; (with_reducible refine (HR.out _ HXd.out).mono ?_); rintro e w2 ⟨rfl, hb2⟩; have HX2 : Hid (Below w.heap.size w w2) := Lib.hid (below_step HXd.out hb2); have HB2 := Lib.hid (HBd.out.through hb2); have c2 := HB2.out.cellAt (i := 3) rfl; clear hb2)
                | (go_at_call 46; (with_reducible refine (HA.out _ HX2.out).mono ?_); rintro e w3 ⟨rfl, hb3⟩; have HX3 : Hid (Below w.heap.size w w3) := Lib.hid (below_step HX2.out hb3); have HB3 := Lib.hid (HB2.out.through hb3); clear hb3))
              go_meet
              case rel => exact ⟨congrArg Value.bool hv.symm, HB3.out, HX3.out⟩
      case rest =>
        obtain ⟨rfl, hbe, hxe⟩ := hcut
        have HXe := Lib.hid hxe
        clear hbe hxe
        have HE : Hid (v = if (nb && (lb && ob)) = true then 0 else 2) := Lib.hid (by rw [← HV.out, ← HSP.out]; rfl)
        cases nb <;> cases lb <;> cases ob
        all_goals
          go_wp2
          go_ret
          exact ⟨ret_i (by rw [HE.out]; rfl), HXe.out⟩

end Go.Proofs.Ytkbeodlihmmdbaa
