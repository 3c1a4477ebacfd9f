/-
  The document's block.
-/
import Derived.Test.YtolildehdibpbaaDoorBlockW
import Derived.Test.YtolildehdibpbaaDoorSchedW
import Derived.Test.YtolildehdibpbaaDoorWdK
import Derived.Deep.AppendLies
import Derived.RegionTactic
import Derived.ChangeAlike
import Derived.StillTailTactics
import Derived.Deep.QuietTactic
import Derived.BigQuiet
import Derived.IntWalk
import Derived.Outline
import Derived.Deep.Onto
namespace Go.Proofs.YtolildehdibpbaaDoor
open Go.RowKit

abbrev OwnV (w : World) (base : Nat) (v : Value) (n : Nat) (ws : List UInt32) : Prop := w.ownsRow base 46 1 v n (cw ws)

theorem own_cells {w : World} {base n c : Nat} {A : Option Addr} {ws : List UInt32} (h : OwnV w base (.slice A n c) n ws) (hn : 0 < n) : ∃ g, A = some ⟨g, 0, none⟩ ∧ ∀ j, j < n → w.cell? ⟨g, j, none⟩ = some (.int .u32 (n32 (ws.getD j 0))) := by
  have hl : ws.length = n := by have := h.1; simpa [cw] using this
  obtain ⟨g, cap, e, _, _⟩ := World.ownsRow.form h hn
  injection e with e _ _
  subst e
  refine ⟨g, rfl, fun j hj => ?_⟩
  rw [h.cellAt (g := g) j (by omega), cw_get, List.getElem?_eq_getElem (by omega)]
  simp [c32, List.getD, hl, hj]
set_option maxHeartbeats 4000000 in
set_option maxRecDepth 100000 in
theorem block_any (Qh Qk : Nat → Prop) (s : S8) (b : List UInt8) (Ah Ak Ab : Option Addr) (ch ck cb : Nat) (w : World) (hh : Wd w Qh Ah 8 s.list) (hk : Wd w Qk Ak 64 kTab) (hb : By w (Bk w) Ab 64 b) (hcb : 64 ≤ cb) (hmb : cb ≤ maxLen) :
    Calls Tryd.prog 31 #[.slice Ah 8 ch, .slice Ak 64 ck, .slice Ab 64 cb] w fun e w' => ∃ A c, e = .returned (.slice A 8 c) ∧ OwnV w' w.heap.size (.slice A 8 c) 8 (press s b).list ∧ Below w.heap.size w w' := by
  obtain ⟨i0, hi, hz0, hz1, hz2⟩ := info_parts Tryd.info_u32
  have HHh := Lib.hid hh
  have HKk := Lib.hid hk
  have HBb := Lib.hid hb
  have HMb := Lib.hid hmb
  clear hh hk hb hmb
  go_enter Tryd.func31, Tryd.ntmps31
  go_wp2
  go_loopw [7, 8] (fun wv iv wr => ∃ (i : Nat) (A : Option Addr) (c : Nat), i ≤ 64 ∧ iv = .int .i64 i ∧ wv = .slice A i c ∧ OwnV wr w.heap.size (.slice A i c) i (wds b i) ∧ Below w.heap.size w wr) (fun _ iv _ => 64 - (intOf iv).toNat)
  case atStart => exact ⟨0, none, 0, by omega, rfl, rfl, World.ownsRow_nil _ _ _ _, Below.refl _ _⟩
  case round =>
    obtain ⟨i, A, c, hi64, rfl, rfl, hw, hx⟩ := hrel
    by_cases hlt : i < 64
    · by_cases h16 : i < 16
      · as_aux_lemma =>
        have hsl := fun (W : World) => run_cut2 (P := Tryd.prog) W 22 5 Ab 64 cb .i64 .i64 (4 * (i : Int)) (4 * (i : Int) + 4) Tryd.underlying22 (by kernel_rfl) (by omega) (by omega) (by omega)
        have e1 : (4 * (i : Int)).toNat = 4 * i := by omega
        have e2 : (4 * (i : Int) + 4).toNat - 4 * i = 4 := by omega
        rw [e1, e2] at hsl
        have hby := (HBb.out.bk hx)
        have hrs := RS.word (j := i) hby hcb HMb.out h16
        have hlen : ((b.drop (4 * i)).take 4).length ≤ 1099511627776 := by rw [List.length_take]; omega
        have hx1 := hx.size
        have hnext : wds b (i + 1) = wds b i ++ [beW ((b.drop (4 * i)).take 4)] := by rw [wds, nextW, if_pos h16]; rfl
        have hval : ((beN (takeY ((b.drop (4 * i)).take 4) 0 4) : Nat) : Int) = n32 (beW ((b.drop (4 * i)).take 4)) := by
          have hl4 : ((b.drop (4 * i)).take 4).length = 4 := by rw [List.length_take, List.length_drop, HBb.out.len]; omega
          rw [← word_n32]
          congr 2
          unfold takeY
          rw [hl4, if_pos ⟨rfl, by decide, by decide⟩]
          exact List.take_of_length_le (by rw [hl4]; decide)
        have hnum : ∀ W g, RS W g tQ ((b.drop (4 * i)).take 4) 0 → Calls Tryd.prog 48 #[.pointer (some ⟨g, 0, none⟩), .int .i64 4] W fun e w' => e = .returned (.int .u64 (n32 (beW ((b.drop (4 * i)).take 4)))) ∧ W.grownBy w' (some g) := fun W g h =>
          (rnumber_yes g _ 0 4 rfl hlen W h).mono fun e w' ⟨he, _, ho⟩ => ⟨by rw [he]; exact congrArg (fun z => Ending.returned (Value.int .u64 z)) hval, ho⟩
        generalize beW ((b.drop (4 * i)).take 4) = x at hnum hnext
        have hmod := n32_mod x
        have HNum := Lib.hid hnum
        have HRs := Lib.hid hrs
        have HNext := Lib.hid hnext
        have HW := Lib.hid hw
        have HX := Lib.hid hx
        clear hnum hrs hnext hw hx hby hlen hval e1 e2
        go_wp2_with (first
          | (go_at_call 48; refine (HNum.out _ wr.heap.size HRs.out).mono ?_; rintro e w3 ⟨rfl, ho3⟩; have HO3 := Lib.hid ho3; clear ho3)
          | (at_builtin; refine wpList_append_w rfl (.tmp 33) (.tmp 37) 52 rfl w.heap.size i0 Tryd.underlying52 hi hz0 hz1 hz2 (.slice A i c) i (wds b i) rfl ((own_keep (HW.out.alloc _) HO3.out (fun g hg e => by have := (HW.out.lt g hg).2; injection e with e; omega)).alloc _) w3.heap.size 1 x rfl (Blk.new_cell _ _ _) (by omega) (by have := HO3.out.size; simp at this ⊢; omega) ?_; intro g4 c4 w4 hok hg4 hw4 hc4 hm4; have HOk := Lib.hid hok; have HG4 := Lib.hid hg4; clear hok hg4 hw4))
        go_roundw
        case rel =>
          have h3 := (HX.out.alloc HX.out.size (.cells #[.slice (cutA Ab cb (4 * i)) 4 (cb - 4 * i), .int .i64 0] tQ)).grown HO3.out (Nat.le_trans HX.out.size (by simp)) (fun g hg => Option.some.inj hg ▸ HX.out.size)
          have h4 := (h3.alloc h3.size (.cells #[.int .u32 (n32 x)] 46)).grown HG4.out (Nat.le_trans h3.size (by simp)) (fun g hg => (HW.out.lt g hg).1)
          exact ⟨i + 1, some ⟨g4, 0, none⟩, c4, by omega, by go_num, rfl, by rw [HNext.out]; exact HOk.out, h4⟩
        case measure => simp [intOf]; omega
      · as_aux_lemma =>
        obtain ⟨gw, rfl, hcell⟩ := own_cells hw (by omega)
        have c15 := hcell (i - 15) (by omega)
        have c2 := hcell (i - 2) (by omega)
        have c16 := hcell (i - 16) (by omega)
        have c7 := hcell (i - 7) (by omega)
        have hnext : wds b (i + 1) = wds b i ++ [(wds b i).getD (i - 16) 0 + sg0 ((wds b i).getD (i - 15) 0) + (wds b i).getD (i - 7) 0 + sg1 ((wds b i).getD (i - 2) 0)] := by rw [wds, nextW, if_neg h16]
        generalize (wds b i).getD (i - 15) 0 = x15 at c15 hnext
        generalize (wds b i).getD (i - 2) 0 = x2 at c2 hnext
        generalize (wds b i).getD (i - 16) 0 = x16 at c16 hnext
        generalize (wds b i).getD (i - 7) 0 = x7 at c7 hnext
        have hxx := w32_xor
        have haa := w32_add
        have s3 := w32_shr3
        have s10 := w32_shr10
        have hw15 : IntKind.i64.wrap ((i : Int) - 15) = (i : Int) - 15 := by rw [IntWalk.i64_in _ (by omega)]
        have hw2 : IntKind.i64.wrap ((i : Int) - 2) = (i : Int) - 2 := by rw [IntWalk.i64_in _ (by omega)]
        have hw16 : IntKind.i64.wrap ((i : Int) - 16) = (i : Int) - 16 := by rw [IntWalk.i64_in _ (by omega)]
        have hw7 : IntKind.i64.wrap ((i : Int) - 7) = (i : Int) - 7 := by rw [IntWalk.i64_in _ (by omega)]
        have l7 : (7 : Int) ≤ (i : Int) := by omega
        have l16 : (16 : Int) ≤ (i : Int) := by omega
        have l7' : ¬ (i : Int) < 7 := by omega
        have b16 : (0 : Int) ≤ (i : Int) - 16 := by omega
        have b16' : (i : Int) - 16 < (i : Int) := by omega
        have b7 : (0 : Int) ≤ (i : Int) - 7 := by omega
        have b7' : (i : Int) - 7 < (i : Int) := by omega
        have t15 : ((i : Int) - 15).toNat = i - 15 := by omega
        have t2 : ((i : Int) - 2).toNat = i - 2 := by omega
        have t16 : ((i : Int) - 16).toNat = i - 16 := by omega
        have t7 : ((i : Int) - 7).toNat = i - 7 := by omega
        obtain ⟨y, hy⟩ : ∃ y, y = x16 + (rotr x15 7 ^^^ rotr x15 18 ^^^ shr x15 3) + x7 + (rotr x2 17 ^^^ rotr x2 19 ^^^ shr x2 10) := ⟨_, rfl⟩
        have HYy := Lib.hid hy
        unfold sg0 sg1 at hnext
        rw [← hy] at hnext
        have haW := w32_addW
        have HNext := Lib.hid hnext
        have HW := Lib.hid hw
        have HX := Lib.hid hx
        clear hnext hw hx hcell hy
        go_wp2
        go_quiet (fail)
        go_wp2
        refine wp_region_held_drew (S := fun W => Below w.heap.size w W ∧ W.cell? ⟨gw, i - 16, none⟩ = some (.int .u32 (n32 x16)) ∧ W.cell? ⟨gw, i - 7, none⟩ = some (.int .u32 (n32 x7))) (by kernel_rfl) ⟨(below_drewN HX.out nq).drew, c16, c7⟩ (fun hHeld => ?_)
        change wpAnyH _ _ _ _ _ _ #[false, false, false, false, false, false, false, false, false, false, false, false, false, false, false, false, false, false, false, false, false, false, false, false, false, false, false, false, false, false, false, false, false] _ _
        refine wpAnyH_take (i := 0) (v := (.slice (some ⟨gw, 0, none⟩) i c)) rfl (by kernel_rfl) (by kernel_rfl) (by kernel_rfl) (fun _ _ _ h => h) (Or.inl ⟨by kernel_rfl, fun w hSw => ?_⟩) (by assumption) ?_
        · (try dsimp only at hSw); go_simp <;> (try simp only [w32_addW, w32_add, w32_xor])
        change wpAnyH _ _ _ _ _ _ _ (Act.put _ (some (49 : Nat)) (.slice (some ⟨gw, 0, none⟩) i c)) _
        simp only [Act.put, List.setIfInBounds_toArray, List.set_cons_zero, List.set_cons_succ]
        refine wpAnyH_take (i := 1) (v := (.slice (some ⟨gw, 0, none⟩) i c)) rfl (by kernel_rfl) (by kernel_rfl) (by kernel_rfl) (fun _ _ _ h => h) (Or.inl ⟨by kernel_rfl, fun w hSw => ?_⟩) (by assumption) ?_
        · (try dsimp only at hSw); go_simp <;> (try simp only [w32_addW, w32_add, w32_xor])
        change wpAnyH _ _ _ _ _ _ _ (Act.put _ (some (50 : Nat)) (.slice (some ⟨gw, 0, none⟩) i c)) _
        simp only [Act.put, List.setIfInBounds_toArray, List.set_cons_zero, List.set_cons_succ]
        refine wpAnyH_take (i := 2) (v := (.int .i64 (i : Int))) rfl (by kernel_rfl) (by kernel_rfl) (by kernel_rfl) (fun _ _ _ h => h) (Or.inl ⟨by kernel_rfl, fun w hSw => ?_⟩) (by assumption) ?_
        · (try dsimp only at hSw); go_simp <;> (try simp only [w32_addW, w32_add, w32_xor])
        change wpAnyH _ _ _ _ _ _ _ (Act.put _ (some (51 : Nat)) (.int .i64 (i : Int))) _
        simp only [Act.put, List.setIfInBounds_toArray, List.set_cons_zero, List.set_cons_succ]
        refine wpAnyH_take (i := 3) (v := (.int .i64 ((i : Int) - 16))) rfl (by kernel_rfl) (by kernel_rfl) (by kernel_rfl) (fun _ _ _ h => h) (Or.inl ⟨by kernel_rfl, fun w hSw => ?_⟩) (by assumption) ?_
        · (try dsimp only at hSw); go_simp <;> (try simp only [w32_addW, w32_add, w32_xor])
        change wpAnyH _ _ _ _ _ _ _ (Act.put _ (some (52 : Nat)) (.int .i64 ((i : Int) - 16))) _
        simp only [Act.put, List.setIfInBounds_toArray, List.set_cons_zero, List.set_cons_succ]
        refine wpAnyH_take (i := 4) (v := (.pointer (some ⟨gw, i - 16, none⟩))) rfl (by kernel_rfl) (by kernel_rfl) (by kernel_rfl) (fun _ _ _ h => h) (Or.inl ⟨by kernel_rfl, fun w hSw => ?_⟩) (by assumption) ?_
        · (try dsimp only at hSw); go_simp <;> (try simp only [w32_addW, w32_add, w32_xor])
        change wpAnyH _ _ _ _ _ _ _ (Act.put _ (some (53 : Nat)) (.pointer (some ⟨gw, i - 16, none⟩))) _
        simp only [Act.put, List.setIfInBounds_toArray, List.set_cons_zero, List.set_cons_succ]
        refine wpAnyH_take (i := 5) (v := (.int .u32 (n32 x16))) rfl (by kernel_rfl) (by kernel_rfl) (by kernel_rfl) (fun _ _ _ h => h) (yields_load_at (by kernel_rfl) 46 (.tmp 53) rfl (.pointer (some ⟨gw, i - 16, none⟩)) (by simp [Act.eval]) (.int .u32 (n32 x16)) (fun W hW => load_one hW.2.1)) (by assumption) ?_
        change wpAnyH _ _ _ _ _ _ _ (Act.put _ (some (54 : Nat)) (.int .u32 (n32 x16))) _
        simp only [Act.put, List.setIfInBounds_toArray, List.set_cons_zero, List.set_cons_succ]
        refine wpAnyH_take (i := 6) (v := (.int .u32 (n32 (x15)))) rfl (by kernel_rfl) (by kernel_rfl) (by kernel_rfl) (fun _ _ _ h => h) (Or.inl ⟨by kernel_rfl, fun w hSw => ?_⟩) (by assumption) ?_
        · (try dsimp only at hSw); go_simp <;> (try simp only [w32_addW, w32_add, w32_xor])
        change wpAnyH _ _ _ _ _ _ _ (Act.put _ (some (55 : Nat)) (.int .u32 (n32 (x15)))) _
        simp only [Act.put, List.setIfInBounds_toArray, List.set_cons_zero, List.set_cons_succ]
        refine wpAnyH_take (i := 8) (v := (.int .u32 (n32 (x15)))) rfl (by kernel_rfl) (by kernel_rfl) (by kernel_rfl) (fun _ _ _ h => h) (Or.inl ⟨by kernel_rfl, fun w hSw => ?_⟩) (by assumption) ?_
        · (try dsimp only at hSw); go_simp <;> (try simp only [w32_addW, w32_add, w32_xor])
        change wpAnyH _ _ _ _ _ _ _ (Act.put _ (some (57 : Nat)) (.int .u32 (n32 (x15)))) _
        simp only [Act.put, List.setIfInBounds_toArray, List.set_cons_zero, List.set_cons_succ]
        refine wpAnyH_take (i := 11) (v := (.int .u32 (n32 (x15)))) rfl (by kernel_rfl) (by kernel_rfl) (by kernel_rfl) (fun _ _ _ h => h) (Or.inl ⟨by kernel_rfl, fun w hSw => ?_⟩) (by assumption) ?_
        · (try dsimp only at hSw); go_simp <;> (try simp only [w32_addW, w32_add, w32_xor])
        change wpAnyH _ _ _ _ _ _ _ (Act.put _ (some (60 : Nat)) (.int .u32 (n32 (x15)))) _
        simp only [Act.put, List.setIfInBounds_toArray, List.set_cons_zero, List.set_cons_succ]
        refine wpAnyH_take (i := 12) (v := (.int .u32 (n32 (shr x15 3)))) rfl (by kernel_rfl) (by kernel_rfl) (by kernel_rfl) (fun _ _ _ h => h) (Or.inl ⟨by kernel_rfl, fun w hSw => ?_⟩) (by assumption) ?_
        · (try dsimp only at hSw); go_simp <;> (try simp only [w32_addW, w32_add, w32_xor])
        change wpAnyH _ _ _ _ _ _ _ (Act.put _ (some (61 : Nat)) (.int .u32 (n32 (shr x15 3)))) _
        simp only [Act.put, List.setIfInBounds_toArray, List.set_cons_zero, List.set_cons_succ]
        refine wpAnyH_take (i := 15) (v := (.slice (some ⟨gw, 0, none⟩) i c)) rfl (by kernel_rfl) (by kernel_rfl) (by kernel_rfl) (fun _ _ _ h => h) (Or.inl ⟨by kernel_rfl, fun w hSw => ?_⟩) (by assumption) ?_
        · (try dsimp only at hSw); go_simp <;> (try simp only [w32_addW, w32_add, w32_xor])
        change wpAnyH _ _ _ _ _ _ _ (Act.put _ (some (64 : Nat)) (.slice (some ⟨gw, 0, none⟩) i c)) _
        simp only [Act.put, List.setIfInBounds_toArray, List.set_cons_zero, List.set_cons_succ]
        refine wpAnyH_take (i := 16) (v := (.int .i64 (i : Int))) rfl (by kernel_rfl) (by kernel_rfl) (by kernel_rfl) (fun _ _ _ h => h) (Or.inl ⟨by kernel_rfl, fun w hSw => ?_⟩) (by assumption) ?_
        · (try dsimp only at hSw); go_simp <;> (try simp only [w32_addW, w32_add, w32_xor])
        change wpAnyH _ _ _ _ _ _ _ (Act.put _ (some (65 : Nat)) (.int .i64 (i : Int))) _
        simp only [Act.put, List.setIfInBounds_toArray, List.set_cons_zero, List.set_cons_succ]
        refine wpAnyH_take (i := 17) (v := (.int .i64 ((i : Int) - 7))) rfl (by kernel_rfl) (by kernel_rfl) (by kernel_rfl) (fun _ _ _ h => h) (Or.inl ⟨by kernel_rfl, fun w hSw => ?_⟩) (by assumption) ?_
        · (try dsimp only at hSw); go_simp <;> (try simp only [w32_addW, w32_add, w32_xor])
        change wpAnyH _ _ _ _ _ _ _ (Act.put _ (some (66 : Nat)) (.int .i64 ((i : Int) - 7))) _
        simp only [Act.put, List.setIfInBounds_toArray, List.set_cons_zero, List.set_cons_succ]
        refine wpAnyH_take (i := 18) (v := (.pointer (some ⟨gw, i - 7, none⟩))) rfl (by kernel_rfl) (by kernel_rfl) (by kernel_rfl) (fun _ _ _ h => h) (Or.inl ⟨by kernel_rfl, fun w hSw => ?_⟩) (by assumption) ?_
        · (try dsimp only at hSw); go_simp <;> (try simp only [w32_addW, w32_add, w32_xor])
        change wpAnyH _ _ _ _ _ _ _ (Act.put _ (some (67 : Nat)) (.pointer (some ⟨gw, i - 7, none⟩))) _
        simp only [Act.put, List.setIfInBounds_toArray, List.set_cons_zero, List.set_cons_succ]
        refine wpAnyH_take (i := 19) (v := (.int .u32 (n32 x7))) rfl (by kernel_rfl) (by kernel_rfl) (by kernel_rfl) (fun _ _ _ h => h) (yields_load_at (by kernel_rfl) 46 (.tmp 67) rfl (.pointer (some ⟨gw, i - 7, none⟩)) (by simp [Act.eval]) (.int .u32 (n32 x7)) (fun W hW => load_one hW.2.2)) (by assumption) ?_
        change wpAnyH _ _ _ _ _ _ _ (Act.put _ (some (68 : Nat)) (.int .u32 (n32 x7))) _
        simp only [Act.put, List.setIfInBounds_toArray, List.set_cons_zero, List.set_cons_succ]
        refine wpAnyH_take (i := 21) (v := (.int .u32 (n32 (x2)))) rfl (by kernel_rfl) (by kernel_rfl) (by kernel_rfl) (fun _ _ _ h => h) (Or.inl ⟨by kernel_rfl, fun w hSw => ?_⟩) (by assumption) ?_
        · (try dsimp only at hSw); go_simp <;> (try simp only [w32_addW, w32_add, w32_xor])
        change wpAnyH _ _ _ _ _ _ _ (Act.put _ (some (70 : Nat)) (.int .u32 (n32 (x2)))) _
        simp only [Act.put, List.setIfInBounds_toArray, List.set_cons_zero, List.set_cons_succ]
        refine wpAnyH_take (i := 23) (v := (.int .u32 (n32 (x2)))) rfl (by kernel_rfl) (by kernel_rfl) (by kernel_rfl) (fun _ _ _ h => h) (Or.inl ⟨by kernel_rfl, fun w hSw => ?_⟩) (by assumption) ?_
        · (try dsimp only at hSw); go_simp <;> (try simp only [w32_addW, w32_add, w32_xor])
        change wpAnyH _ _ _ _ _ _ _ (Act.put _ (some (72 : Nat)) (.int .u32 (n32 (x2)))) _
        simp only [Act.put, List.setIfInBounds_toArray, List.set_cons_zero, List.set_cons_succ]
        refine wpAnyH_take (i := 26) (v := (.int .u32 (n32 (x2)))) rfl (by kernel_rfl) (by kernel_rfl) (by kernel_rfl) (fun _ _ _ h => h) (Or.inl ⟨by kernel_rfl, fun w hSw => ?_⟩) (by assumption) ?_
        · (try dsimp only at hSw); go_simp <;> (try simp only [w32_addW, w32_add, w32_xor])
        change wpAnyH _ _ _ _ _ _ _ (Act.put _ (some (75 : Nat)) (.int .u32 (n32 (x2)))) _
        simp only [Act.put, List.setIfInBounds_toArray, List.set_cons_zero, List.set_cons_succ]
        refine wpAnyH_take (i := 27) (v := (.int .u32 (n32 (shr x2 10)))) rfl (by kernel_rfl) (by kernel_rfl) (by kernel_rfl) (fun _ _ _ h => h) (Or.inl ⟨by kernel_rfl, fun w hSw => ?_⟩) (by assumption) ?_
        · (try dsimp only at hSw); go_simp <;> (try simp only [w32_addW, w32_add, w32_xor])
        change wpAnyH _ _ _ _ _ _ _ (Act.put _ (some (76 : Nat)) (.int .u32 (n32 (shr x2 10)))) _
        simp only [Act.put, List.setIfInBounds_toArray, List.set_cons_zero, List.set_cons_succ]
        refine wpAnyH_ready (rs := [7]) (by kernel_rfl) (by simp) ?_
        refine AllReadyH.cons rfl (fun K hK => ?_) AllReadyH.nil
        go_simp
        refine (rturn_q _ _ (by omega) (by omega) _).mono ?_
        rintro e w' ⟨rfl, rfl⟩
        go_wp2_with fail
        refine hK.out _ _ hHeld (fun hHeld1 => ?_)
        clear hHeld hK K
        have hHeld := hHeld1
        clear hHeld1
        refine wpAnyH_ready (rs := [9]) (by kernel_rfl) (by simp) ?_
        refine AllReadyH.cons rfl (fun K hK => ?_) AllReadyH.nil
        go_simp
        refine (rturn_q _ _ (by omega) (by omega) _).mono ?_
        rintro e w' ⟨rfl, rfl⟩
        go_wp2_with fail
        refine hK.out _ _ hHeld (fun hHeld1 => ?_)
        clear hHeld hK K
        have hHeld := hHeld1
        clear hHeld1
        refine wpAnyH_take (i := 10) (v := (.int .u32 (n32 (rotr x15 7 ^^^ rotr x15 18)))) rfl (by kernel_rfl) (by kernel_rfl) (by kernel_rfl) (fun _ _ _ h => h) (Or.inl ⟨by kernel_rfl, fun w hSw => ?_⟩) (by assumption) ?_
        · (try dsimp only at hSw); go_simp <;> (try simp only [w32_addW, w32_add, w32_xor])
        change wpAnyH _ _ _ _ _ _ _ (Act.put _ (some (59 : Nat)) (.int .u32 (n32 (rotr x15 7 ^^^ rotr x15 18)))) _
        simp only [Act.put, List.setIfInBounds_toArray, List.set_cons_zero, List.set_cons_succ]
        refine wpAnyH_take (i := 13) (v := (.int .u32 (n32 ((rotr x15 7 ^^^ rotr x15 18 ^^^ shr x15 3))))) rfl (by kernel_rfl) (by kernel_rfl) (by kernel_rfl) (fun _ _ _ h => h) (Or.inl ⟨by kernel_rfl, fun w hSw => ?_⟩) (by assumption) ?_
        · (try dsimp only at hSw); go_simp <;> (try simp only [w32_addW, w32_add, w32_xor])
        change wpAnyH _ _ _ _ _ _ _ (Act.put _ (some (62 : Nat)) (.int .u32 (n32 ((rotr x15 7 ^^^ rotr x15 18 ^^^ shr x15 3))))) _
        simp only [Act.put, List.setIfInBounds_toArray, List.set_cons_zero, List.set_cons_succ]
        refine wpAnyH_take (i := 14) (v := (.int .u32 (n32 (x16 + (rotr x15 7 ^^^ rotr x15 18 ^^^ shr x15 3))))) rfl (by kernel_rfl) (by kernel_rfl) (by kernel_rfl) (fun _ _ _ h => h) (Or.inl ⟨by kernel_rfl, fun w hSw => ?_⟩) (by assumption) ?_
        · (try dsimp only at hSw); go_simp <;> (try simp only [w32_addW, w32_add, w32_xor])
        change wpAnyH _ _ _ _ _ _ _ (Act.put _ (some (63 : Nat)) (.int .u32 (n32 (x16 + (rotr x15 7 ^^^ rotr x15 18 ^^^ shr x15 3))))) _
        simp only [Act.put, List.setIfInBounds_toArray, List.set_cons_zero, List.set_cons_succ]
        refine wpAnyH_take (i := 20) (v := (.int .u32 (n32 (x16 + (rotr x15 7 ^^^ rotr x15 18 ^^^ shr x15 3) + x7)))) rfl (by kernel_rfl) (by kernel_rfl) (by kernel_rfl) (fun _ _ _ h => h) (Or.inl ⟨by kernel_rfl, fun w hSw => ?_⟩) (by assumption) ?_
        · (try dsimp only at hSw); go_simp <;> (try simp only [w32_addW, w32_add, w32_xor])
        change wpAnyH _ _ _ _ _ _ _ (Act.put _ (some (69 : Nat)) (.int .u32 (n32 (x16 + (rotr x15 7 ^^^ rotr x15 18 ^^^ shr x15 3) + x7)))) _
        simp only [Act.put, List.setIfInBounds_toArray, List.set_cons_zero, List.set_cons_succ]
        refine wpAnyH_ready (rs := [22]) (by kernel_rfl) (by simp) ?_
        refine AllReadyH.cons rfl (fun K hK => ?_) AllReadyH.nil
        go_simp
        refine (rturn_q _ _ (by omega) (by omega) _).mono ?_
        rintro e w' ⟨rfl, rfl⟩
        go_wp2_with fail
        refine hK.out _ _ hHeld (fun hHeld1 => ?_)
        clear hHeld hK K
        have hHeld := hHeld1
        clear hHeld1
        refine wpAnyH_ready (rs := [24]) (by kernel_rfl) (by simp) ?_
        refine AllReadyH.cons rfl (fun K hK => ?_) AllReadyH.nil
        go_simp
        refine (rturn_q _ _ (by omega) (by omega) _).mono ?_
        rintro e w' ⟨rfl, rfl⟩
        go_wp2_with fail
        refine hK.out _ _ hHeld (fun hHeld1 => ?_)
        clear hHeld hK K
        have hHeld := hHeld1
        clear hHeld1
        refine wpAnyH_take (i := 25) (v := (.int .u32 (n32 (rotr x2 17 ^^^ rotr x2 19)))) rfl (by kernel_rfl) (by kernel_rfl) (by kernel_rfl) (fun _ _ _ h => h) (Or.inl ⟨by kernel_rfl, fun w hSw => ?_⟩) (by assumption) ?_
        · (try dsimp only at hSw); go_simp <;> (try simp only [w32_addW, w32_add, w32_xor])
        change wpAnyH _ _ _ _ _ _ _ (Act.put _ (some (74 : Nat)) (.int .u32 (n32 (rotr x2 17 ^^^ rotr x2 19)))) _
        simp only [Act.put, List.setIfInBounds_toArray, List.set_cons_zero, List.set_cons_succ]
        refine wpAnyH_take (i := 28) (v := (.int .u32 (n32 ((rotr x2 17 ^^^ rotr x2 19 ^^^ shr x2 10))))) rfl (by kernel_rfl) (by kernel_rfl) (by kernel_rfl) (fun _ _ _ h => h) (Or.inl ⟨by kernel_rfl, fun w hSw => ?_⟩) (by assumption) ?_
        · (try dsimp only at hSw); go_simp <;> (try simp only [w32_addW, w32_add, w32_xor])
        change wpAnyH _ _ _ _ _ _ _ (Act.put _ (some (77 : Nat)) (.int .u32 (n32 ((rotr x2 17 ^^^ rotr x2 19 ^^^ shr x2 10))))) _
        simp only [Act.put, List.setIfInBounds_toArray, List.set_cons_zero, List.set_cons_succ]
        refine wpAnyH_take (i := 29) (v := (.int .u32 (n32 (x16 + (rotr x15 7 ^^^ rotr x15 18 ^^^ shr x15 3) + x7 + (rotr x2 17 ^^^ rotr x2 19 ^^^ shr x2 10))))) rfl (by kernel_rfl) (by kernel_rfl) (by kernel_rfl) (fun _ _ _ h => h) (Or.inl ⟨by kernel_rfl, fun w hSw => ?_⟩) (by assumption) ?_
        · (try dsimp only at hSw); go_simp <;> (try simp only [w32_addW, w32_add, w32_xor])
        change wpAnyH _ _ _ _ _ _ _ (Act.put _ (some (78 : Nat)) (.int .u32 (n32 (x16 + (rotr x15 7 ^^^ rotr x15 18 ^^^ shr x15 3) + x7 + (rotr x2 17 ^^^ rotr x2 19 ^^^ shr x2 10))))) _
        simp only [Act.put, List.setIfInBounds_toArray, List.set_cons_zero, List.set_cons_succ]
        refine wpAnyH_ready (rs := [30]) (by kernel_rfl) (by simp) ?_
        refine AllReadyH.cons (o := ⟨some 79, .buildSlice 52 1 #[(0, .tmp 78)], _, _, _, _⟩) rfl (fun K hK => ?_) AllReadyH.nil
        refine step_build_one (by kernel_rfl) 52 (.tmp 78) rfl (.int .u32 (n32 y)) (by rw [← HYy.out]; simp [Act.eval]) _ _ (Tryd.build_one _ _) ?_
        refine hK.out _ _ ⟨hHeld.1.alloc hHeld.1.size _, cell_alloc hHeld.2.1, cell_alloc hHeld.2.2⟩ (fun hHeld1 => ?_)
        clear hHeld hK K
        have hHeld := hHeld1
        clear hHeld1
        change wpAnyH _ _ _ _ _ _ _ (Act.put _ (some (79 : Nat)) (.slice (some ⟨_, 0, none⟩) 1 1)) _
        simp only [Act.put, List.setIfInBounds_toArray, List.set_cons_zero, List.set_cons_succ]
        refine wpAnyH_ready (rs := [31]) (by kernel_rfl) (by simp) ?_
        refine AllReadyH.cons (o := ⟨some 80, .call { callee := .builtin .append, args := #[.tmp 49, .tmp 79], argTypes := #[52, 52] }, _, _, _, _⟩) rfl (fun K hK => ?_) AllReadyH.nil
        refine step_append_keep (by kernel_rfl) (.tmp 49) (.tmp 79) 52 rfl w.heap.size i0 Tryd.underlying52 hi hz0 hz1 hz2 gw i c (wds b i) (by simp [Act.eval]) (World.ownsRow.alloc (w := (wr.drewN nq).drew) HW.out _) _ 1 y (by simp [Act.eval]) (Blk.new_cell _ _ _) (by omega) hHeld.1.size ?_; intro A9 c9 w9 h9 hg9 hk9; have O9 := Lib.hid h9; have HX9 := Lib.hid (hHeld.1.grown hg9 hHeld.1.size (fun g hg => Option.some.inj hg ▸ (HW.out.lt gw rfl).1)); have K16 := Lib.hid ((hk9 (i - 16) (by omega)).trans hHeld.2.1); have K7 := Lib.hid ((hk9 (i - 7) (by omega)).trans hHeld.2.2); clear h9 hg9 hk9
        refine hK.out _ _ ⟨HX9.out, K16.out, K7.out⟩ (fun hHeld1 => ?_)
        clear hHeld hK K
        have hHeld := hHeld1
        clear hHeld1
        change wpAnyH _ _ _ _ _ _ _ (Act.put _ (some (80 : Nat)) (.slice A9 (i + 1) c9)) _
        simp only [Act.put, List.setIfInBounds_toArray, List.set_cons_zero, List.set_cons_succ]
        refine wpAnyH_take (i := 32) (v := (.slice A9 (i + 1) c9)) rfl (by kernel_rfl) (by kernel_rfl) (by kernel_rfl) (fun _ _ _ h => h) (Or.inl ⟨by kernel_rfl, fun w hSw => ?_⟩) (by assumption) ?_
        · (try dsimp only at hSw); go_simp <;> (try simp only [w32_addW, w32_add, w32_xor])
        change wpAnyH _ _ _ _ _ _ _ (Act.put _ (some (7 : Nat)) (.slice A9 (i + 1) c9)) _
        simp only [Act.put, List.setIfInBounds_toArray, List.set_cons_zero, List.set_cons_succ]
        refine wpAnyH_done (by kernel_rfl) ?_ _
        go_wp2
        go_roundw
        case rel => exact ⟨i + 1, A9, c9, by omega, by go_num, rfl, by rw [HNext.out]; exact O9.out, HX9.out⟩
        case measure => simp [intOf]; omega
    · as_aux_lemma =>
      obtain ⟨wz, rfl⟩ : ∃ wz : World, wz = wr := ⟨_, rfl⟩
      have e64 : i = 64 := by omega
      obtain ⟨gw, rfl, hcell⟩ := own_cells hw (by omega)
      rw [e64] at hcell
      clear e64
      obtain ⟨ws, hws⟩ : ∃ ws, ws = wds b 64 := ⟨_, rfl⟩
      rw [← hws] at hcell
      have HWs := Lib.hid hws
      clear hws
      have hx1 := hx.size
      have HC := Lib.hid hcell
      have HX := Lib.hid hx
      have HH1 := Lib.hid (HHh.out.through hx)
      have HK1 := Lib.hid (HKk.out.through hx)
      have hgw := (hw.lt gw rfl).2
      have HGw := Lib.hid hgw
      clear hw hx hcell hgw
      go_wp2_with (at_builtin; refine wpList_append_ws rfl (.tmp 81) (.tmp 82) 52 rfl wz.heap.size i0 Tryd.underlying52 hi hz0 hz1 hz2 _ 0 [] rfl (own_made32 _) Qh Ah 8 ch s.list rfl (HH1.out.through ((Below.refl _ _).alloc (Nat.le_refl _) _)) (by omega) (by omega) (by simp) ?_; intro g5 c5 w5 hok hg5 hc5 hm5; have HX5 := Lib.hid (((Below.refl _ wz).alloc (Nat.le_refl _) _).grown hg5 (by simp) (fun g hg => by have := (own_made32 wz).lt g hg; exact this.1)); have HO5 : Hid (OwnV w5 wz.heap.size (.slice (some ⟨g5, 0, none⟩) 8 c5) 8 s.list) := Lib.hid hok; clear hok hg5)
      go_loopw [12, 13] (fun vv iv wr => ∃ (j : Nat) (gv cv : Nat) (q : S8), j ≤ 64 ∧ iv = .int .i64 j ∧ vv = .slice (some ⟨gv, 0, none⟩) 8 cv ∧ q = rounds ws s j ∧ OwnV wr wz.heap.size (.slice (some ⟨gv, 0, none⟩) 8 cv) 8 q.list ∧ 8 ≤ cv ∧ Below wz.heap.size wz wr) (fun _ iv _ => 64 - (intOf iv).toNat)
      case atStart => exact ⟨0, g5, c5, s, by omega, rfl, rfl, rfl, HO5.out, hc5, HX5.out⟩
      case round =>
        obtain ⟨j, gv, cv, q, hj, rfl, rfl, hq, ho, hcv, hy⟩ := hrel
        clear HO5 HX5
        by_cases hltj : j < 64
        · as_aux_lemma =>
          obtain ⟨g', eg, hv⟩ := own_cells ho (by omega)
          injection eg with eg
          injection eg with eg
          subst eg
          have v0 : wr.cell? ⟨gv, 0, none⟩ = some (.int .u32 (n32 q.a)) := hv 0 (by omega)
          have v1 : wr.cell? ⟨gv, 1, none⟩ = some (.int .u32 (n32 q.b)) := hv 1 (by omega)
          have v2 : wr.cell? ⟨gv, 2, none⟩ = some (.int .u32 (n32 q.c)) := hv 2 (by omega)
          have v3 : wr.cell? ⟨gv, 3, none⟩ = some (.int .u32 (n32 q.d)) := hv 3 (by omega)
          have v4 : wr.cell? ⟨gv, 4, none⟩ = some (.int .u32 (n32 q.e)) := hv 4 (by omega)
          have v5 : wr.cell? ⟨gv, 5, none⟩ = some (.int .u32 (n32 q.f)) := hv 5 (by omega)
          have v6 : wr.cell? ⟨gv, 6, none⟩ = some (.int .u32 (n32 q.g)) := hv 6 (by omega)
          have v7 : wr.cell? ⟨gv, 7, none⟩ = some (.int .u32 (n32 q.h)) := hv 7 (by omega)
          have hcw : wr.cell? ⟨gw, j, none⟩ = some (.int .u32 (n32 (ws.getD j 0))) := (World.cell?_of_block (a := ⟨gw, j, none⟩) (hy.block gw HGw.out)).trans (HC.out j hltj)
          obtain ⟨gk, ok, rfl, _, hckA⟩ := (HK1.out.through hy).cell (by omega)
          have hck := hckA j hltj
          clear hckA
          have hnext : rounds ws s (j + 1) = rnd (kTab.getD j 0) (ws.getD j 0) q := by rw [rounds, hq]
          generalize kTab.getD j 0 = kk at hck hnext
          generalize ws.getD j 0 = ww at hcw hnext
          have hand := w32_and
          have hor := w32_or
          have hadd := w32_add
          have hnot := w32_not'
          have hcho : ∀ e f g : UInt32, (e &&& f) ||| (~~~e &&& g) = choose e f g := fun _ _ _ => rfl
          have hmos : ∀ a b c : UInt32, (a &&& b) ||| (a &&& c) ||| (b &&& c) = most a b c := fun _ _ _ => rfl
          have HNext := Lib.hid hnext
          have HO := Lib.hid ho
          have HY := Lib.hid hy
          clear hnext ho hy hv hq
          go_wp2
          go_quiet ((go_at_call 50; exact Calls.quiet_of_same (rthree_q _ _ _ _ ⟨by omega, by omega⟩ ⟨by omega, by omega⟩ ⟨by omega, by omega⟩ _)))
          go_wp2
          rw [w32_add4]
          obtain ⟨wm, hwm⟩ : ∃ wm, wm = wr.drewN nq := ⟨_, rfl⟩
          have u0 : wm.cell? ⟨gv, 0, none⟩ = some (.int .u32 (n32 q.a)) := by rw [hwm]; exact v0
          have u1 : wm.cell? ⟨gv, 1, none⟩ = some (.int .u32 (n32 q.b)) := by rw [hwm]; exact v1
          have u2 : wm.cell? ⟨gv, 2, none⟩ = some (.int .u32 (n32 q.c)) := by rw [hwm]; exact v2
          have HO' : Hid (OwnV wm wz.heap.size (.slice (some ⟨gv, 0, none⟩) 8 cv) 8 q.list) := Lib.hid (by rw [hwm]; exact HO.out)
          have HY' : Hid (Below wz.heap.size wz wm) := Lib.hid (by rw [hwm]; exact below_drewN HY.out _)
          rw [← hwm]
          clear hwm v0 v1 v2 v3 v4 v5 v6 v7 hcw hck HO HY
          go_quiet ((go_at_call 50; exact Calls.quiet_of_same (rthree_q _ _ _ _ ⟨by omega, by omega⟩ ⟨by omega, by omega⟩ ⟨by omega, by omega⟩ _)))
          rw [w32_add]
          have hwd7 := (Wd.of_own HO'.out).take (k := 7) (by omega)
          have HW7 := Lib.hid hwd7
          clear hwd7 u0 u1 u2
          obtain ⟨x, hx⟩ : ∃ x, x = q.h + three q.e 6 11 25 + choose q.e q.f q.g + kk + ww + (three q.a 2 13 22 + most q.a q.b q.c) := ⟨_, rfl⟩
          have HXx := Lib.hid hx
          clear hx
          go_wp2_with (at_builtin; refine wpList_append_ws rfl (.tmp 154) (.tmp 156) 52 rfl wz.heap.size i0 Tryd.underlying52 hi hz0 hz1 hz2 (.slice (some ⟨wm.heap.size, 0, none⟩) 1 1) 1 [x] rfl (by rw [HXx.out]; exact own_one32 (wm.drewN nq) _ HY'.out.size) (fun g => wz.heap.size ≤ g ∧ g < wm.heap.size) (some ⟨gv, 0, none⟩) 7 cv (q.list.take 7) rfl (Wd.through (w := wm.drewN nq) HW7.out ((Below.refl _ _).alloc (Nat.le_refl _) _)) (by omega) (by omega) (by have := HY'.out.size; simp; omega) ?_; intro g7 c7 w7 hok hg7 hc7 hm7; have hok7 : OwnV w7 wz.heap.size (.slice (some ⟨g7, 0, none⟩) 8 c7) 8 [x, q.a, q.b, q.c, q.d, q.e, q.f, q.g] := hok; have d4 : w7.cell? ⟨g7, 4, none⟩ = some (.int .u32 (n32 q.d)) := (hok7.cellAt (g := g7) 4 (by omega)).trans rfl; have f4 : w7.frozen? ⟨g7, 4, none⟩ = false := hok7.frozenAt (g := g7) 4; have HX7 := Lib.hid (((below_drewN HY'.out nq).alloc HY'.out.size _).grown hg7 (Nat.le_trans HY'.out.size (by simp)) (fun g hg => Option.some.inj hg ▸ HY'.out.size)); have HO7 := Lib.hid hok7; clear hok hok7 hg7)
          go_roundw
          case rel =>
            have hs := HO7.out.stored 4 (c32 (q.d + (q.h + three q.e 6 11 25 + choose q.e q.f q.g + kk + ww)))
            refine ⟨j + 1, g7, c7, rnd kk ww q, by omega, by go_num, rfl, HNext.out.symm, ?_, hc7, HX7.out.setCell (HO7.out.lt g7 rfl).1 _⟩
            rw [rnd_list, ← HXx.out]
            exact hs.1
          case measure => simp [intOf]; omega
        · as_aux_lemma =>
          have e64 : j = 64 := by omega
          have HR : Hid (q = rounds ws s 64) := Lib.hid (by rw [hq, e64])
          clear hq e64
          have HO := Lib.hid ho
          have HY := Lib.hid hy
          clear ho hy
          go_wp2
          obtain ⟨wy, rfl⟩ : ∃ wy : World, wy = wr := ⟨_, rfl⟩
          have hlen8 : (s.plus q).list.length = 8 := rfl
          go_loopw [16, 167] (fun ov iv wr => ∃ (n : Nat) (A : Option Addr) (c : Nat), n ≤ 8 ∧ iv = .int .i64 n ∧ ov = .slice A n c ∧ OwnV wr wy.heap.size (.slice A n c) n ((s.plus q).list.take n) ∧ Below wy.heap.size wy wr) (fun _ iv _ => 8 - (intOf iv).toNat)
          case atStart => exact ⟨0, none, 0, by omega, rfl, rfl, World.ownsRow_nil _ _ _ _, Below.refl _ _⟩
          case round =>
            obtain ⟨n, A, c, hn, rfl, rfl, hov, hz⟩ := hrel
            by_cases hlt8 : n < 8
            · as_aux_lemma =>
              obtain ⟨g', eg, hv⟩ := own_cells HO.out (by omega)
              injection eg with eg
              injection eg with eg
              subst eg
              have hgv : gv < wy.heap.size := (HO.out.lt gv rfl).2
              have hcv0 := hv n hlt8
              have hcv2 : wr.cell? ⟨gv, n, none⟩ = some (.int .u32 (n32 (q.list.getD n 0))) := (World.cell?_of_block (a := ⟨gv, n, none⟩) (hz.block gv hgv)).trans hcv0
              obtain ⟨gk, ok, rfl, ⟨_, hgk⟩, hckA⟩ := (HH1.out.through HY.out).lt.cell (by omega)
              have hck0 := hckA n hlt8
              have hck := (World.cell?_of_block (a := ⟨gk, ok + n, none⟩) (hz.block gk hgk)).trans hck0
              clear hckA hv
              have hnext : (s.plus q).list.take (n + 1) = (s.plus q).list.take n ++ [s.list.getD n 0 + q.list.getD n 0] := by
                have : n = 0 ∨ n = 1 ∨ n = 2 ∨ n = 3 ∨ n = 4 ∨ n = 5 ∨ n = 6 ∨ n = 7 := by omega
                rcases this with h | h | h | h | h | h | h | h <;> subst h <;> rfl
              have hln : ((s.plus q).list.take n).length = n := by rw [List.length_take]; omega
              generalize s.list.getD n 0 = x1 at hck hck0 hnext
              generalize q.list.getD n 0 = x2 at hcv2 hcv0 hnext
              have hadd := w32_add
              have HOv := Lib.hid hov
              have HZ := Lib.hid hz
              have HNext := Lib.hid hnext
              clear hov hz hnext
              go_wp2
              refine wp_region_held_drew (S := fun W => Below wy.heap.size wy W ∧ W.cell? ⟨gk, ok + n, none⟩ = some (.int .u32 (n32 x1)) ∧ W.cell? ⟨gv, n, none⟩ = some (.int .u32 (n32 x2))) (by kernel_rfl) ⟨HZ.out.drew, hck, hcv2⟩ (fun hHeld => ?_)
              change wpAnyH _ _ _ _ _ _ #[false, false, false, false, false, false, false, false, false, false, false, false, false] _ _
              refine wpAnyH_take (i := 0) (v := (.slice A n c)) rfl (by kernel_rfl) (by kernel_rfl) (by kernel_rfl) (fun _ _ _ h => h) (Or.inl ⟨by kernel_rfl, fun w hSw => ?_⟩) (by assumption) ?_
              · (try dsimp only at hSw); go_simp <;> (try simp only [w32_addW])
              change wpAnyH _ _ _ _ _ _ _ (Act.put _ (some (170 : Nat)) (.slice A n c)) _
              simp only [Act.put, List.setIfInBounds_toArray, List.set_cons_zero, List.set_cons_succ]
              refine wpAnyH_take (i := 1) (v := (.slice (some ⟨gk, ok, none⟩) 8 ch)) rfl (by kernel_rfl) (by kernel_rfl) (by kernel_rfl) (fun _ _ _ h => h) (Or.inl ⟨by kernel_rfl, fun w hSw => ?_⟩) (by assumption) ?_
              · (try dsimp only at hSw); go_simp <;> (try simp only [w32_addW])
              change wpAnyH _ _ _ _ _ _ _ (Act.put _ (some (171 : Nat)) (.slice (some ⟨gk, ok, none⟩) 8 ch)) _
              simp only [Act.put, List.setIfInBounds_toArray, List.set_cons_zero, List.set_cons_succ]
              refine wpAnyH_take (i := 2) (v := (.int .i64 (n : Int))) rfl (by kernel_rfl) (by kernel_rfl) (by kernel_rfl) (fun _ _ _ h => h) (Or.inl ⟨by kernel_rfl, fun w hSw => ?_⟩) (by assumption) ?_
              · (try dsimp only at hSw); go_simp <;> (try simp only [w32_addW])
              change wpAnyH _ _ _ _ _ _ _ (Act.put _ (some (172 : Nat)) (.int .i64 (n : Int))) _
              simp only [Act.put, List.setIfInBounds_toArray, List.set_cons_zero, List.set_cons_succ]
              refine wpAnyH_take (i := 3) (v := (.pointer (some ⟨gk, ok + n, none⟩))) rfl (by kernel_rfl) (by kernel_rfl) (by kernel_rfl) (fun _ _ _ h => h) (Or.inl ⟨by kernel_rfl, fun w hSw => ?_⟩) (by assumption) ?_
              · (try dsimp only at hSw); go_simp <;> (try simp only [w32_addW])
              change wpAnyH _ _ _ _ _ _ _ (Act.put _ (some (173 : Nat)) (.pointer (some ⟨gk, ok + n, none⟩))) _
              simp only [Act.put, List.setIfInBounds_toArray, List.set_cons_zero, List.set_cons_succ]
              refine wpAnyH_take (i := 4) (v := (.int .u32 (n32 x1))) rfl (by kernel_rfl) (by kernel_rfl) (by kernel_rfl) (fun _ _ _ h => h) (yields_load_at (by kernel_rfl) 46 (.tmp 173) rfl (.pointer (some ⟨gk, ok + n, none⟩)) (by simp [Act.eval]) (.int .u32 (n32 x1)) (fun W hW => load_one hW.2.1)) (by assumption) ?_
              change wpAnyH _ _ _ _ _ _ _ (Act.put _ (some (174 : Nat)) (.int .u32 (n32 x1))) _
              simp only [Act.put, List.setIfInBounds_toArray, List.set_cons_zero, List.set_cons_succ]
              refine wpAnyH_take (i := 5) (v := (.slice (some ⟨gv, 0, none⟩) 8 cv)) rfl (by kernel_rfl) (by kernel_rfl) (by kernel_rfl) (fun _ _ _ h => h) (Or.inl ⟨by kernel_rfl, fun w hSw => ?_⟩) (by assumption) ?_
              · (try dsimp only at hSw); go_simp <;> (try simp only [w32_addW])
              change wpAnyH _ _ _ _ _ _ _ (Act.put _ (some (175 : Nat)) (.slice (some ⟨gv, 0, none⟩) 8 cv)) _
              simp only [Act.put, List.setIfInBounds_toArray, List.set_cons_zero, List.set_cons_succ]
              refine wpAnyH_take (i := 6) (v := (.int .i64 (n : Int))) rfl (by kernel_rfl) (by kernel_rfl) (by kernel_rfl) (fun _ _ _ h => h) (Or.inl ⟨by kernel_rfl, fun w hSw => ?_⟩) (by assumption) ?_
              · (try dsimp only at hSw); go_simp <;> (try simp only [w32_addW])
              change wpAnyH _ _ _ _ _ _ _ (Act.put _ (some (176 : Nat)) (.int .i64 (n : Int))) _
              simp only [Act.put, List.setIfInBounds_toArray, List.set_cons_zero, List.set_cons_succ]
              refine wpAnyH_take (i := 7) (v := (.pointer (some ⟨gv, n, none⟩))) rfl (by kernel_rfl) (by kernel_rfl) (by kernel_rfl) (fun _ _ _ h => h) (Or.inl ⟨by kernel_rfl, fun w hSw => ?_⟩) (by assumption) ?_
              · (try dsimp only at hSw); go_simp <;> (try simp only [w32_addW])
              change wpAnyH _ _ _ _ _ _ _ (Act.put _ (some (177 : Nat)) (.pointer (some ⟨gv, n, none⟩))) _
              simp only [Act.put, List.setIfInBounds_toArray, List.set_cons_zero, List.set_cons_succ]
              refine wpAnyH_take (i := 8) (v := (.int .u32 (n32 x2))) rfl (by kernel_rfl) (by kernel_rfl) (by kernel_rfl) (fun _ _ _ h => h) (yields_load_at (by kernel_rfl) 46 (.tmp 177) rfl (.pointer (some ⟨gv, n, none⟩)) (by simp [Act.eval]) (.int .u32 (n32 x2)) (fun W hW => load_one hW.2.2)) (by assumption) ?_
              change wpAnyH _ _ _ _ _ _ _ (Act.put _ (some (178 : Nat)) (.int .u32 (n32 x2))) _
              simp only [Act.put, List.setIfInBounds_toArray, List.set_cons_zero, List.set_cons_succ]
              refine wpAnyH_take (i := 9) (v := (.int .u32 (n32 (x1 + x2)))) rfl (by kernel_rfl) (by kernel_rfl) (by kernel_rfl) (fun _ _ _ h => h) (Or.inl ⟨by kernel_rfl, fun w hSw => ?_⟩) (by assumption) ?_
              · (try dsimp only at hSw); go_simp <;> (try simp only [w32_addW])
              change wpAnyH _ _ _ _ _ _ _ (Act.put _ (some (179 : Nat)) (.int .u32 (n32 (x1 + x2)))) _
              simp only [Act.put, List.setIfInBounds_toArray, List.set_cons_zero, List.set_cons_succ]
              refine wpAnyH_ready (rs := [10]) (by kernel_rfl) (by simp) ?_
              refine AllReadyH.cons (o := ⟨some 180, .buildSlice 52 1 #[(0, .tmp 179)], _, _, _, _⟩) rfl (fun K hK => ?_) AllReadyH.nil
              refine step_build_one (by kernel_rfl) 52 (.tmp 179) rfl (.int .u32 (n32 (x1 + x2))) (by simp [Act.eval]) _ _ (Tryd.build_one _ _) ?_
              refine hK.out _ _ ⟨hHeld.1.alloc hHeld.1.size _, cell_alloc hHeld.2.1, cell_alloc hHeld.2.2⟩ (fun hHeld1 => ?_)
              clear hHeld hK K
              have hHeld := hHeld1
              clear hHeld1
              change wpAnyH _ _ _ _ _ _ _ (Act.put _ (some (180 : Nat)) (.slice (some ⟨_, 0, none⟩) 1 1)) _
              simp only [Act.put, List.setIfInBounds_toArray, List.set_cons_zero, List.set_cons_succ]
              refine wpAnyH_ready (rs := [11]) (by kernel_rfl) (by simp) ?_
              refine AllReadyH.cons (o := ⟨some 181, .call { callee := .builtin .append, args := #[.tmp 170, .tmp 180], argTypes := #[52, 52] }, _, _, _, _⟩) rfl (fun K hK => ?_) AllReadyH.nil
              refine step_append_w rfl (.tmp 170) (.tmp 180) 52 rfl wy.heap.size i0 Tryd.underlying52 hi hz0 hz1 hz2 (.slice A n c) n ((s.plus q).list.take n) (by simp [Act.eval]) (World.ownsRow.alloc (w := wr.drew) HOv.out _) _ 1 (x1 + x2) (by simp [Act.eval]) (Blk.new_cell _ _ _) (by omega) hHeld.1.size ?_; intro g6 c6 w6 h6 hg6; have HO6 := Lib.hid h6; have HX6 := Lib.hid (hHeld.1.grown hg6 hHeld.1.size (fun g hg => (HOv.out.lt g hg).1)); have K1 := Lib.hid ((World.cell?_of_block (a := ⟨gk, ok + n, none⟩) (HX6.out.block gk hgk)).trans hck0); have K2 := Lib.hid ((World.cell?_of_block (a := ⟨gv, n, none⟩) (HX6.out.block gv hgv)).trans hcv0); clear h6 hg6
              refine hK.out _ _ ⟨HX6.out, K1.out, K2.out⟩ (fun hHeld1 => ?_)
              clear hHeld hK K
              have hHeld := hHeld1
              clear hHeld1
              change wpAnyH _ _ _ _ _ _ _ (Act.put _ (some (181 : Nat)) (.slice (some ⟨g6, 0, none⟩) (n + 1) c6)) _
              simp only [Act.put, List.setIfInBounds_toArray, List.set_cons_zero, List.set_cons_succ]
              refine wpAnyH_take (i := 12) (v := (.slice (some ⟨g6, 0, none⟩) (n + 1) c6)) rfl (by kernel_rfl) (by kernel_rfl) (by kernel_rfl) (fun _ _ _ h => h) (Or.inl ⟨by kernel_rfl, fun w hSw => ?_⟩) (by assumption) ?_
              · (try dsimp only at hSw); go_simp <;> (try simp only [w32_addW])
              change wpAnyH _ _ _ _ _ _ _ (Act.put _ (some (16 : Nat)) (.slice (some ⟨g6, 0, none⟩) (n + 1) c6)) _
              simp only [Act.put, List.setIfInBounds_toArray, List.set_cons_zero, List.set_cons_succ]
              refine wpAnyH_done (by kernel_rfl) ?_ _
              go_wp2
              go_roundw
              case rel => exact ⟨n + 1, some ⟨g6, 0, none⟩, c6, by omega, by go_num, rfl, by rw [HNext.out]; exact HO6.out, HX6.out⟩
              case measure => simp [intOf]; omega
            · as_aux_lemma =>
              have e8 : n = 8 := by omega
              subst e8
              have hp : (s.plus q).list.take 8 = (press s b).list := by rw [press, mixed, ← HWs.out, ← HR.out]; rfl
              rw [hp] at hov
              have hy1 := HX.out.size
              have hy2 := HY.out.size
              have HOv := Lib.hid (World.ownsRow.mono hov (Nat.le_trans hy1 hy2))
              have HZ := Lib.hid ((HX.out.trans (HY.out.mono hy1)).trans (hz.mono (Nat.le_trans hy1 hy2)))
              clear hov hz hp
              go_wp2
              go_ret
              exact ⟨A, c, rfl, HOv.out, HZ.out⟩

end Go.Proofs.YtolildehdibpbaaDoor
