/-
  The program's book: tags.
-/
import Derived.Test.YtgbobemhogeeeaaOrdT
import Derived.Test.YtgbobemhogeeeaaNumb
import Derived.Laws.Cover3
import Derived.WideLaws
import Derived.RegionTactic
import Derived.ChangeAlike
import Derived.StillTailTactics
import Derived.Deep.QuietTactic
import Derived.Outline
namespace Go.Proofs.Ytgbobemhogeeeaa
open Go.RowKit

theorem str_any (Q : Nat → Prop) {A : Option Addr} {n : Nat} (c : Nat) {t : List UInt8} {W : World} (h : By W Q A n t) : (convert 40 9 (.slice A n c)).run Try.prog W = .ok (.string ⟨t.toArray⟩) W :=
  run_string_by W 40 9 5 Try.underlying40 Try.underlying5 Try.underlying9 Q A n c t h
theorem Try.agg_u8 (w : World) : (isAgg 5).run Try.prog w = .ok false w := by kernel_rfl
theorem tag_eql (xs ys : List UInt8) (hx : xs.length = 32) (hy : ys.length = 32) (w : World) : (binOp .eql 73 (.agg (vs xs).toArray) (.agg (vs ys).toArray)).run Try.prog w = .ok (.bool (xs == ys)) w :=
  run_eql_bytes w 73 5 32 Try.underlying73 Try.underlying5 (by kernel_rfl) (by kernel_rfl) xs ys hx hy

set_option maxHeartbeats 4000000 in
set_option maxRecDepth 100000 in
theorem made_at (Q : Nat → Prop) (g : Nat) (a b : Int) (t : List UInt8) (A : Option Addr) (n c : Nat) (m1 m2 : Option Nat) (lv : Int) (bb : Bool) (w : World) (hb : Blk w g 106 [.map m1, .map m2]) (_hml : ∀ r, m2 = some r → r < w.heap.size) (hby : By w Q A n t)
    (hlk : ∀ W', (∀ r, m2 = some r → W'.heap[r]? = w.heap[r]?) → (Instr.lookup 104 (.map m2) (.agg #[.int .i64 a, .int .i64 b, .string ⟨t.toArray⟩]) true).run Try.prog W' = .ok (.tuple #[.int .u64 lv, .bool bb]) W') :
    Calls Try.prog 119 #[.pointer (some ⟨g, 0, none⟩), .int .i64 a, .int .i64 b, .slice A n c] w fun e w' => e = .returned (.tuple #[.int .u64 lv, .bool bb]) ∧ Below w.heap.size w w' := by
  have HB := Lib.hid hb
  have HBy := Lib.hid hby
  have HLk := Lib.hid hlk
  obtain ⟨s, hs⟩ : ∃ s : ByteArray, s = ⟨t.toArray⟩ := ⟨_, rfl⟩
  have hcv : ∀ W, By W Q A n t → (convert 40 9 (.slice A n c)).run Try.prog W = .ok (.string s) W := fun W h => by rw [hs]; exact str_any Q c h
  have HCv := Lib.hid hcv
  rw [← hs] at HLk
  clear hb hby hlk hs hcv
  go_enter Try.func119, Try.ntmps119
  go_wp2
  try dsimp only [Act.put]
  refine wp_region_held_drew (S := fun W => Blk W g 106 [.map m1, .map m2] ∧ By W Q A n t ∧ (∀ r, m2 = some r → W.heap[r]? = w.heap[r]?)) (by kernel_rfl) ⟨HB.out.drew, HBy.out.drew, fun _ _ => rfl⟩ (fun hHeld => ?_)
  change wpAnyH _ _ _ _ _ _ #[false, false, false, false, false, false, false, false, false, false, false, false, false, false, false] _ _
  refine wpAnyH_take (i := 0) (v := (.pointer (some ⟨g, 0, none⟩))) rfl (by kernel_rfl) (by kernel_rfl) (by kernel_rfl) (fun _ _ _ h => h) (Or.inl ⟨by kernel_rfl, fun w hSw => ?_⟩) (by assumption) ?_
  · (try dsimp only at hSw); go_simp <;> (try rfl)
  change wpAnyH _ _ _ _ _ _ _ (Act.put _ (some (15 : Nat)) (.pointer (some ⟨g, 0, none⟩))) _
  simp only [Act.put, List.setIfInBounds_toArray, List.set_cons_zero, List.set_cons_succ]
  refine wpAnyH_take (i := 1) (v := (.pointer (some ⟨g, 0, none⟩))) rfl (by kernel_rfl) (by kernel_rfl) (by kernel_rfl) (fun _ _ _ h => h) (Or.inl ⟨by kernel_rfl, fun w hSw => ?_⟩) (by assumption) ?_
  · (try dsimp only at hSw); go_simp <;> (try rfl)
  change wpAnyH _ _ _ _ _ _ _ (Act.put _ (some (16 : Nat)) (.pointer (some ⟨g, 0, none⟩))) _
  simp only [Act.put, List.setIfInBounds_toArray, List.set_cons_zero, List.set_cons_succ]
  refine wpAnyH_take (i := 2) (v := (.pointer (some ⟨g, 1, none⟩))) rfl (by kernel_rfl) (by kernel_rfl) (by kernel_rfl) (fun _ _ _ h => h) (Or.inl ⟨by kernel_rfl, fun w hSw => ?_⟩) (by assumption) ?_
  · (try dsimp only at hSw); go_simp <;> (try rfl)
  change wpAnyH _ _ _ _ _ _ _ (Act.put _ (some (17 : Nat)) (.pointer (some ⟨g, 1, none⟩))) _
  simp only [Act.put, List.setIfInBounds_toArray, List.set_cons_zero, List.set_cons_succ]
  refine wpAnyH_take (i := 3) (v := (.map m2)) rfl (by kernel_rfl) (by kernel_rfl) (by kernel_rfl) (fun _ _ _ h => h) (yields_load_at (by kernel_rfl) 104 (.tmp 17) rfl (.pointer (some ⟨g, 1, none⟩)) (by simp [Act.eval]) (.map m2) (fun W hW => load_one' (Try.agg_mapT W) (hW.1.cellAt rfl))) (by assumption) ?_
  change wpAnyH _ _ _ _ _ _ _ (Act.put _ (some (18 : Nat)) (.map m2)) _
  simp only [Act.put, List.setIfInBounds_toArray, List.set_cons_zero, List.set_cons_succ]
  refine wpAnyH_take (i := 4) (v := (.int .i64 a)) rfl (by kernel_rfl) (by kernel_rfl) (by kernel_rfl) (fun _ _ _ h => h) (Or.inl ⟨by kernel_rfl, fun w hSw => ?_⟩) (by assumption) ?_
  · (try dsimp only at hSw); go_simp <;> (try rfl)
  change wpAnyH _ _ _ _ _ _ _ (Act.put _ (some (19 : Nat)) (.int .i64 a)) _
  simp only [Act.put, List.setIfInBounds_toArray, List.set_cons_zero, List.set_cons_succ]
  refine wpAnyH_take (i := 5) (v := (.int .i64 b)) rfl (by kernel_rfl) (by kernel_rfl) (by kernel_rfl) (fun _ _ _ h => h) (Or.inl ⟨by kernel_rfl, fun w hSw => ?_⟩) (by assumption) ?_
  · (try dsimp only at hSw); go_simp <;> (try rfl)
  change wpAnyH _ _ _ _ _ _ _ (Act.put _ (some (20 : Nat)) (.int .i64 b)) _
  simp only [Act.put, List.setIfInBounds_toArray, List.set_cons_zero, List.set_cons_succ]
  refine wpAnyH_take (i := 6) (v := (.slice A n c)) rfl (by kernel_rfl) (by kernel_rfl) (by kernel_rfl) (fun _ _ _ h => h) (Or.inl ⟨by kernel_rfl, fun w hSw => ?_⟩) (by assumption) ?_
  · (try dsimp only at hSw); go_simp <;> (try rfl)
  change wpAnyH _ _ _ _ _ _ _ (Act.put _ (some (21 : Nat)) (.slice A n c)) _
  simp only [Act.put, List.setIfInBounds_toArray, List.set_cons_zero, List.set_cons_succ]
  refine wpAnyH_take (i := 7) (v := (.string s)) rfl (by kernel_rfl) (by kernel_rfl) (by kernel_rfl) (fun _ _ _ h => h) (yields_conv (by kernel_rfl) 40 9 (.tmp 21) rfl (.slice A n c) (by simp [Act.eval]) (.string s) (fun W hW => HCv.out W hW.2.1)) (by assumption) ?_
  change wpAnyH _ _ _ _ _ _ _ (Act.put _ (some (22 : Nat)) (.string s)) _
  simp only [Act.put, List.setIfInBounds_toArray, List.set_cons_zero, List.set_cons_succ]
  refine wpAnyH_take (i := 8) (v := (.agg #[.int .i64 a, .int .i64 b, .string s])) rfl (by kernel_rfl) (by kernel_rfl) (by kernel_rfl) (fun _ _ _ h => h) (Or.inl ⟨by kernel_rfl, fun w hSw => ?_⟩) (by assumption) ?_
  · (try dsimp only at hSw); go_simp <;> (try rfl)
  change wpAnyH _ _ _ _ _ _ _ (Act.put _ (some (23 : Nat)) (.agg #[.int .i64 a, .int .i64 b, .string s])) _
  simp only [Act.put, List.setIfInBounds_toArray, List.set_cons_zero, List.set_cons_succ]
  refine wpAnyH_take (i := 9) (v := (.tuple #[.int .u64 lv, .bool bb])) rfl (by kernel_rfl) (by kernel_rfl) (by kernel_rfl) (fun _ _ _ h => h) (yields_lookup (by kernel_rfl) 104 (.tmp 18) (.tmp 23) rfl (.map m2) (.agg #[.int .i64 a, .int .i64 b, .string s]) (by simp [Act.eval]) (by simp [Act.eval]) (.tuple #[.int .u64 lv, .bool bb]) (fun W hW => HLk.out W hW.2.2)) (by assumption) ?_
  change wpAnyH _ _ _ _ _ _ _ (Act.put _ (some (24 : Nat)) (.tuple #[.int .u64 lv, .bool bb])) _
  simp only [Act.put, List.setIfInBounds_toArray, List.set_cons_zero, List.set_cons_succ]
  refine wpAnyH_take (i := 10) (v := (.tuple #[.int .u64 lv, .bool bb])) rfl (by kernel_rfl) (by kernel_rfl) (by kernel_rfl) (fun _ _ _ h => h) (Or.inl ⟨by kernel_rfl, fun w hSw => ?_⟩) (by assumption) ?_
  · (try dsimp only at hSw); go_simp <;> (try rfl)
  change wpAnyH _ _ _ _ _ _ _ (Act.put _ (some (14 : Nat)) (.tuple #[.int .u64 lv, .bool bb])) _
  simp only [Act.put, List.setIfInBounds_toArray, List.set_cons_zero, List.set_cons_succ]
  refine wpAnyH_take (i := 11) (v := (.int .u64 lv)) rfl (by kernel_rfl) (by kernel_rfl) (by kernel_rfl) (fun _ _ _ h => h) (Or.inl ⟨by kernel_rfl, fun w hSw => ?_⟩) (by assumption) ?_
  · (try dsimp only at hSw); go_simp <;> (try rfl)
  change wpAnyH _ _ _ _ _ _ _ (Act.put _ (some (25 : Nat)) (.int .u64 lv)) _
  simp only [Act.put, List.setIfInBounds_toArray, List.set_cons_zero, List.set_cons_succ]
  refine wpAnyH_take (i := 12) (v := (.bool bb)) rfl (by kernel_rfl) (by kernel_rfl) (by kernel_rfl) (fun _ _ _ h => h) (Or.inl ⟨by kernel_rfl, fun w hSw => ?_⟩) (by assumption) ?_
  · (try dsimp only at hSw); go_simp <;> (try rfl)
  change wpAnyH _ _ _ _ _ _ _ (Act.put _ (some (26 : Nat)) (.bool bb)) _
  simp only [Act.put, List.setIfInBounds_toArray, List.set_cons_zero, List.set_cons_succ]
  refine wpAnyH_take (i := 13) (v := (.int .u64 lv)) rfl (by kernel_rfl) (by kernel_rfl) (by kernel_rfl) (fun _ _ _ h => h) (Or.inl ⟨by kernel_rfl, fun w hSw => ?_⟩) (by assumption) ?_
  · (try dsimp only at hSw); go_simp <;> (try rfl)
  change wpAnyH _ _ _ _ _ _ _ (Act.put _ (some (10 : Nat)) (.int .u64 lv)) _
  simp only [Act.put, List.setIfInBounds_toArray, List.set_cons_zero, List.set_cons_succ]
  refine wpAnyH_take (i := 14) (v := (.bool bb)) rfl (by kernel_rfl) (by kernel_rfl) (by kernel_rfl) (fun _ _ _ h => h) (Or.inl ⟨by kernel_rfl, fun w hSw => ?_⟩) (by assumption) ?_
  · (try dsimp only at hSw); go_simp <;> (try rfl)
  change wpAnyH _ _ _ _ _ _ _ (Act.put _ (some (11 : Nat)) (.bool bb)) _
  simp only [Act.put, List.setIfInBounds_toArray, List.set_cons_zero, List.set_cons_succ]
  refine wpAnyH_done (by kernel_rfl) ?_ _
  go_wp2
  go_ret2
  exact ⟨rfl, (Below.refl _ w).drew⟩

theorem made_hit (Q : Nat → Prop) (g : Nat) (ds : List DK) (ts : List TK) (a b : Int) (t : List UInt8) (A : Option Addr) (n c : Nat) (w : World) (h : BS w g ds ts) (hby : By w Q A n t) (hx : (a, b, t) ∈ ts) :
    Calls Try.prog 119 #[.pointer (some ⟨g, 0, none⟩), .int .i64 a, .int .i64 b, .slice A n c] w fun e w' => e = .returned (.tuple #[.int .u64 (ord (a, b, t) ts : Int), .bool true]) ∧ Below w.heap.size w w' := by
  obtain ⟨m1, m2, hb, h1, h2, h3⟩ := h
  exact made_at Q g a b t A n c m1 m2 _ _ w hb (fun r e => h2.lt r e) hby (fun W' hW => run_lookup_hit Try.keyedT h2 (a, b, t) hx W' hW)
theorem made_miss (Q : Nat → Prop) (g : Nat) (ds : List DK) (ts : List TK) (a b : Int) (t : List UInt8) (A : Option Addr) (n c : Nat) (w : World) (h : BS w g ds ts) (hby : By w Q A n t) (hx : (a, b, t) ∉ ts) :
    Calls Try.prog 119 #[.pointer (some ⟨g, 0, none⟩), .int .i64 a, .int .i64 b, .slice A n c] w fun e w' => e = .returned (.tuple #[.int .u64 0, .bool false]) ∧ Below w.heap.size w w' := by
  obtain ⟨m1, m2, hb, h1, h2, h3⟩ := h
  exact made_at Q g a b t A n c m1 m2 _ _ w hb (fun r e => h2.lt r e) hby (fun W' hW => run_lookup_miss Try.keyedT h2 (a, b, t) hx W' hW)
theorem made_nil (a b : Int) (A : Option Addr) (n c : Nat) (w : World) :
    Calls Try.prog 119 #[.pointer none, .int .i64 a, .int .i64 b, .slice A n c] w fun e w' => e = .returned (.tuple #[.int .u64 0, .bool false]) ∧ w = w' := by
  go_enter Try.func119, Try.ntmps119
  go_wp2
  go_ret2
  exact ⟨rfl, rfl⟩

end Go.Proofs.Ytgbobemhogeeeaa
