/-
  The program's ordinal: the how manieth of the digests.
-/
import Derived.Test.YtgbobemhogeeeaaBookW
import Derived.Laws.Cover3
import Derived.WideLaws
import Derived.RegionTactic
import Derived.ChangeAlike
import Derived.StillTailTactics
import Derived.Deep.QuietTactic
import Derived.Outline
namespace Go.Proofs.Ytgbobemhogeeeaa
open Go.RowKit

theorem Try.make_mapD (w : World) : (Instr.makeMap 103 none).run Try.prog w = .ok (.map (some w.heap.size)) (w.alloc (.map #[] 0)) := by kernel_rfl
theorem Try.agg_mapD (w : World) : (isAgg 103).run Try.prog w = .ok false w := by kernel_rfl
theorem Try.size_mapD (w : World) : (sizeOf 103).run Try.prog w = .ok 1 w := by kernel_rfl
theorem boxD (x : DK) : ∃ kcs : List Value, encD x = .agg kcs.toArray ∧ kcs.length = 2 := ⟨_, rfl, rfl⟩

theorem blk_ne_mapD {W : World} {k r : Nat} {t : TypeId} {cs : List Value} (h : Blk W k t cs) (hm : ∃ es ck, W.heap[r]? = some (.map es ck)) : some k ≠ some r := fun e => by
  have e := Option.some.inj e
  subst e
  obtain ⟨es, ck, hm⟩ := hm
  unfold Blk at h
  rw [hm] at h
  cases h
theorem freshD {w wz : World} {g : Nat} {kcs : List Value} {m2 : Option Nat} {ds : List DK} {ts : List TK} (hnil : ds = []) (hb : Blk w g 106 [.map none, .map m2]) (ho : MIs w g encT ts m2)
    (hbz : Blk wz g 106 ([.map none, .map m2].set 0 (.map (some (w.heap.size + 1))))) (hgz : ((w.alloc (.cells kcs.toArray 154)).drew.alloc (.map #[] 0)).grownBy wz (some g)) :
    Blk wz g 106 [.map (some (w.heap.size + 1)), .map m2] ∧ Blk wz w.heap.size 154 kcs ∧ MIs wz g encD ds (some (w.heap.size + 1)) ∧ MIs wz g encT ts m2 ∧ KF g w wz ∧ (∀ k, m2 = some k → k ≠ w.heap.size + 1) ∧
    wz.cell? ⟨g, 0, none⟩ = some (.map (some (w.heap.size + 1))) ∧ ∀ ty, (Builtin.len_ #[103] ty #[.map (some (w.heap.size + 1))]).run Try.prog wz = .ok (.int .i64 0) wz := by
  have hg := hb.lt
  have hsz : (w.alloc (.cells kcs.toArray 154)).drew.heap.size = w.heap.size + 1 := by simp
  have hsz2 : ((w.alloc (.cells kcs.toArray 154)).drew.alloc (.map #[] 0)).heap.size = w.heap.size + 1 + 1 := by simp
  have hx : Below w.heap.size w (w.alloc (.cells kcs.toArray 154)).drew := ((Below.refl _ w).alloc (Nat.le_refl _) _).drew
  have hB : Blk wz g 106 [.map (some (w.heap.size + 1)), .map m2] := hbz
  have hM : MIs wz g encD ds (some (w.heap.size + 1)) := by
    subst hnil
    refine ⟨(fun e => by cases e), fun r hr => ?_⟩
    obtain rfl := Option.some.inj hr
    refine ⟨by omega, #[], 0, ?_, rfl⟩
    rw [hgz.block (w.heap.size + 1) (by omega) (fun e => by have := Option.some.inj e; omega), ← hsz]
    exact heap_alloc_new _ _
  have ho1 : MIs ((w.alloc (.cells kcs.toArray 154)).drew.alloc (.map #[] 0)) g encT ts m2 := (ho.through hx).through ((Below.refl _ _).alloc (Nat.le_refl _) _)
  refine ⟨hB, ?_, hM, ?_, ?_, fun k e => ?_, hB.cellAt rfl, fun ty => ?_⟩
  · exact ((Blk.drew (Blk.fresh rfl rfl)).alloc _).grown hgz (fun e => by have := Option.some.inj e; omega)
  · exact ho1.keep fun k e => hgz.block k (ho1.lt k e) (fun e' => by
      have := Option.some.inj e'
      have := (ho.2 k e).1
      omega)
  · exact (KF.of_below hg hx).trans (KF.newMap (Blk.drew (hb.alloc _)) (by rw [hsz]; exact hbz) hgz)
  · have := ho.lt k e
    omega
  · have h := run_len_ord Try.keyedD hM ty wz (fun _ _ => rfl)
    rw [hnil] at h
    exact h

set_option maxHeartbeats 4000000 in
set_option maxRecDepth 100000 in
theorem ordD_hit (g : Nat) (m1 m2 : Option Nat) (ds : List DK) (ts : List TK) (x : DK) (hx : x ∈ ds) (w : World) (h : BM w g m1 m2 ds ts) :
    Calls Try.prog 121 #[.pointer (some ⟨g, 0, none⟩), encD x] w fun e w' => e = .returned (.int .u64 (ord x ds : Int)) ∧ Below w.heap.size w w' := by
  obtain ⟨kcs, hkv, hkl⟩ := boxD x
  have hb := h.1
  have hml := fun r e => (h.2.1).lt r e
  obtain ⟨o, ho⟩ : ∃ o : Int, o = (ord x ds : Int) := ⟨_, rfl⟩
  have hlk : ∀ W', (∀ r, m1 = some r → W'.heap[r]? = w.heap[r]?) → (Instr.lookup 103 (.map m1) (.agg kcs.toArray) true).run Try.prog W' = .ok (.tuple #[.int .u64 o, .bool true]) W' := fun W' hW => by
    have h1 := run_lookup_hit Try.keyedD h.2.1 x hx W' hW
    rw [hkv, ← ho] at h1
    exact h1
  have HB0 := Lib.hid hb
  have HMl := Lib.hid hml
  have HKl := Lib.hid hkl
  have HLk := Lib.hid hlk
  rw [← ho, hkv]
  clear h hb hml hkv hkl ho hlk hx
  go_enter Try.func121, Try.ntmps121
  go_wp2
  try dsimp only [Act.put]
  refine wp_region_held_drew (S := fun W => Blk W g 106 [.map m1, .map m2] ∧ Blk W w.heap.size 154 kcs ∧ (∀ r, m1 = some r → W.heap[r]? = w.heap[r]?)) (by kernel_rfl) ⟨(HB0.out.alloc _).drew, Blk.drew (Blk.fresh rfl rfl), fun r e => Below.heap_alloc w _ r (HMl.out r e)⟩ (fun hHeld => ?_)
  change wpAnyH _ _ _ _ _ _ #[false, false, false, false, false, false, false, false, false, false] _ _
  refine wpAnyH_take (i := 0) (v := (.pointer (some ⟨g, 0, none⟩))) rfl (by kernel_rfl) (by kernel_rfl) (by kernel_rfl) (fun _ _ _ h => h) (Or.inl ⟨by kernel_rfl, fun w hSw => ?_⟩) (by assumption) ?_
  · (try dsimp only at hSw); go_simp <;> (try rfl)
  change wpAnyH _ _ _ _ _ _ _ (Act.put _ (some (9 : Nat)) (.pointer (some ⟨g, 0, none⟩))) _
  simp only [Act.put, List.setIfInBounds_toArray, List.set_cons_zero, List.set_cons_succ]
  refine wpAnyH_take (i := 1) (v := (.pointer (some ⟨g, 0, none⟩))) rfl (by kernel_rfl) (by kernel_rfl) (by kernel_rfl) (fun _ _ _ h => h) (Or.inl ⟨by kernel_rfl, fun w hSw => ?_⟩) (by assumption) ?_
  · (try dsimp only at hSw); go_simp <;> (try rfl)
  change wpAnyH _ _ _ _ _ _ _ (Act.put _ (some (10 : Nat)) (.pointer (some ⟨g, 0, none⟩))) _
  simp only [Act.put, List.setIfInBounds_toArray, List.set_cons_zero, List.set_cons_succ]
  refine wpAnyH_take (i := 2) (v := (.map m1)) rfl (by kernel_rfl) (by kernel_rfl) (by kernel_rfl) (fun _ _ _ h => h) (yields_load_at (by kernel_rfl) 103 (.tmp 10) rfl (.pointer (some ⟨g, 0, none⟩)) (by simp [Act.eval]) (.map m1) (fun W hW => load_one' (Try.agg_mapD W) (hW.1.cellAt rfl))) (by assumption) ?_
  change wpAnyH _ _ _ _ _ _ _ (Act.put _ (some (11 : Nat)) (.map m1)) _
  simp only [Act.put, List.setIfInBounds_toArray, List.set_cons_zero, List.set_cons_succ]
  refine wpAnyH_take (i := 3) (v := (.agg kcs.toArray)) rfl (by kernel_rfl) (by kernel_rfl) (by kernel_rfl) (fun _ _ _ h => h) (yields_load_at (by kernel_rfl) 154 (.tmp 3) rfl (.pointer (some ⟨w.heap.size, 0, none⟩)) (by simp [Act.eval]) (.agg kcs.toArray) (fun W hW => hW.2.1.loadAt 154 _ Try.underlying154 rfl (by rw [HKl.out]; kernel_rfl))) (by assumption) ?_
  change wpAnyH _ _ _ _ _ _ _ (Act.put _ (some (12 : Nat)) (.agg kcs.toArray)) _
  simp only [Act.put, List.setIfInBounds_toArray, List.set_cons_zero, List.set_cons_succ]
  refine wpAnyH_take (i := 4) (v := (.tuple #[.int .u64 o, .bool true])) rfl (by kernel_rfl) (by kernel_rfl) (by kernel_rfl) (fun _ _ _ h => h) (yields_lookup (by kernel_rfl) 103 (.tmp 11) (.tmp 12) rfl (.map m1) (.agg kcs.toArray) (by simp [Act.eval]) (by simp [Act.eval]) (.tuple #[.int .u64 o, .bool true]) (fun W hW => HLk.out W hW.2.2)) (by assumption) ?_
  change wpAnyH _ _ _ _ _ _ _ (Act.put _ (some (13 : Nat)) (.tuple #[.int .u64 o, .bool true])) _
  simp only [Act.put, List.setIfInBounds_toArray, List.set_cons_zero, List.set_cons_succ]
  refine wpAnyH_take (i := 5) (v := (.tuple #[.int .u64 o, .bool true])) rfl (by kernel_rfl) (by kernel_rfl) (by kernel_rfl) (fun _ _ _ h => h) (Or.inl ⟨by kernel_rfl, fun w hSw => ?_⟩) (by assumption) ?_
  · (try dsimp only at hSw); go_simp <;> (try rfl)
  change wpAnyH _ _ _ _ _ _ _ (Act.put _ (some (8 : Nat)) (.tuple #[.int .u64 o, .bool true])) _
  simp only [Act.put, List.setIfInBounds_toArray, List.set_cons_zero, List.set_cons_succ]
  refine wpAnyH_take (i := 6) (v := (.int .u64 o)) rfl (by kernel_rfl) (by kernel_rfl) (by kernel_rfl) (fun _ _ _ h => h) (Or.inl ⟨by kernel_rfl, fun w hSw => ?_⟩) (by assumption) ?_
  · (try dsimp only at hSw); go_simp <;> (try rfl)
  change wpAnyH _ _ _ _ _ _ _ (Act.put _ (some (14 : Nat)) (.int .u64 o)) _
  simp only [Act.put, List.setIfInBounds_toArray, List.set_cons_zero, List.set_cons_succ]
  refine wpAnyH_take (i := 7) (v := (.bool true)) rfl (by kernel_rfl) (by kernel_rfl) (by kernel_rfl) (fun _ _ _ h => h) (Or.inl ⟨by kernel_rfl, fun w hSw => ?_⟩) (by assumption) ?_
  · (try dsimp only at hSw); go_simp <;> (try rfl)
  change wpAnyH _ _ _ _ _ _ _ (Act.put _ (some (15 : Nat)) (.bool true)) _
  simp only [Act.put, List.setIfInBounds_toArray, List.set_cons_zero, List.set_cons_succ]
  refine wpAnyH_take (i := 8) (v := (.int .u64 o)) rfl (by kernel_rfl) (by kernel_rfl) (by kernel_rfl) (fun _ _ _ h => h) (Or.inl ⟨by kernel_rfl, fun w hSw => ?_⟩) (by assumption) ?_
  · (try dsimp only at hSw); go_simp <;> (try rfl)
  change wpAnyH _ _ _ _ _ _ _ (Act.put _ (some (5 : Nat)) (.int .u64 o)) _
  simp only [Act.put, List.setIfInBounds_toArray, List.set_cons_zero, List.set_cons_succ]
  refine wpAnyH_take (i := 9) (v := (.bool true)) rfl (by kernel_rfl) (by kernel_rfl) (by kernel_rfl) (fun _ _ _ h => h) (Or.inl ⟨by kernel_rfl, fun w hSw => ?_⟩) (by assumption) ?_
  · (try dsimp only at hSw); go_simp <;> (try rfl)
  change wpAnyH _ _ _ _ _ _ _ (Act.put _ (some (6 : Nat)) (.bool true)) _
  simp only [Act.put, List.setIfInBounds_toArray, List.set_cons_zero, List.set_cons_succ]
  refine wpAnyH_done (by kernel_rfl) ?_ _
  go_wp2
  go_ret
  exact ⟨rfl, (((Below.refl _ w).alloc (Nat.le_refl _) _).drew)⟩

set_option maxHeartbeats 4000000 in
set_option maxRecDepth 100000 in
theorem ordD_some (g : Nat) (m2 : Option Nat) (r : Nat) (ds : List DK) (ts : List TK) (x : DK) (hx : x ∉ ds) (w : World) (h : BM w g (some r) m2 ds ts) (hl : ds.length < 9223372036854775807) :
    Calls Try.prog 121 #[.pointer (some ⟨g, 0, none⟩), encD x] w fun e w' => e = .returned (.int .u64 (ord x (also x ds) : Int)) ∧ BS w' g (also x ds) ts ∧ KF g w w' := by
  obtain ⟨kcs, hkv, hkl⟩ := boxD x
  have hb := h.1
  have hml := fun r e => (h.2.1).lt r e
  have hom := h.2.2.1
  have hord : ((ord x (also x ds) : Nat) : Int) = ((ds.length + 1 : Nat) : Int) := by rw [ord_new hx]
  have hmi : MIs w g encD ds (some r) := h.2.1
  have hne : ∀ k, m2 = some k → k ≠ r := fun k e e' => by
    subst e'
    exact h.2.2.2 _ rfl e
  obtain ⟨L, hL⟩ : ∃ L : Int, L = (ds.length : Int) := ⟨_, rfl⟩
  have hL1 : L % 18446744073709551616 = L := by omega
  have hL2 : (L + 1) % 18446744073709551616 = L + 1 := by omega
  have hnum : L + 1 = ((ds.length + 1 : Nat) : Int) := by omega
  have hlk : ∀ W', (∀ r', some r = some r' → W'.heap[r']? = w.heap[r']?) → (Instr.lookup 103 (.map (some r)) (.agg kcs.toArray) true).run Try.prog W' = .ok (.tuple #[.int .u64 0, .bool false]) W' := fun W' hW => by
    have h1 := run_lookup_miss Try.keyedD hmi x hx W' hW
    rw [hkv] at h1
    exact h1
  have hq := fun (W : World) (m : Option Nat) => run_eql_map_nil (P := Try.prog) W 103 154 86 m Try.underlying103
  have hlen := fun (ty : TypeId) => run_len_ord Try.keyedD hmi ty (w.alloc (.cells kcs.toArray 154)).drew (fun r e => Below.heap_alloc w _ r (hmi.lt r e))
  rw [← hL] at hlen
  have c1 : w.cell? ⟨g, 0, none⟩ = some (.map (some r)) := hb.cellAt rfl
  have hg := hb.lt
  have HB0 := Lib.hid hb
  have HMl := Lib.hid hml
  have HKl := Lib.hid hkl
  have HKv := Lib.hid hkv
  have HLk := Lib.hid hlk
  have HMi := Lib.hid hmi
  have HOm := Lib.hid hom
  have HNx := Lib.hid hx
  have HNe := Lib.hid hne
  have HNum := Lib.hid hnum
  have HOrd := Lib.hid (hord.trans hnum.symm)
  rw [hkv]
  clear h hb hml hkv hkl hlk hx hmi hom hne hord hnum hL
  go_enter Try.func121, Try.ntmps121
  go_wp2
  try dsimp only [Act.put]
  refine wp_region_held_drew (S := fun W => Blk W g 106 [.map (some r), .map m2] ∧ Blk W w.heap.size 154 kcs ∧ (∀ r1, some r = some r1 → W.heap[r1]? = w.heap[r1]?)) (by kernel_rfl) ⟨(HB0.out.alloc _).drew, Blk.drew (Blk.fresh rfl rfl), fun r e => Below.heap_alloc w _ r (HMl.out r e)⟩ (fun hHeld => ?_)
  change wpAnyH _ _ _ _ _ _ #[false, false, false, false, false, false, false, false, false, false] _ _
  refine wpAnyH_take (i := 0) (v := (.pointer (some ⟨g, 0, none⟩))) rfl (by kernel_rfl) (by kernel_rfl) (by kernel_rfl) (fun _ _ _ h => h) (Or.inl ⟨by kernel_rfl, fun w hSw => ?_⟩) (by assumption) ?_
  · (try dsimp only at hSw); go_simp <;> (try rfl)
  change wpAnyH _ _ _ _ _ _ _ (Act.put _ (some (9 : Nat)) (.pointer (some ⟨g, 0, none⟩))) _
  simp only [Act.put, List.setIfInBounds_toArray, List.set_cons_zero, List.set_cons_succ]
  refine wpAnyH_take (i := 1) (v := (.pointer (some ⟨g, 0, none⟩))) rfl (by kernel_rfl) (by kernel_rfl) (by kernel_rfl) (fun _ _ _ h => h) (Or.inl ⟨by kernel_rfl, fun w hSw => ?_⟩) (by assumption) ?_
  · (try dsimp only at hSw); go_simp <;> (try rfl)
  change wpAnyH _ _ _ _ _ _ _ (Act.put _ (some (10 : Nat)) (.pointer (some ⟨g, 0, none⟩))) _
  simp only [Act.put, List.setIfInBounds_toArray, List.set_cons_zero, List.set_cons_succ]
  refine wpAnyH_take (i := 2) (v := (.map (some r))) rfl (by kernel_rfl) (by kernel_rfl) (by kernel_rfl) (fun _ _ _ h => h) (yields_load_at (by kernel_rfl) 103 (.tmp 10) rfl (.pointer (some ⟨g, 0, none⟩)) (by simp [Act.eval]) (.map (some r)) (fun W hW => load_one' (Try.agg_mapD W) (hW.1.cellAt rfl))) (by assumption) ?_
  change wpAnyH _ _ _ _ _ _ _ (Act.put _ (some (11 : Nat)) (.map (some r))) _
  simp only [Act.put, List.setIfInBounds_toArray, List.set_cons_zero, List.set_cons_succ]
  refine wpAnyH_take (i := 3) (v := (.agg kcs.toArray)) rfl (by kernel_rfl) (by kernel_rfl) (by kernel_rfl) (fun _ _ _ h => h) (yields_load_at (by kernel_rfl) 154 (.tmp 3) rfl (.pointer (some ⟨w.heap.size, 0, none⟩)) (by simp [Act.eval]) (.agg kcs.toArray) (fun W hW => hW.2.1.loadAt 154 _ Try.underlying154 rfl (by rw [HKl.out]; kernel_rfl))) (by assumption) ?_
  change wpAnyH _ _ _ _ _ _ _ (Act.put _ (some (12 : Nat)) (.agg kcs.toArray)) _
  simp only [Act.put, List.setIfInBounds_toArray, List.set_cons_zero, List.set_cons_succ]
  refine wpAnyH_take (i := 4) (v := (.tuple #[.int .u64 0, .bool false])) rfl (by kernel_rfl) (by kernel_rfl) (by kernel_rfl) (fun _ _ _ h => h) (yields_lookup (by kernel_rfl) 103 (.tmp 11) (.tmp 12) rfl (.map (some r)) (.agg kcs.toArray) (by simp [Act.eval]) (by simp [Act.eval]) (.tuple #[.int .u64 0, .bool false]) (fun W hW => HLk.out W hW.2.2)) (by assumption) ?_
  change wpAnyH _ _ _ _ _ _ _ (Act.put _ (some (13 : Nat)) (.tuple #[.int .u64 0, .bool false])) _
  simp only [Act.put, List.setIfInBounds_toArray, List.set_cons_zero, List.set_cons_succ]
  refine wpAnyH_take (i := 5) (v := (.tuple #[.int .u64 0, .bool false])) rfl (by kernel_rfl) (by kernel_rfl) (by kernel_rfl) (fun _ _ _ h => h) (Or.inl ⟨by kernel_rfl, fun w hSw => ?_⟩) (by assumption) ?_
  · (try dsimp only at hSw); go_simp <;> (try rfl)
  change wpAnyH _ _ _ _ _ _ _ (Act.put _ (some (8 : Nat)) (.tuple #[.int .u64 0, .bool false])) _
  simp only [Act.put, List.setIfInBounds_toArray, List.set_cons_zero, List.set_cons_succ]
  refine wpAnyH_take (i := 6) (v := (.int .u64 0)) rfl (by kernel_rfl) (by kernel_rfl) (by kernel_rfl) (fun _ _ _ h => h) (Or.inl ⟨by kernel_rfl, fun w hSw => ?_⟩) (by assumption) ?_
  · (try dsimp only at hSw); go_simp <;> (try rfl)
  change wpAnyH _ _ _ _ _ _ _ (Act.put _ (some (14 : Nat)) (.int .u64 0)) _
  simp only [Act.put, List.setIfInBounds_toArray, List.set_cons_zero, List.set_cons_succ]
  refine wpAnyH_take (i := 7) (v := (.bool false)) rfl (by kernel_rfl) (by kernel_rfl) (by kernel_rfl) (fun _ _ _ h => h) (Or.inl ⟨by kernel_rfl, fun w hSw => ?_⟩) (by assumption) ?_
  · (try dsimp only at hSw); go_simp <;> (try rfl)
  change wpAnyH _ _ _ _ _ _ _ (Act.put _ (some (15 : Nat)) (.bool false)) _
  simp only [Act.put, List.setIfInBounds_toArray, List.set_cons_zero, List.set_cons_succ]
  refine wpAnyH_take (i := 8) (v := (.int .u64 0)) rfl (by kernel_rfl) (by kernel_rfl) (by kernel_rfl) (fun _ _ _ h => h) (Or.inl ⟨by kernel_rfl, fun w hSw => ?_⟩) (by assumption) ?_
  · (try dsimp only at hSw); go_simp <;> (try rfl)
  change wpAnyH _ _ _ _ _ _ _ (Act.put _ (some (5 : Nat)) (.int .u64 0)) _
  simp only [Act.put, List.setIfInBounds_toArray, List.set_cons_zero, List.set_cons_succ]
  refine wpAnyH_take (i := 9) (v := (.bool false)) rfl (by kernel_rfl) (by kernel_rfl) (by kernel_rfl) (fun _ _ _ h => h) (Or.inl ⟨by kernel_rfl, fun w hSw => ?_⟩) (by assumption) ?_
  · (try dsimp only at hSw); go_simp <;> (try rfl)
  change wpAnyH _ _ _ _ _ _ _ (Act.put _ (some (6 : Nat)) (.bool false)) _
  simp only [Act.put, List.setIfInBounds_toArray, List.set_cons_zero, List.set_cons_succ]
  refine wpAnyH_done (by kernel_rfl) ?_ _
  go_wp2
  obtain ⟨b3, hb3⟩ : ∃ b3, b3 = w.heap.size := ⟨_, rfl⟩
  have HB : Hid (Blk (w.alloc (.cells kcs.toArray 154)).drew g 106 [.map (some r), .map m2]) := Lib.hid (HB0.out.alloc _).drew
  have H3 : Hid (Blk (w.alloc (.cells kcs.toArray 154)).drew b3 154 kcs) := Lib.hid (Blk.drew (Blk.fresh hb3 rfl))
  have HM : Hid (MIs (w.alloc (.cells kcs.toArray 154)).drew g encD ds (some r)) := Lib.hid ((HMi.out.through ((Below.refl _ w).alloc (Nat.le_refl _) _)).drew)
  have HO : Hid (MIs (w.alloc (.cells kcs.toArray 154)).drew g encT ts m2) := Lib.hid ((HOm.out.through ((Below.refl _ w).alloc (Nat.le_refl _) _)).drew)
  have HF : Hid (KF g w (w.alloc (.cells kcs.toArray 154)).drew) := Lib.hid ((KF.of_below hg ((Below.refl _ w).alloc (Nat.le_refl _) _)).drew)
  rw [← hb3]
  clear hb3 hlen c1
  generalize (w.alloc (.cells kcs.toArray 154)).drew = wz at *
  try dsimp only [Act.put]
  refine wp_region_held_drew (S := fun W => Blk W g 106 [.map (some r), .map m2] ∧ Blk W b3 154 kcs) (by kernel_rfl) ⟨HB.out.drew, H3.out.drew⟩ (fun hHeld => ?_)
  change wpAnyH _ _ _ _ _ _ #[false, false, false, false, false, false] _ _
  refine wpAnyH_take (i := 0) (v := (.pointer (some ⟨g, 0, none⟩))) rfl (by kernel_rfl) (by kernel_rfl) (by kernel_rfl) (fun _ _ _ h => h) (Or.inl ⟨by kernel_rfl, fun w hSw => ?_⟩) (by assumption) ?_
  · (try dsimp only at hSw); go_simp <;> (try rfl)
  change wpAnyH _ _ _ _ _ _ _ (Act.put _ (some (31 : Nat)) (.pointer (some ⟨g, 0, none⟩))) _
  simp only [Act.put, List.setIfInBounds_toArray, List.set_cons_zero, List.set_cons_succ]
  refine wpAnyH_take (i := 1) (v := (.pointer (some ⟨g, 0, none⟩))) rfl (by kernel_rfl) (by kernel_rfl) (by kernel_rfl) (fun _ _ _ h => h) (Or.inl ⟨by kernel_rfl, fun w hSw => ?_⟩) (by assumption) ?_
  · (try dsimp only at hSw); go_simp <;> (try rfl)
  change wpAnyH _ _ _ _ _ _ _ (Act.put _ (some (32 : Nat)) (.pointer (some ⟨g, 0, none⟩))) _
  simp only [Act.put, List.setIfInBounds_toArray, List.set_cons_zero, List.set_cons_succ]
  refine wpAnyH_take (i := 2) (v := (.map (some r))) rfl (by kernel_rfl) (by kernel_rfl) (by kernel_rfl) (fun _ _ _ h => h) (yields_load_at (by kernel_rfl) 103 (.tmp 32) rfl (.pointer (some ⟨g, 0, none⟩)) (by simp [Act.eval]) (.map (some r)) (fun W hW => load_one' (Try.agg_mapD W) (hW.1.cellAt rfl))) (by assumption) ?_
  change wpAnyH _ _ _ _ _ _ _ (Act.put _ (some (33 : Nat)) (.map (some r))) _
  simp only [Act.put, List.setIfInBounds_toArray, List.set_cons_zero, List.set_cons_succ]
  refine wpAnyH_take (i := 3) (v := (.agg kcs.toArray)) rfl (by kernel_rfl) (by kernel_rfl) (by kernel_rfl) (fun _ _ _ h => h) (yields_load_at (by kernel_rfl) 154 (.tmp 3) rfl (.pointer (some ⟨b3, 0, none⟩)) (by simp [Act.eval]) (.agg kcs.toArray) (fun W hW => hW.2.loadAt 154 _ Try.underlying154 rfl (by rw [HKl.out]; kernel_rfl))) (by assumption) ?_
  change wpAnyH _ _ _ _ _ _ _ (Act.put _ (some (34 : Nat)) (.agg kcs.toArray)) _
  simp only [Act.put, List.setIfInBounds_toArray, List.set_cons_zero, List.set_cons_succ]
  refine wpAnyH_take (i := 4) (v := (.int .u64 (L + 1))) rfl (by kernel_rfl) (by kernel_rfl) (by kernel_rfl) (fun _ _ _ h => h) (Or.inl ⟨by kernel_rfl, fun w hSw => ?_⟩) (by assumption) ?_
  · (try dsimp only at hSw); go_simp <;> (try rfl)
  change wpAnyH _ _ _ _ _ _ _ (Act.put _ (some (35 : Nat)) (.int .u64 (L + 1))) _
  simp only [Act.put, List.setIfInBounds_toArray, List.set_cons_zero, List.set_cons_succ]
  refine wpAnyH_ready (rs := [5]) (by kernel_rfl) (by simp) ?_
  refine AllReadyH.cons (o := ⟨none, .mapUpdate 103 (.tmp 33) (.tmp 34) (.tmp 35), _, _, _, none⟩) rfl (fun K hK => ?_) AllReadyH.nil
  refine step_update_ord Try.keyedD (by kernel_rfl) (.tmp 33) (.tmp 34) (.tmp 35) rfl HM.out.drew x HNx.out (by simp [Act.eval]) (by simp [Act.eval, HKv.out]) (by simp [Act.eval, HNum.out]) ?_; intro wu hmu hgu; have HMu := Lib.hid hmu; have hmap := HM.out.at; have HBu := Lib.hid (HB.out.drew.grown hgu (blk_ne_mapD HB.out.drew hmap)); have H3u := Lib.hid (H3.out.drew.grown hgu (blk_ne_mapD H3.out.drew hmap)); have HOu := Lib.hid (HO.out.keep (fun k e => hgu.block k (HO.out.lt k e) (fun e' => HNe.out k e (Option.some.inj e')))); have HFu := Lib.hid (HF.out.drew.trans (KF.turn hgu (HM.out.2 r rfl).1 ⟨_, _, _, 0, HB.out.drew, rfl⟩ hmap)); clear hmu hgu hmap
  refine hK.out _ _ ⟨HBu.out, H3u.out⟩ (fun hHeld1 => ?_)
  clear hHeld hK K
  have hHeld := hHeld1
  clear hHeld1
  change wpAnyH _ _ _ _ _ _ _ (Act.put _ none undef) _
  simp only [Act.put]
  refine wpAnyH_done (by kernel_rfl) ?_ _
  go_wp2
  go_ret
  exact ⟨by rw [HOrd.out]; rfl, ⟨some r, m2, HBu.out, HMu.out, HOu.out, fun k e1 e2 => HNe.out k e2 (Option.some.inj e1).symm⟩, HFu.out⟩

set_option maxHeartbeats 4000000 in
set_option maxRecDepth 100000 in
theorem ordD_none (g : Nat) (m2 : Option Nat) (ds : List DK) (ts : List TK) (x : DK) (hx : x ∉ ds) (w : World) (h : BM w g none m2 ds ts) :
    Calls Try.prog 121 #[.pointer (some ⟨g, 0, none⟩), encD x] w fun e w' => e = .returned (.int .u64 (ord x (also x ds) : Int)) ∧ BS w' g (also x ds) ts ∧ KF g w w' := by
  obtain ⟨kcs, hkv, hkl⟩ := boxD x
  have hb := h.1
  have hml := fun r e => (h.2.1).lt r e
  have hom := h.2.2.1
  have hord : ((ord x (also x ds) : Nat) : Int) = ((ds.length + 1 : Nat) : Int) := by rw [ord_new hx]
  have hnil : ds = [] := (h.2.1).1 rfl
  have hmi : MIs w g encD ds none := h.2.1
  have hlk : ∀ W', (∀ r', (none : Option Nat) = some r' → W'.heap[r']? = w.heap[r']?) → (Instr.lookup 103 (.map none) (.agg kcs.toArray) true).run Try.prog W' = .ok (.tuple #[.int .u64 0, .bool false]) W' := fun W' hW => by
    have h1 := run_lookup_miss Try.keyedD hmi x hx W' hW
    rw [hkv] at h1
    exact h1
  have hq := fun (W : World) (m : Option Nat) => run_eql_map_nil (P := Try.prog) W 103 154 86 m Try.underlying103
  have hmk := Try.make_mapD
  have c1 : w.cell? ⟨g, 0, none⟩ = some (.map none) := hb.cellAt rfl
  have hg := hb.lt
  have hnum : (((ds.length + 1 : Nat)) : Int) = 1 := by rw [hnil]; rfl
  have HB0 := Lib.hid hb
  have HMl := Lib.hid hml
  have HKl := Lib.hid hkl
  have HKv := Lib.hid hkv
  have HLk := Lib.hid hlk
  have HOm := Lib.hid hom
  have HNx := Lib.hid hx
  have HNil := Lib.hid hnil
  have HNum := Lib.hid hnum
  have HOrd := Lib.hid (hord.trans hnum)
  rw [hkv]
  clear h hb hml hkv hkl hlk hx hmi hom hord hnil hnum
  go_enter Try.func121, Try.ntmps121
  go_wp2
  try dsimp only [Act.put]
  refine wp_region_held_drew (S := fun W => Blk W g 106 [.map none, .map m2] ∧ Blk W w.heap.size 154 kcs ∧ (∀ r, (none : Option Nat) = some r → W.heap[r]? = w.heap[r]?)) (by kernel_rfl) ⟨(HB0.out.alloc _).drew, Blk.drew (Blk.fresh rfl rfl), fun r e => Below.heap_alloc w _ r (HMl.out r e)⟩ (fun hHeld => ?_)
  change wpAnyH _ _ _ _ _ _ #[false, false, false, false, false, false, false, false, false, false] _ _
  refine wpAnyH_take (i := 0) (v := (.pointer (some ⟨g, 0, none⟩))) rfl (by kernel_rfl) (by kernel_rfl) (by kernel_rfl) (fun _ _ _ h => h) (Or.inl ⟨by kernel_rfl, fun w hSw => ?_⟩) (by assumption) ?_
  · (try dsimp only at hSw); go_simp <;> (try rfl)
  change wpAnyH _ _ _ _ _ _ _ (Act.put _ (some (9 : Nat)) (.pointer (some ⟨g, 0, none⟩))) _
  simp only [Act.put, List.setIfInBounds_toArray, List.set_cons_zero, List.set_cons_succ]
  refine wpAnyH_take (i := 1) (v := (.pointer (some ⟨g, 0, none⟩))) rfl (by kernel_rfl) (by kernel_rfl) (by kernel_rfl) (fun _ _ _ h => h) (Or.inl ⟨by kernel_rfl, fun w hSw => ?_⟩) (by assumption) ?_
  · (try dsimp only at hSw); go_simp <;> (try rfl)
  change wpAnyH _ _ _ _ _ _ _ (Act.put _ (some (10 : Nat)) (.pointer (some ⟨g, 0, none⟩))) _
  simp only [Act.put, List.setIfInBounds_toArray, List.set_cons_zero, List.set_cons_succ]
  refine wpAnyH_take (i := 2) (v := (.map none)) rfl (by kernel_rfl) (by kernel_rfl) (by kernel_rfl) (fun _ _ _ h => h) (yields_load_at (by kernel_rfl) 103 (.tmp 10) rfl (.pointer (some ⟨g, 0, none⟩)) (by simp [Act.eval]) (.map none) (fun W hW => load_one' (Try.agg_mapD W) (hW.1.cellAt rfl))) (by assumption) ?_
  change wpAnyH _ _ _ _ _ _ _ (Act.put _ (some (11 : Nat)) (.map none)) _
  simp only [Act.put, List.setIfInBounds_toArray, List.set_cons_zero, List.set_cons_succ]
  refine wpAnyH_take (i := 3) (v := (.agg kcs.toArray)) rfl (by kernel_rfl) (by kernel_rfl) (by kernel_rfl) (fun _ _ _ h => h) (yields_load_at (by kernel_rfl) 154 (.tmp 3) rfl (.pointer (some ⟨w.heap.size, 0, none⟩)) (by simp [Act.eval]) (.agg kcs.toArray) (fun W hW => hW.2.1.loadAt 154 _ Try.underlying154 rfl (by rw [HKl.out]; kernel_rfl))) (by assumption) ?_
  change wpAnyH _ _ _ _ _ _ _ (Act.put _ (some (12 : Nat)) (.agg kcs.toArray)) _
  simp only [Act.put, List.setIfInBounds_toArray, List.set_cons_zero, List.set_cons_succ]
  refine wpAnyH_take (i := 4) (v := (.tuple #[.int .u64 0, .bool false])) rfl (by kernel_rfl) (by kernel_rfl) (by kernel_rfl) (fun _ _ _ h => h) (yields_lookup (by kernel_rfl) 103 (.tmp 11) (.tmp 12) rfl (.map none) (.agg kcs.toArray) (by simp [Act.eval]) (by simp [Act.eval]) (.tuple #[.int .u64 0, .bool false]) (fun W hW => HLk.out W hW.2.2)) (by assumption) ?_
  change wpAnyH _ _ _ _ _ _ _ (Act.put _ (some (13 : Nat)) (.tuple #[.int .u64 0, .bool false])) _
  simp only [Act.put, List.setIfInBounds_toArray, List.set_cons_zero, List.set_cons_succ]
  refine wpAnyH_take (i := 5) (v := (.tuple #[.int .u64 0, .bool false])) rfl (by kernel_rfl) (by kernel_rfl) (by kernel_rfl) (fun _ _ _ h => h) (Or.inl ⟨by kernel_rfl, fun w hSw => ?_⟩) (by assumption) ?_
  · (try dsimp only at hSw); go_simp <;> (try rfl)
  change wpAnyH _ _ _ _ _ _ _ (Act.put _ (some (8 : Nat)) (.tuple #[.int .u64 0, .bool false])) _
  simp only [Act.put, List.setIfInBounds_toArray, List.set_cons_zero, List.set_cons_succ]
  refine wpAnyH_take (i := 6) (v := (.int .u64 0)) rfl (by kernel_rfl) (by kernel_rfl) (by kernel_rfl) (fun _ _ _ h => h) (Or.inl ⟨by kernel_rfl, fun w hSw => ?_⟩) (by assumption) ?_
  · (try dsimp only at hSw); go_simp <;> (try rfl)
  change wpAnyH _ _ _ _ _ _ _ (Act.put _ (some (14 : Nat)) (.int .u64 0)) _
  simp only [Act.put, List.setIfInBounds_toArray, List.set_cons_zero, List.set_cons_succ]
  refine wpAnyH_take (i := 7) (v := (.bool false)) rfl (by kernel_rfl) (by kernel_rfl) (by kernel_rfl) (fun _ _ _ h => h) (Or.inl ⟨by kernel_rfl, fun w hSw => ?_⟩) (by assumption) ?_
  · (try dsimp only at hSw); go_simp <;> (try rfl)
  change wpAnyH _ _ _ _ _ _ _ (Act.put _ (some (15 : Nat)) (.bool false)) _
  simp only [Act.put, List.setIfInBounds_toArray, List.set_cons_zero, List.set_cons_succ]
  refine wpAnyH_take (i := 8) (v := (.int .u64 0)) rfl (by kernel_rfl) (by kernel_rfl) (by kernel_rfl) (fun _ _ _ h => h) (Or.inl ⟨by kernel_rfl, fun w hSw => ?_⟩) (by assumption) ?_
  · (try dsimp only at hSw); go_simp <;> (try rfl)
  change wpAnyH _ _ _ _ _ _ _ (Act.put _ (some (5 : Nat)) (.int .u64 0)) _
  simp only [Act.put, List.setIfInBounds_toArray, List.set_cons_zero, List.set_cons_succ]
  refine wpAnyH_take (i := 9) (v := (.bool false)) rfl (by kernel_rfl) (by kernel_rfl) (by kernel_rfl) (fun _ _ _ h => h) (Or.inl ⟨by kernel_rfl, fun w hSw => ?_⟩) (by assumption) ?_
  · (try dsimp only at hSw); go_simp <;> (try rfl)
  change wpAnyH _ _ _ _ _ _ _ (Act.put _ (some (6 : Nat)) (.bool false)) _
  simp only [Act.put, List.setIfInBounds_toArray, List.set_cons_zero, List.set_cons_succ]
  refine wpAnyH_done (by kernel_rfl) ?_ _
  go_wp2_with (refine wpList_store_cell rfl 103 (.tmp 24) (.tmp 23) rfl g 0 rfl _ rfl rfl rfl Try.size_mapD 106 [.map none, .map m2] (Blk.alloc (Blk.drew (HB0.out.alloc _)) _) (by simp) ?_; intro wz hbz hgz; obtain ⟨hB, h3, hM, hO, hF, hN, c2, hlen⟩ := freshD HNil.out HB0.out HOm.out hbz hgz; clear hbz hgz)
  obtain ⟨b3, hb3⟩ : ∃ b3, b3 = w.heap.size := ⟨_, rfl⟩
  obtain ⟨r, hr⟩ : ∃ r, r = w.heap.size + 1 := ⟨_, rfl⟩
  rw [← hr] at hB hM hN
  rw [← hb3] at h3
  have HB := Lib.hid hB
  have H3 := Lib.hid h3
  have HM := Lib.hid hM
  have HO := Lib.hid hO
  have HF := Lib.hid hF
  have HNe := Lib.hid hN
  clear hB h3 hM hO hF hN c2 hlen
  rw [← hb3]
  clear hb3 hr
  try dsimp only [Act.put]
  refine wp_region_held_drew (S := fun W => Blk W g 106 [.map (some r), .map m2] ∧ Blk W b3 154 kcs) (by kernel_rfl) ⟨HB.out.drew, H3.out.drew⟩ (fun hHeld => ?_)
  change wpAnyH _ _ _ _ _ _ #[false, false, false, false, false, false] _ _
  refine wpAnyH_take (i := 0) (v := (.pointer (some ⟨g, 0, none⟩))) rfl (by kernel_rfl) (by kernel_rfl) (by kernel_rfl) (fun _ _ _ h => h) (Or.inl ⟨by kernel_rfl, fun w hSw => ?_⟩) (by assumption) ?_
  · (try dsimp only at hSw); go_simp <;> (try rfl)
  change wpAnyH _ _ _ _ _ _ _ (Act.put _ (some (31 : Nat)) (.pointer (some ⟨g, 0, none⟩))) _
  simp only [Act.put, List.setIfInBounds_toArray, List.set_cons_zero, List.set_cons_succ]
  refine wpAnyH_take (i := 1) (v := (.pointer (some ⟨g, 0, none⟩))) rfl (by kernel_rfl) (by kernel_rfl) (by kernel_rfl) (fun _ _ _ h => h) (Or.inl ⟨by kernel_rfl, fun w hSw => ?_⟩) (by assumption) ?_
  · (try dsimp only at hSw); go_simp <;> (try rfl)
  change wpAnyH _ _ _ _ _ _ _ (Act.put _ (some (32 : Nat)) (.pointer (some ⟨g, 0, none⟩))) _
  simp only [Act.put, List.setIfInBounds_toArray, List.set_cons_zero, List.set_cons_succ]
  refine wpAnyH_take (i := 2) (v := (.map (some r))) rfl (by kernel_rfl) (by kernel_rfl) (by kernel_rfl) (fun _ _ _ h => h) (yields_load_at (by kernel_rfl) 103 (.tmp 32) rfl (.pointer (some ⟨g, 0, none⟩)) (by simp [Act.eval]) (.map (some r)) (fun W hW => load_one' (Try.agg_mapD W) (hW.1.cellAt rfl))) (by assumption) ?_
  change wpAnyH _ _ _ _ _ _ _ (Act.put _ (some (33 : Nat)) (.map (some r))) _
  simp only [Act.put, List.setIfInBounds_toArray, List.set_cons_zero, List.set_cons_succ]
  refine wpAnyH_take (i := 3) (v := (.agg kcs.toArray)) rfl (by kernel_rfl) (by kernel_rfl) (by kernel_rfl) (fun _ _ _ h => h) (yields_load_at (by kernel_rfl) 154 (.tmp 3) rfl (.pointer (some ⟨b3, 0, none⟩)) (by simp [Act.eval]) (.agg kcs.toArray) (fun W hW => hW.2.loadAt 154 _ Try.underlying154 rfl (by rw [HKl.out]; kernel_rfl))) (by assumption) ?_
  change wpAnyH _ _ _ _ _ _ _ (Act.put _ (some (34 : Nat)) (.agg kcs.toArray)) _
  simp only [Act.put, List.setIfInBounds_toArray, List.set_cons_zero, List.set_cons_succ]
  refine wpAnyH_take (i := 4) (v := (.int .u64 1)) rfl (by kernel_rfl) (by kernel_rfl) (by kernel_rfl) (fun _ _ _ h => h) (Or.inl ⟨by kernel_rfl, fun w hSw => ?_⟩) (by assumption) ?_
  · (try dsimp only at hSw); go_simp <;> (try rfl)
  change wpAnyH _ _ _ _ _ _ _ (Act.put _ (some (35 : Nat)) (.int .u64 1)) _
  simp only [Act.put, List.setIfInBounds_toArray, List.set_cons_zero, List.set_cons_succ]
  refine wpAnyH_ready (rs := [5]) (by kernel_rfl) (by simp) ?_
  refine AllReadyH.cons (o := ⟨none, .mapUpdate 103 (.tmp 33) (.tmp 34) (.tmp 35), _, _, _, none⟩) rfl (fun K hK => ?_) AllReadyH.nil
  refine step_update_ord Try.keyedD (by kernel_rfl) (.tmp 33) (.tmp 34) (.tmp 35) rfl HM.out.drew x HNx.out (by simp [Act.eval]) (by simp [Act.eval, HKv.out]) (by simp [Act.eval, HNum.out]) ?_; intro wu hmu hgu; have HMu := Lib.hid hmu; have hmap := HM.out.at; have HBu := Lib.hid (HB.out.drew.grown hgu (blk_ne_mapD HB.out.drew hmap)); have H3u := Lib.hid (H3.out.drew.grown hgu (blk_ne_mapD H3.out.drew hmap)); have HOu := Lib.hid (HO.out.keep (fun k e => hgu.block k (HO.out.lt k e) (fun e' => HNe.out k e (Option.some.inj e')))); have HFu := Lib.hid (HF.out.drew.trans (KF.turn hgu (HM.out.2 r rfl).1 ⟨_, _, _, 0, HB.out.drew, rfl⟩ hmap)); clear hmu hgu hmap
  refine hK.out _ _ ⟨HBu.out, H3u.out⟩ (fun hHeld1 => ?_)
  clear hHeld hK K
  have hHeld := hHeld1
  clear hHeld1
  change wpAnyH _ _ _ _ _ _ _ (Act.put _ none undef) _
  simp only [Act.put]
  refine wpAnyH_done (by kernel_rfl) ?_ _
  go_wp2
  go_ret
  exact ⟨by rw [HOrd.out]; rfl, ⟨some r, m2, HBu.out, HMu.out, HOu.out, fun k e1 e2 => HNe.out k e2 (Option.some.inj e1).symm⟩, HFu.out⟩

theorem ordD_any (g : Nat) (ds : List DK) (ts : List TK) (x : DK) (w : World) (h : BS w g ds ts) (hl : ds.length < 9223372036854775807) :
    Calls Try.prog 121 #[.pointer (some ⟨g, 0, none⟩), encD x] w fun e w' => e = .returned (.int .u64 (ord x (also x ds) : Int)) ∧ BS w' g (also x ds) ts ∧ KF g w w' := by
  obtain ⟨m1, m2, h⟩ := h
  by_cases hx : x ∈ ds
  · refine (ordD_hit g m1 m2 ds ts x hx w h).mono ?_
    rintro e w' ⟨rfl, hb⟩
    rw [also_mem hx]
    exact ⟨rfl, ⟨m1, m2, h.through hb⟩, KF.of_below h.1.lt hb⟩
  · cases m1 with
    | none => exact ordD_none g m2 ds ts x hx w h
    | some r => exact ordD_some g m2 r ds ts x hx w h hl

end Go.Proofs.Ytgbobemhogeeeaa
