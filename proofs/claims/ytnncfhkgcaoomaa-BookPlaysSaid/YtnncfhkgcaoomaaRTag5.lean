/-
  The document's Tag and Check of a book.
-/
import Derived.Test.YtnncfhkgcaoomaaRFind
import Derived.Test.YtnncfhkgcaoomaaRNum5
import Derived.Test.YtnncfhkgcaoomaaBAsk
import Derived.RegionTactic
import Derived.ChangeAlike
import Derived.StillTailTactics
import Derived.Deep.QuietTactic
import Derived.Outline
namespace Go.Proofs.Ytnncfhkgcaoomaa
open Go.RowKit

theorem own_other {w w' : World} {b1 b2 n1 n2 s1 s2 : Nat} {e1 e2 : TypeId} {v1 v2 : Value} {y1 y2 : List Value} (h1 : w.ownsRow b1 e1 s1 v1 n1 y1) (h2 : w.ownsRow b2 e2 s2 v2 n2 y2) (he : e1 ≠ e2) (ho : w.grownBy w' v2.ownBlock) : w'.ownsRow b1 e1 s1 v1 n1 y1 :=
  own_at h1 fun k _ hl hc _ => ho.block k hl fun e => by
    rcases h2.2 with ⟨rfl, _⟩ | ⟨b, cap, cur, rfl, _, hb, _⟩
    · cases e
    · obtain rfl : b = k := (Option.some.inj e).symm
      obtain ⟨cs, fr, hc⟩ := hc
      rw [hb] at hc
      injection hc with hc
      injection hc with _ e2
      exact he e2.symm
theorem place_mem {x : TK} {ts : List TK} (h : x ∈ ts) : place x ts = (ord x ts : Int) - 1 := if_pos h
theorem place_not {x : TK} {ts : List TK} (h : x ∉ ts) : place x ts = -1 := if_neg h

set_option maxHeartbeats 8000000 in
set_option maxRecDepth 100000 in
theorem rtag5_hit (Q : Nat → Prop) (g : Nat) (ds : List DK) (ts : List TK) (a b : Int) (t : List UInt8) (A : Option Addr) (n c : Nat) (w : World) (h : RB w g ds ts) (hby : By w Q A n t) (hl : ts.length < 100000000) (hx : (a, b, t) ∈ ts) :
    Calls Try.prog 9 #[.pointer (some ⟨g, 0, none⟩), .int .i64 a, .int .i64 b, .slice A n c] w fun e w' => e = .returned (.agg (vs (numB 255 (ord (a, b, t) ts))).toArray) ∧ RB w' g ds ts ∧ RF g w w' := by
  have hg := h.lt
  obtain ⟨s, hs⟩ : ∃ s : ByteArray, s = ⟨t.toArray⟩ := ⟨_, rfl⟩
  have hcv : ∀ o, (convert 33 9 (.slice A n c)).run Try.prog (w.alloc o) = .ok (.string s) (w.alloc o) := fun o => by rw [hs]; exact str_any Q c (hby.alloc o)
  have hkx : saidC (a, b, t) = [.int .i64 a, .int .i64 b, .string s] := by rw [hs]; rfl
  obtain ⟨r, hr⟩ : ∃ r, r = vs (numB 255 (ord (a, b, t) ts)) := ⟨_, rfl⟩
  have hrl : r.length = 32 := by rw [hr, vs_length, numB_length]
  have hro : r.toArray.all (·.oneCell') = true := by rw [hr]; exact one_u8
  have hm1 : (a, b, t) ∈ ts := hx
  have hol := ord_le hm1
  have hl1 : (ts : List TK).length < 1000000000 := by omega
  obtain ⟨p, hp⟩ : ∃ p : Int, p = place (a, b, t) ts := ⟨_, rfl⟩
  have hpo : p = (ord (a, b, t) ts : Int) - 1 := by rw [hp, place_mem hm1]
  have ho1 : 1 ≤ ord (a, b, t) ts := by unfold ord; omega
  have hp0 : 0 ≤ p := by omega
  have hp9 : p < 1000000000 := by omega
  have hfind : ∀ W, RB W g ds ts → Calls Try.prog 22 #[.pointer (some ⟨g, 0, none⟩), .agg #[.int .i64 a, .int .i64 b, .string s]] W fun e w' => e = .returned (.int .i64 p) ∧ Below W.heap.size W w' := fun W h1 => by
    rw [hp]
    have h2 := rfind_any g ds ts (a, b, t) hl1 W h1
    rw [hkx] at h2
    exact h2
  have hnum : ∀ W, Calls Try.prog 21 #[.int .u8 255, .int .i64 (p + 1)] W fun e w' => e = .returned (.agg r.toArray) ∧ Below W.heap.size W w' := fun W => by
    have h2 := rnum5_any 255 (ord (a, b, t) ts) (by omega) W
    have e1 : ((ord (a, b, t) ts : Nat) : Int) = p + 1 := by omega
    rw [e1, ← hr] at h2
    exact h2
  have hpw : wrap64 (p + 1) = p + 1 := by unfold wrap64; omega
  have hpw2 : IntKind.i64.wrap (p + 1) = p + 1 := IntWalk.i64_in _ (by omega)
  have hpl : decide (p < 0) = false := by simp; omega
  have HFind := Lib.hid hfind
  have HNum := Lib.hid hnum
  have HRl := Lib.hid hrl
  have HRo := Lib.hid hro
  obtain ⟨v1, v2, h⟩ := h
  have h : RB2 w g v1 v2 ds ts := h
  have HRB := Lib.hid h
  rw [← hr]
  clear h hby hs hkx hr hrl hro hm1 hol hl1 hp hpo ho1 hfind hnum hx
  go_enter Try.func9, Try.ntmps9
  go_wp2_with (first
    | (refine wpList_store_blk rfl 63 (.tmp 9) (.tmp 14) rfl (w.heap.size + 1) [.int .i64 a, .int .i64 b, .string s] rfl rfl 63 [.int .i64 0, .int .i64 0, .string ⟨#[]⟩] (Blk.fresh (by simp) (by kernel_rfl)) (by kernel_rfl) rfl (by simp [Value.oneCell']) ?_; intro w1 hb1 ho1; have HB1 := Lib.hid hb1; have HL1 : Hid (Below w.heap.size w w1) := Lib.hid ((((Below.refl _ w).alloc (Nat.le_refl _) _).alloc (by simp) _).grown ho1 (by simp only [World.size_alloc]; omega) (fun k hk => Option.some.inj hk ▸ Nat.le_succ _)); have HA1 : Hid (Blk w1 w.heap.size 35 (vs zero32)) := Lib.hid (((Blk.fresh rfl (by kernel_rfl)).alloc _).grown ho1 (fun e => absurd (Option.some.inj e) (by omega))); have HR1 := Lib.hid (HRB.out.through HL1.out); have HX1 := Lib.hid (RF.of_below hg HL1.out); clear hb1 ho1)
    | (refine wpList_load_blk rfl 63 (.tmp 9) rfl (w.heap.size + 1) rfl 63 [.int .i64 a, .int .i64 b, .string s] _ HB1.out Try.underlying63 rfl (by kernel_rfl) ?_)
    | (go_at_call 22; (with_reducible refine (HFind.out _ HR1.out.rb).mono ?_); rintro e w2 ⟨rfl, hb⟩; have HX2 := Lib.hid (HX1.out.below hg hb); have HB2 := Lib.hid (HB1.out.through hb); have HA2 := Lib.hid (HA1.out.through hb); have HR2 := Lib.hid (HR1.out.through hb); clear hb)
    | (refine wpList_load_blk rfl 63 (.tmp 9) rfl (w.heap.size + 1) rfl 63 [.int .i64 a, .int .i64 b, .string s] _ HB2.out Try.underlying63 rfl (by kernel_rfl) ?_)
    | (go_at_call 22; (with_reducible refine (HFind.out _ HR2.out.rb).mono ?_); rintro e w3 ⟨rfl, hb⟩; have HX3 := Lib.hid (HX2.out.below hg hb); have HB3 := Lib.hid (HB2.out.through hb); have HA3 := Lib.hid (HA2.out.through hb); have HR3 := Lib.hid (HR2.out.through hb); clear hb)
    | (go_at_call 21; (with_reducible refine (HNum.out _).mono ?_); rintro e w4 ⟨rfl, hb⟩; have HX4 := Lib.hid (HX3.out.below hg hb); have HB4 := Lib.hid (HB3.out.through hb); have HA4 := Lib.hid (HA3.out.through hb); have HR4 := Lib.hid (HR3.out.through hb); clear hb)
    | (refine wpList_store_blk rfl 35 (.tmp 8) (.tmp 33) rfl w.heap.size r rfl rfl 35 (vs zero32) HA4.out (by rw [HRl.out]; kernel_rfl) (by rw [HRl.out]; rfl) HRo.out ?_; intro w5 hb5 ho5; have HA5 := Lib.hid hb5; have HR5 := Lib.hid (HR4.out.cell HA4.out ho5 (Nat.ne_of_gt hg) (by decide) (by decide)); have HX5 := Lib.hid (HX4.out.grownB ho5 (Nat.le_refl _) hg); clear hb5 ho5))
  refine bodyPost_ret (v := .agg r.toArray) (results_cell_row rfl _ _ w.heap.size 35 _ (0, 0) _ rfl HA5.out Try.underlying35 rfl ?r1) rfl ⟨rfl, HR5.out.rb, HX5.out⟩
  rw [List.size_toArray, HRl.out]; kernel_rfl

set_option maxHeartbeats 8000000 in
set_option maxRecDepth 100000 in
theorem rtag5_new (Q : Nat → Prop) (g : Nat) (ds : List DK) (ts : List TK) (a b : Int) (t : List UInt8) (A : Option Addr) (n c : Nat) (w : World) (h : RB w g ds ts) (hby : By w Q A n t) (hl : ts.length < 100000000) (hx : (a, b, t) ∉ ts) :
    Calls Try.prog 9 #[.pointer (some ⟨g, 0, none⟩), .int .i64 a, .int .i64 b, .slice A n c] w fun e w' => e = .returned (.agg (vs (numB 255 (ord (a, b, t) (ts ++ [(a, b, t)])))).toArray) ∧ RB w' g ds (ts ++ [(a, b, t)]) ∧ RF g w w' := by
  have hg := h.lt
  obtain ⟨s, hs⟩ : ∃ s : ByteArray, s = ⟨t.toArray⟩ := ⟨_, rfl⟩
  have hcv : ∀ o, (convert 33 9 (.slice A n c)).run Try.prog (w.alloc o) = .ok (.string s) (w.alloc o) := fun o => by rw [hs]; exact str_any Q c (hby.alloc o)
  have hkx : saidC (a, b, t) = [.int .i64 a, .int .i64 b, .string s] := by rw [hs]; rfl
  obtain ⟨r, hr⟩ : ∃ r, r = vs (numB 255 (ord (a, b, t) (ts ++ [(a, b, t)]))) := ⟨_, rfl⟩
  have hrl : r.length = 32 := by rw [hr, vs_length, numB_length]
  have hro : r.toArray.all (·.oneCell') = true := by rw [hr]; exact one_u8
  have hm1 : (a, b, t) ∈ (ts ++ [(a, b, t)]) := by simp
  have hol := ord_le hm1
  have hl1 : ((ts ++ [(a, b, t)]) : List TK).length < 1000000000 := by rw [List.length_append]; simp only [List.length_singleton]; omega
  obtain ⟨p, hp⟩ : ∃ p : Int, p = place (a, b, t) (ts ++ [(a, b, t)]) := ⟨_, rfl⟩
  have hpo : p = (ord (a, b, t) (ts ++ [(a, b, t)]) : Int) - 1 := by rw [hp, place_mem hm1]
  have ho1 : 1 ≤ ord (a, b, t) (ts ++ [(a, b, t)]) := by unfold ord; omega
  have hp0 : 0 ≤ p := by omega
  have hp9 : p < 1000000000 := by omega
  have hfind : ∀ W, RB W g ds (ts ++ [(a, b, t)]) → Calls Try.prog 22 #[.pointer (some ⟨g, 0, none⟩), .agg #[.int .i64 a, .int .i64 b, .string s]] W fun e w' => e = .returned (.int .i64 p) ∧ Below W.heap.size W w' := fun W h1 => by
    rw [hp]
    have h2 := rfind_any g ds (ts ++ [(a, b, t)]) (a, b, t) hl1 W h1
    rw [hkx] at h2
    exact h2
  have hnum : ∀ W, Calls Try.prog 21 #[.int .u8 255, .int .i64 (p + 1)] W fun e w' => e = .returned (.agg r.toArray) ∧ Below W.heap.size W w' := fun W => by
    have h2 := rnum5_any 255 (ord (a, b, t) (ts ++ [(a, b, t)])) (by omega) W
    have e1 : ((ord (a, b, t) (ts ++ [(a, b, t)]) : Nat) : Int) = p + 1 := by omega
    rw [e1, ← hr] at h2
    exact h2
  have hpw : wrap64 (p + 1) = p + 1 := by unfold wrap64; omega
  have hpw2 : IntKind.i64.wrap (p + 1) = p + 1 := IntWalk.i64_in _ (by omega)
  have hpl : decide (p < 0) = false := by simp; omega
  have hfind0 : ∀ W, RB W g ds ts → Calls Try.prog 22 #[.pointer (some ⟨g, 0, none⟩), .agg #[.int .i64 a, .int .i64 b, .string s]] W fun e w' => e = .returned (.int .i64 (-1)) ∧ Below W.heap.size W w' := fun W h1 => by
    have h2 := rfind_any g ds ts (a, b, t) (by omega) W h1
    rw [hkx, place_not hx] at h2
    exact h2
  have HFind0 := Lib.hid hfind0
  have hsn : saids ts ++ [.int .i64 a, .int .i64 b, .string s] = saids (ts ++ [(a, b, t)]) := by rw [← hkx]; exact saids_snoc ts _
  have hlen1 : (ts ++ [(a, b, t)]).length = ts.length + 1 := by simp
  have HSn := Lib.hid hsn
  have HLen := Lib.hid hlen1
  clear hfind0 hsn hlen1
  have HFind := Lib.hid hfind
  have HNum := Lib.hid hnum
  have HRl := Lib.hid hrl
  have HRo := Lib.hid hro
  obtain ⟨v1, v2, h⟩ := h
  have h : RB2 w g v1 v2 ds ts := h
  have HRB := Lib.hid h
  rw [← hr]
  clear h hby hs hkx hr hrl hro hm1 hol hl1 hp hpo ho1 hfind hnum hx
  go_enter Try.func9, Try.ntmps9
  go_wp2_with (first
    | (refine wpList_store_blk rfl 63 (.tmp 9) (.tmp 14) rfl (w.heap.size + 1) [.int .i64 a, .int .i64 b, .string s] rfl rfl 63 [.int .i64 0, .int .i64 0, .string ⟨#[]⟩] (Blk.fresh (by simp) (by kernel_rfl)) (by kernel_rfl) rfl (by simp [Value.oneCell']) ?_; intro w1 hb1 ho1; have HB1 := Lib.hid hb1; have HL1 : Hid (Below w.heap.size w w1) := Lib.hid ((((Below.refl _ w).alloc (Nat.le_refl _) _).alloc (by simp) _).grown ho1 (by simp only [World.size_alloc]; omega) (fun k hk => Option.some.inj hk ▸ Nat.le_succ _)); have HA1 : Hid (Blk w1 w.heap.size 35 (vs zero32)) := Lib.hid (((Blk.fresh rfl (by kernel_rfl)).alloc _).grown ho1 (fun e => absurd (Option.some.inj e) (by omega))); have HR1 := Lib.hid (HRB.out.through HL1.out); have HX1 := Lib.hid (RF.of_below hg HL1.out); clear hb1 ho1)
    | (refine wpList_load_blk rfl 63 (.tmp 9) rfl (w.heap.size + 1) rfl 63 [.int .i64 a, .int .i64 b, .string s] _ HB1.out Try.underlying63 rfl (by kernel_rfl) ?_)
    | (go_at_call 22; (with_reducible refine (HFind0.out _ HR1.out.rb).mono ?_); rintro e w2 ⟨rfl, hb⟩; have HX2 := Lib.hid (HX1.out.below hg hb); have HB2 := Lib.hid (HB1.out.through hb); have HA2 := Lib.hid (HA1.out.through hb); have HR2 := Lib.hid (HR1.out.through hb); clear hb))
  obtain ⟨A2, c2, rfl, _, _, hob⟩ := own_formS HRB.out.2.2
  obtain ⟨i0, hi, hz0, hz1, hz2⟩ := info_parts Try.info_said
  have hgz : g < w2.heap.size := HR2.out.1.lt
  obtain ⟨n2, hn2⟩ : ∃ n2, n2 = ts.length := ⟨_, rfl⟩
  have HV2 : Hid (w2.ownsRow (g + 1) 63 3 (.slice A2 n2 c2) n2 (saids ts)) := Lib.hid (by rw [hn2]; exact HR2.out.2.2)
  have HG2 : Hid (Blk w2 g 30 [v1, .slice A2 n2 c2]) := Lib.hid (by rw [hn2]; exact HR2.out.1)
  have HV1 := Lib.hid HR2.out.2.1
  have hob2 : ∀ k, (Value.slice A2 n2 c2).ownBlock = some k → g + 1 ≤ k ∧ k < w.heap.size := by rw [hn2]; exact hob
  have hnl : n2 < 1000000 + 100000000 := by omega
  have HLen2 : Hid ((ts ++ [(a, b, t)]).length = n2 + 1) := Lib.hid (by rw [HLen.out, hn2])
  obtain ⟨b8, hb8⟩ : ∃ b8, b8 = w.heap.size := ⟨_, rfl⟩
  obtain ⟨b9, hb9⟩ : ∃ b9, b9 = w.heap.size + 1 := ⟨_, rfl⟩
  rw [← hb8] at HA2
  rw [← hb9] at HB2
  rw [← hb9, ← hb8]
  have h8w : w.heap.size ≤ b8 := by omega
  have h8g : b8 ≠ g := by omega
  have h9g : b9 ≠ g := by omega
  have hob3 : ∀ k, (Value.slice A2 n2 c2).ownBlock = some k → k ≠ b8 ∧ k ≠ b9 ∧ k ≠ g := fun k hk => by have := hob2 k hk; omega
  clear hb8 hb9 hob hob2 hn2
  try dsimp only [Act.put]
  have HGp := Lib.hid HG2.out.drew
  have HBp := Lib.hid HB2.out.drew
  have HAp := Lib.hid HA2.out.drew
  have HV2p : Hid (w2.drew.ownsRow (g + 1) 63 3 (.slice A2 n2 c2) n2 (saids ts)) := Lib.hid HV2.out
  have HV1p : Hid (w2.drew.ownsRow (g + 1) 9 1 v1 ds.length (strs ds)) := Lib.hid HV1.out
  refine wp_region_held_drew (S := fun W => Blk W b9 63 [.int .i64 a, .int .i64 b, .string s]) (by kernel_rfl) HBp.out (fun hHeld => ?_)
  change wpAnyH _ _ _ _ _ _ #[false, false, false, false, false, false, false, false, false, false, false] _ _
  refine wpAnyH_take (i := 0) (v := (.pointer (some ⟨g, 0, none⟩))) rfl (by kernel_rfl) (by kernel_rfl) (by kernel_rfl) (fun _ _ _ h => h) (Or.inl ⟨by kernel_rfl, fun w hSw => ?_⟩) (by assumption) ?_
  · (try dsimp only at hSw); go_simp <;> (try rfl)
  change wpAnyH _ _ _ _ _ _ _ (Act.put _ (some (19 : Nat)) (.pointer (some ⟨g, 0, none⟩))) _
  simp only [Act.put, List.setIfInBounds_toArray, List.set_cons_zero, List.set_cons_succ]
  refine wpAnyH_take (i := 1) (v := (.pointer (some ⟨g, 0, none⟩))) rfl (by kernel_rfl) (by kernel_rfl) (by kernel_rfl) (fun _ _ _ h => h) (Or.inl ⟨by kernel_rfl, fun w hSw => ?_⟩) (by assumption) ?_
  · (try dsimp only at hSw); go_simp <;> (try rfl)
  change wpAnyH _ _ _ _ _ _ _ (Act.put _ (some (20 : Nat)) (.pointer (some ⟨g, 0, none⟩))) _
  simp only [Act.put, List.setIfInBounds_toArray, List.set_cons_zero, List.set_cons_succ]
  refine wpAnyH_take (i := 2) (v := (.pointer (some ⟨g, 0, none⟩))) rfl (by kernel_rfl) (by kernel_rfl) (by kernel_rfl) (fun _ _ _ h => h) (Or.inl ⟨by kernel_rfl, fun w hSw => ?_⟩) (by assumption) ?_
  · (try dsimp only at hSw); go_simp <;> (try rfl)
  change wpAnyH _ _ _ _ _ _ _ (Act.put _ (some (21 : Nat)) (.pointer (some ⟨g, 0, none⟩))) _
  simp only [Act.put, List.setIfInBounds_toArray, List.set_cons_zero, List.set_cons_succ]
  refine wpAnyH_take (i := 3) (v := (.pointer (some ⟨g, 1, none⟩))) rfl (by kernel_rfl) (by kernel_rfl) (by kernel_rfl) (fun _ _ _ h => h) (Or.inl ⟨by kernel_rfl, fun w hSw => ?_⟩) (by assumption) ?_
  · (try dsimp only at hSw); go_simp <;> (try rfl)
  change wpAnyH _ _ _ _ _ _ _ (Act.put _ (some (22 : Nat)) (.pointer (some ⟨g, 1, none⟩))) _
  simp only [Act.put, List.setIfInBounds_toArray, List.set_cons_zero, List.set_cons_succ]
  refine wpAnyH_take (i := 5) (v := (.agg #[.int .i64 a, .int .i64 b, .string s])) rfl (by kernel_rfl) (by kernel_rfl) (by kernel_rfl) (fun _ _ _ h => h) (yields_load_at (by kernel_rfl) 63 (.tmp 9) rfl (.pointer (some ⟨b9, 0, none⟩)) (by simp [Act.eval]) (.agg #[.int .i64 a, .int .i64 b, .string s]) (fun W hW => hW.loadAt 63 _ Try.underlying63 rfl (by kernel_rfl))) (by assumption) ?_
  change wpAnyH _ _ _ _ _ _ _ (Act.put _ (some (24 : Nat)) (.agg #[.int .i64 a, .int .i64 b, .string s])) _
  simp only [Act.put, List.setIfInBounds_toArray, List.set_cons_zero, List.set_cons_succ]
  refine wpAnyH_ready (rs := [4, 6]) (by kernel_rfl) (by simp) ?_
  refine AllReadyH.cons (o := ⟨some 23, .load 28 (.tmp 22), _, _, _, none⟩) rfl (fun K hK => ?_) (AllReadyH.cons (o := ⟨some 25, .buildSlice 28 1 #[(0, .tmp 24)], _, _, _, none⟩) rfl (fun K hK => ?_) AllReadyH.nil)
  · as_aux_lemma =>
    refine step_load_at rfl 28 (.tmp 22) rfl (.pointer (some ⟨g, 1, none⟩)) (by simp [Act.eval]) (.slice A2 n2 c2) (load_one' (Try.agg_ssd _) (HGp.out.cellAt rfl)) ?_
    refine hK.out _ _ HBp.out (fun hHeld1 => ?_)
    clear hHeld hK K
    have hHeld := hHeld1
    clear hHeld1
    change wpAnyH _ _ _ _ _ _ _ (Act.put _ (some (23 : Nat)) (.slice A2 n2 c2)) _
    simp only [Act.put, List.setIfInBounds_toArray, List.set_cons_zero, List.set_cons_succ]
    refine wpAnyH_ready (rs := [6]) (by kernel_rfl) (by simp) ?_
    refine AllReadyH.cons (o := ⟨some 25, .buildSlice 28 1 #[(0, .tmp 24)], _, _, _, none⟩) rfl (fun K hK => ?_) AllReadyH.nil
    refine step_build_one (by kernel_rfl) 28 (.tmp 24) rfl (.agg #[.int .i64 a, .int .i64 b, .string s]) (by simp [Act.eval]) (.slice (some ⟨w2.heap.size, 0, none⟩) 1 1) (w2.drew.alloc (.cells #[.int .i64 a, .int .i64 b, .string s] 63)) (run_build_said w2.drew [.int .i64 a, .int .i64 b, .string s] rfl) ?_; have HGx := Lib.hid (HGp.out.alloc (.cells #[.int .i64 a, .int .i64 b, .string s] 63)); have HBx := Lib.hid (HBp.out.alloc (.cells #[.int .i64 a, .int .i64 b, .string s] 63)); have HAx := Lib.hid (HAp.out.alloc (.cells #[.int .i64 a, .int .i64 b, .string s] 63)); have HV2x := Lib.hid (own_at (w' := w2.drew.alloc (.cells #[.int .i64 a, .int .i64 b, .string s] 63)) HV2p.out (fun k _ hl _ _ => Below.heap_alloc w2.drew _ k hl)); have HV1x := Lib.hid (own_at (w' := w2.drew.alloc (.cells #[.int .i64 a, .int .i64 b, .string s] 63)) HV1p.out (fun k _ hl _ _ => Below.heap_alloc w2.drew _ k hl)); have HXx := Lib.hid (HX2.out.drew.below hg ((Below.refl _ w2.drew).alloc (Nat.le_refl _) (.cells #[.int .i64 a, .int .i64 b, .string s] 63)))
    refine hK.out _ _ HBx.out (fun hHeld1 => ?_)
    clear hHeld hK K
    have hHeld := hHeld1
    clear hHeld1
    change wpAnyH _ _ _ _ _ _ _ (Act.put _ (some (25 : Nat)) (.slice (some ⟨w2.heap.size, 0, none⟩) 1 1)) _
    simp only [Act.put, List.setIfInBounds_toArray, List.set_cons_zero, List.set_cons_succ]
    refine wpAnyH_ready (rs := [7]) (by kernel_rfl) (by simp) ?_
    refine AllReadyH.cons (o := ⟨some 26, .call { callee := .builtin .append, args := #[.tmp 23, .tmp 25], argTypes := #[28, 28] }, _, _, _, none⟩) rfl (fun K hK => ?_) AllReadyH.nil
    refine step_append_lies (w2.drew.alloc (.cells #[.int .i64 a, .int .i64 b, .string s] 63)) rfl (.tmp 23) (.tmp 25) 28 rfl (g + 1) 63 i0 _ 3 32 Try.underlying28 hi hz0 hz1 hz2 (by kernel_rfl) (by decide) (.slice A2 n2 c2) n2 _ (by simp [Act.eval]) HV2x.out ⟨w2.heap.size, 0, none⟩ 1 1 [.int .i64 a, .int .i64 b, .string s] (by simp [Act.eval]) rfl (fun j y hy => row_cell (w := w2.drew.alloc (.cells #[.int .i64 a, .int .i64 b, .string s] 63)) (Blk.fresh rfl rfl) j y hy) (fun u hu => by simp at hu; rcases hu with rfl | rfl | rfl <;> rfl) (by omega) (by unfold maxLen; omega) (by omega) (by simp; omega) _ rfl ?_; intro gc cap wc hoc hgc _ _; have HGc := Lib.hid (HGx.out.grown hgc (fun e => (hob3 _ e.symm).2.2 rfl)); have HBc := Lib.hid (HBx.out.grown hgc (fun e => (hob3 _ e.symm).2.1 rfl)); have HAc := Lib.hid (HAx.out.grown hgc (fun e => (hob3 _ e.symm).1 rfl)); have HV1c := Lib.hid (own_other HV1x.out HV2x.out (by decide) hgc); have HXc := Lib.hid (HXx.out.trans (RF.grownRow HV2x.out (.inr rfl) HGx.out.lt hgc)); rw [HSn.out] at hoc; have HV2c := Lib.hid hoc; clear hoc hgc
    refine hK.out _ _ HBc.out (fun hHeld1 => ?_)
    clear hHeld hK K
    have hHeld := hHeld1
    clear hHeld1
    change wpAnyH _ _ _ _ _ _ _ (Act.put _ (some (26 : Nat)) (.slice (some ⟨gc, 0, none⟩) (n2 + 1) cap)) _
    simp only [Act.put, List.setIfInBounds_toArray, List.set_cons_zero, List.set_cons_succ]
    refine wpAnyH_take (i := 8) (v := (.pointer (some ⟨g, 0, none⟩))) rfl (by kernel_rfl) (by kernel_rfl) (by kernel_rfl) (fun _ _ _ h => h) (Or.inl ⟨by kernel_rfl, fun w hSw => ?_⟩) (by assumption) ?_
    · (try dsimp only at hSw); go_simp <;> (try rfl)
    change wpAnyH _ _ _ _ _ _ _ (Act.put _ (some (27 : Nat)) (.pointer (some ⟨g, 0, none⟩))) _
    simp only [Act.put, List.setIfInBounds_toArray, List.set_cons_zero, List.set_cons_succ]
    refine wpAnyH_take (i := 9) (v := (.pointer (some ⟨g, 1, none⟩))) rfl (by kernel_rfl) (by kernel_rfl) (by kernel_rfl) (fun _ _ _ h => h) (Or.inl ⟨by kernel_rfl, fun w hSw => ?_⟩) (by assumption) ?_
    · (try dsimp only at hSw); go_simp <;> (try rfl)
    change wpAnyH _ _ _ _ _ _ _ (Act.put _ (some (28 : Nat)) (.pointer (some ⟨g, 1, none⟩))) _
    simp only [Act.put, List.setIfInBounds_toArray, List.set_cons_zero, List.set_cons_succ]
    refine wpAnyH_ready (rs := [10]) (by kernel_rfl) (by simp) ?_
    refine AllReadyH.cons (o := ⟨none, .store 28 (.tmp 28) (.tmp 26), _, _, _, none⟩) rfl (fun K hK => ?_) AllReadyH.nil
    refine step_store_cell (by kernel_rfl) 28 (.tmp 28) (.tmp 26) rfl g 1 (by simp [Act.eval]) (.slice (some ⟨gc, 0, none⟩) (n2 + 1) cap) (by simp [Act.eval]) rfl rfl Try.size_ssd 30 [v1, .slice A2 n2 c2] HGc.out (by simp) ?_; intro wd hbd hgd; have HGd : Hid (Blk wd g 30 [v1, .slice (some ⟨gc, 0, none⟩) (n2 + 1) cap]) := Lib.hid hbd; have HBd := Lib.hid (HBc.out.grown hgd (fun e => h9g (Option.some.inj e))); have HAd := Lib.hid (HAc.out.grown hgd (fun e => h8g (Option.some.inj e))); have HV1d := Lib.hid (own_at HV1c.out (fun k hk hl _ _ => hgd.block k hl (fun e => by have := Option.some.inj e; omega))); have HV2d := Lib.hid (own_at HV2c.out (fun k hk hl _ _ => hgd.block k hl (fun e => by have := Option.some.inj e; omega))); have HXd := Lib.hid (HXc.out.trans (RF.self hgd HGc.out.lt)); clear hbd hgd
    refine hK.out _ _ HBd.out (fun hHeld1 => ?_)
    clear hHeld hK K
    have hHeld := hHeld1
    clear hHeld1
    change wpAnyH _ _ _ _ _ _ _ (Act.put _ none undef) _
    simp only [Act.put]
    refine wpAnyH_done (by kernel_rfl) ?_ _
    have HRd : Hid (RB2 wd g v1 (.slice (some ⟨gc, 0, none⟩) (n2 + 1) cap) ds (ts ++ [(a, b, t)])) := Lib.hid ⟨HGd.out, HV1d.out, by rw [HLen2.out]; exact HV2d.out⟩
    go_wp2_with (first
      | (refine wpList_load_blk rfl 63 (.tmp 9) rfl b9 rfl 63 [.int .i64 a, .int .i64 b, .string s] _ HBd.out Try.underlying63 rfl (by kernel_rfl) ?_)
      | (go_at_call 22; (with_reducible refine (HFind.out _ HRd.out.rb).mono ?_); rintro e w3 ⟨rfl, hb⟩; have HX3 := Lib.hid (HXd.out.below hg hb); have HB3 := Lib.hid (HBd.out.through hb); have HA3 := Lib.hid (HAd.out.through hb); have HR3 := Lib.hid (HRd.out.through hb); clear hb)
      | (go_at_call 21; (with_reducible refine (HNum.out _).mono ?_); rintro e w4 ⟨rfl, hb⟩; have HX4 := Lib.hid (HX3.out.below hg hb); have HB4 := Lib.hid (HB3.out.through hb); have HA4 := Lib.hid (HA3.out.through hb); have HR4 := Lib.hid (HR3.out.through hb); clear hb)
      | (refine wpList_store_blk rfl 35 (.tmp 8) (.tmp 33) rfl b8 r rfl rfl 35 (vs zero32) HA4.out (by rw [HRl.out]; kernel_rfl) (by rw [HRl.out]; rfl) HRo.out ?_; intro w5 hb5 ho5; have HA5 := Lib.hid hb5; have HR5 := Lib.hid (HR4.out.cell HA4.out ho5 h8g (by decide) (by decide)); have HX5 := Lib.hid (HX4.out.grownB ho5 h8w hg); clear hb5 ho5))
    refine bodyPost_ret (v := .agg r.toArray) (results_cell_row rfl _ _ b8 35 _ (0, 0) _ rfl HA5.out Try.underlying35 rfl ?r1) rfl ⟨rfl, HR5.out.rb, HX5.out⟩
    rw [List.size_toArray, HRl.out]; kernel_rfl
  · as_aux_lemma =>
    refine step_build_one (by kernel_rfl) 28 (.tmp 24) rfl (.agg #[.int .i64 a, .int .i64 b, .string s]) (by simp [Act.eval]) (.slice (some ⟨w2.heap.size, 0, none⟩) 1 1) (w2.drew.alloc (.cells #[.int .i64 a, .int .i64 b, .string s] 63)) (run_build_said w2.drew [.int .i64 a, .int .i64 b, .string s] rfl) ?_; have HGx := Lib.hid (HGp.out.alloc (.cells #[.int .i64 a, .int .i64 b, .string s] 63)); have HBx := Lib.hid (HBp.out.alloc (.cells #[.int .i64 a, .int .i64 b, .string s] 63)); have HAx := Lib.hid (HAp.out.alloc (.cells #[.int .i64 a, .int .i64 b, .string s] 63)); have HV2x := Lib.hid (own_at (w' := w2.drew.alloc (.cells #[.int .i64 a, .int .i64 b, .string s] 63)) HV2p.out (fun k _ hl _ _ => Below.heap_alloc w2.drew _ k hl)); have HV1x := Lib.hid (own_at (w' := w2.drew.alloc (.cells #[.int .i64 a, .int .i64 b, .string s] 63)) HV1p.out (fun k _ hl _ _ => Below.heap_alloc w2.drew _ k hl)); have HXx := Lib.hid (HX2.out.drew.below hg ((Below.refl _ w2.drew).alloc (Nat.le_refl _) (.cells #[.int .i64 a, .int .i64 b, .string s] 63)))
    refine hK.out _ _ HBx.out (fun hHeld1 => ?_)
    clear hHeld hK K
    have hHeld := hHeld1
    clear hHeld1
    change wpAnyH _ _ _ _ _ _ _ (Act.put _ (some (25 : Nat)) (.slice (some ⟨w2.heap.size, 0, none⟩) 1 1)) _
    simp only [Act.put, List.setIfInBounds_toArray, List.set_cons_zero, List.set_cons_succ]
    refine wpAnyH_ready (rs := [4]) (by kernel_rfl) (by simp) ?_
    refine AllReadyH.cons (o := ⟨some 23, .load 28 (.tmp 22), _, _, _, none⟩) rfl (fun K hK => ?_) AllReadyH.nil
    refine step_load_at rfl 28 (.tmp 22) rfl (.pointer (some ⟨g, 1, none⟩)) (by simp [Act.eval]) (.slice A2 n2 c2) (load_one' (Try.agg_ssd _) (HGx.out.cellAt rfl)) ?_
    refine hK.out _ _ HBx.out (fun hHeld1 => ?_)
    clear hHeld hK K
    have hHeld := hHeld1
    clear hHeld1
    change wpAnyH _ _ _ _ _ _ _ (Act.put _ (some (23 : Nat)) (.slice A2 n2 c2)) _
    simp only [Act.put, List.setIfInBounds_toArray, List.set_cons_zero, List.set_cons_succ]
    refine wpAnyH_ready (rs := [7]) (by kernel_rfl) (by simp) ?_
    refine AllReadyH.cons (o := ⟨some 26, .call { callee := .builtin .append, args := #[.tmp 23, .tmp 25], argTypes := #[28, 28] }, _, _, _, none⟩) rfl (fun K hK => ?_) AllReadyH.nil
    refine step_append_lies (w2.drew.alloc (.cells #[.int .i64 a, .int .i64 b, .string s] 63)) rfl (.tmp 23) (.tmp 25) 28 rfl (g + 1) 63 i0 _ 3 32 Try.underlying28 hi hz0 hz1 hz2 (by kernel_rfl) (by decide) (.slice A2 n2 c2) n2 _ (by simp [Act.eval]) HV2x.out ⟨w2.heap.size, 0, none⟩ 1 1 [.int .i64 a, .int .i64 b, .string s] (by simp [Act.eval]) rfl (fun j y hy => row_cell (w := w2.drew.alloc (.cells #[.int .i64 a, .int .i64 b, .string s] 63)) (Blk.fresh rfl rfl) j y hy) (fun u hu => by simp at hu; rcases hu with rfl | rfl | rfl <;> rfl) (by omega) (by unfold maxLen; omega) (by omega) (by simp; omega) _ rfl ?_; intro gc cap wc hoc hgc _ _; have HGc := Lib.hid (HGx.out.grown hgc (fun e => (hob3 _ e.symm).2.2 rfl)); have HBc := Lib.hid (HBx.out.grown hgc (fun e => (hob3 _ e.symm).2.1 rfl)); have HAc := Lib.hid (HAx.out.grown hgc (fun e => (hob3 _ e.symm).1 rfl)); have HV1c := Lib.hid (own_other HV1x.out HV2x.out (by decide) hgc); have HXc := Lib.hid (HXx.out.trans (RF.grownRow HV2x.out (.inr rfl) HGx.out.lt hgc)); rw [HSn.out] at hoc; have HV2c := Lib.hid hoc; clear hoc hgc
    refine hK.out _ _ HBc.out (fun hHeld1 => ?_)
    clear hHeld hK K
    have hHeld := hHeld1
    clear hHeld1
    change wpAnyH _ _ _ _ _ _ _ (Act.put _ (some (26 : Nat)) (.slice (some ⟨gc, 0, none⟩) (n2 + 1) cap)) _
    simp only [Act.put, List.setIfInBounds_toArray, List.set_cons_zero, List.set_cons_succ]
    refine wpAnyH_take (i := 8) (v := (.pointer (some ⟨g, 0, none⟩))) rfl (by kernel_rfl) (by kernel_rfl) (by kernel_rfl) (fun _ _ _ h => h) (Or.inl ⟨by kernel_rfl, fun w hSw => ?_⟩) (by assumption) ?_
    · (try dsimp only at hSw); go_simp <;> (try rfl)
    change wpAnyH _ _ _ _ _ _ _ (Act.put _ (some (27 : Nat)) (.pointer (some ⟨g, 0, none⟩))) _
    simp only [Act.put, List.setIfInBounds_toArray, List.set_cons_zero, List.set_cons_succ]
    refine wpAnyH_take (i := 9) (v := (.pointer (some ⟨g, 1, none⟩))) rfl (by kernel_rfl) (by kernel_rfl) (by kernel_rfl) (fun _ _ _ h => h) (Or.inl ⟨by kernel_rfl, fun w hSw => ?_⟩) (by assumption) ?_
    · (try dsimp only at hSw); go_simp <;> (try rfl)
    change wpAnyH _ _ _ _ _ _ _ (Act.put _ (some (28 : Nat)) (.pointer (some ⟨g, 1, none⟩))) _
    simp only [Act.put, List.setIfInBounds_toArray, List.set_cons_zero, List.set_cons_succ]
    refine wpAnyH_ready (rs := [10]) (by kernel_rfl) (by simp) ?_
    refine AllReadyH.cons (o := ⟨none, .store 28 (.tmp 28) (.tmp 26), _, _, _, none⟩) rfl (fun K hK => ?_) AllReadyH.nil
    refine step_store_cell (by kernel_rfl) 28 (.tmp 28) (.tmp 26) rfl g 1 (by simp [Act.eval]) (.slice (some ⟨gc, 0, none⟩) (n2 + 1) cap) (by simp [Act.eval]) rfl rfl Try.size_ssd 30 [v1, .slice A2 n2 c2] HGc.out (by simp) ?_; intro wd hbd hgd; have HGd : Hid (Blk wd g 30 [v1, .slice (some ⟨gc, 0, none⟩) (n2 + 1) cap]) := Lib.hid hbd; have HBd := Lib.hid (HBc.out.grown hgd (fun e => h9g (Option.some.inj e))); have HAd := Lib.hid (HAc.out.grown hgd (fun e => h8g (Option.some.inj e))); have HV1d := Lib.hid (own_at HV1c.out (fun k hk hl _ _ => hgd.block k hl (fun e => by have := Option.some.inj e; omega))); have HV2d := Lib.hid (own_at HV2c.out (fun k hk hl _ _ => hgd.block k hl (fun e => by have := Option.some.inj e; omega))); have HXd := Lib.hid (HXc.out.trans (RF.self hgd HGc.out.lt)); clear hbd hgd
    refine hK.out _ _ HBd.out (fun hHeld1 => ?_)
    clear hHeld hK K
    have hHeld := hHeld1
    clear hHeld1
    change wpAnyH _ _ _ _ _ _ _ (Act.put _ none undef) _
    simp only [Act.put]
    refine wpAnyH_done (by kernel_rfl) ?_ _
    have HRd : Hid (RB2 wd g v1 (.slice (some ⟨gc, 0, none⟩) (n2 + 1) cap) ds (ts ++ [(a, b, t)])) := Lib.hid ⟨HGd.out, HV1d.out, by rw [HLen2.out]; exact HV2d.out⟩
    go_wp2_with (first
      | (refine wpList_load_blk rfl 63 (.tmp 9) rfl b9 rfl 63 [.int .i64 a, .int .i64 b, .string s] _ HBd.out Try.underlying63 rfl (by kernel_rfl) ?_)
      | (go_at_call 22; (with_reducible refine (HFind.out _ HRd.out.rb).mono ?_); rintro e w3 ⟨rfl, hb⟩; have HX3 := Lib.hid (HXd.out.below hg hb); have HB3 := Lib.hid (HBd.out.through hb); have HA3 := Lib.hid (HAd.out.through hb); have HR3 := Lib.hid (HRd.out.through hb); clear hb)
      | (go_at_call 21; (with_reducible refine (HNum.out _).mono ?_); rintro e w4 ⟨rfl, hb⟩; have HX4 := Lib.hid (HX3.out.below hg hb); have HB4 := Lib.hid (HB3.out.through hb); have HA4 := Lib.hid (HA3.out.through hb); have HR4 := Lib.hid (HR3.out.through hb); clear hb)
      | (refine wpList_store_blk rfl 35 (.tmp 8) (.tmp 33) rfl b8 r rfl rfl 35 (vs zero32) HA4.out (by rw [HRl.out]; kernel_rfl) (by rw [HRl.out]; rfl) HRo.out ?_; intro w5 hb5 ho5; have HA5 := Lib.hid hb5; have HR5 := Lib.hid (HR4.out.cell HA4.out ho5 h8g (by decide) (by decide)); have HX5 := Lib.hid (HX4.out.grownB ho5 h8w hg); clear hb5 ho5))
    refine bodyPost_ret (v := .agg r.toArray) (results_cell_row rfl _ _ b8 35 _ (0, 0) _ rfl HA5.out Try.underlying35 rfl ?r2) rfl ⟨rfl, HR5.out.rb, HX5.out⟩
    rw [List.size_toArray, HRl.out]; kernel_rfl

end Go.Proofs.Ytnncfhkgcaoomaa
