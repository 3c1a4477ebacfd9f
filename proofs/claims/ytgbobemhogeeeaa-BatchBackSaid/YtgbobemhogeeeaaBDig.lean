/-
  The program's book: digests.
-/
import Derived.Test.YtgbobemhogeeeaaOrdD
import Derived.Test.YtgbobemhogeeeaaBTag
import Derived.Laws.Cover3
import Derived.WideLaws
import Derived.RegionTactic
import Derived.ChangeAlike
import Derived.StillTailTactics
import Derived.Deep.QuietTactic
import Derived.Outline
namespace Go.Proofs.Ytgbobemhogeeeaa
open Go.RowKit

/-- a kind, as a byte -/
def kb (k : Int) : UInt8 := UInt8.ofNat (k % 256).toNat
theorem kb_wrap (k : Int) : IntKind.u8.wrap k = ((kb k).toNat : Int) := by
  simp only [IntKind.wrap, IntKind.bits, IntKind.signed]
  unfold kb
  rw [UInt8.toNat_ofNat']
  simp
  omega
theorem kb_mod (k : Int) : k % 256 = ((kb k).toNat : Int) := by
  unfold kb
  rw [UInt8.toNat_ofNat']
  omega

set_option maxHeartbeats 4000000 in
set_option maxRecDepth 100000 in
theorem bdig_any (Q : Nat → Prop) (g : Nat) (ds : List DK) (ts : List TK) (k : Int) (t : List UInt8) (A : Option Addr) (n c : Nat) (w : World) (h : BS w g ds ts) (hby : By w Q A n t) (hl : ds.length < 1000000000) :
    Calls Try.prog 116 #[.pointer (some ⟨g, 0, none⟩), .int .i64 k, .slice A n c] w fun e w' => e = .returned (.agg (vs (numB (kb k) (ord (kb k, t) (also (kb k, t) ds)))).toArray) ∧ BS w' g (also (kb k, t) ds) ts ∧ KF g w w' := by
  have hg := h.lt
  have HS := Lib.hid h
  obtain ⟨r, hr⟩ : ∃ r, r = vs (numB (kb k) (ord (kb k, t) (also (kb k, t) ds))) := ⟨_, rfl⟩
  have hrl : r.length = 32 := by rw [hr, vs_length, numB_length]
  have hro : r.toArray.all (·.oneCell') = true := by rw [hr]; exact one_u8
  obtain ⟨s, hs⟩ : ∃ s : ByteArray, s = ⟨t.toArray⟩ := ⟨_, rfl⟩
  have hcv : ∀ o, (convert 40 9 (.slice A n c)).run Try.prog (w.alloc o) = .ok (.string s) (w.alloc o) := fun o => by rw [hs]; exact str_any Q c (hby.alloc o)
  have hord : ∀ W, BS W g ds ts → Calls Try.prog 121 #[.pointer (some ⟨g, 0, none⟩), .agg #[.int .u8 ((kb k).toNat : Int), .string s]] W fun e w' => e = .returned (.int .u64 (ord (kb k, t) (also (kb k, t) ds) : Int)) ∧ BS w' g (also (kb k, t) ds) ts ∧ KF g W w' := fun W h1 => by
    rw [hs]
    exact ordD_any g ds ts (kb k, t) W h1 (by omega)
  have hnb : ∀ W, Calls Try.prog 120 #[.int .u8 ((kb k).toNat : Int), .int .u64 (ord (kb k, t) (also (kb k, t) ds) : Int)] W fun e w' => e = .returned (.agg r.toArray) ∧ Below W.heap.size W w' := fun W => by
    rw [hr]
    have h1 := ord_le (mem_also (kb k, t) ds)
    have h2 := also_length (kb k, t) ds
    exact numbered_any (kb k) _ (by omega) W
  generalize (ord (kb k, t) (also (kb k, t) ds) : Int) = o at hord hnb
  have HRl := Lib.hid hrl
  have HRo := Lib.hid hro
  have HOrd := Lib.hid hord
  have HNb := Lib.hid hnb
  rw [← hr]
  have hkw := kb_wrap k
  have hkm := kb_mod k
  clear h hby hr hrl hro hs hord hnb
  go_enter Try.func116, Try.ntmps116
  go_wp2_with (refine wpList_store_blk rfl 154 (.tmp 7) (.tmp 15) rfl (w.heap.size + 1) [.int .u8 ((kb k).toNat : Int), .string s] rfl rfl 154 [.int .u8 0, .string ⟨#[]⟩] (Blk.fresh (by simp) (by kernel_rfl)) (by kernel_rfl) rfl (by simp [Value.oneCell']) ?_; intro w1 hb1 ho1; have HB1 := Lib.hid hb1; have HA1 : Hid (Blk w1 w.heap.size 83 (vs zero32)) := Lib.hid (((Blk.fresh rfl (by kernel_rfl)).alloc _).grown ho1 (fun e => absurd (Option.some.inj e) (by omega))); have HL1 : Hid (Below w.heap.size w w1) := Lib.hid ((((Below.refl _ w).alloc (Nat.le_refl _) _).alloc (by simp) _).grown ho1 (by simp only [World.size_alloc]; omega) (fun k hk => Option.some.inj hk ▸ Nat.le_succ _)); clear hb1 ho1)
  have HX1 : Hid (KF g w w1) := Lib.hid (KF.of_below hg HL1.out)
  have HS1 : Hid (BS w1 g ds ts) := Lib.hid (HS.out.through HL1.out)
  obtain ⟨b6, hb6⟩ : ∃ b6, b6 = w.heap.size := ⟨_, rfl⟩
  obtain ⟨b7, hb7⟩ : ∃ b7, b7 = w.heap.size + 1 := ⟨_, rfl⟩
  have h6w : w.heap.size ≤ b6 := by omega
  have h67 : b6 ≠ b7 := by omega
  have h6g : g < b6 := by omega
  have h7g : g < b7 := by omega
  rw [← hb6] at HA1
  rw [← hb7] at HB1
  rw [← hb7, ← hb6]
  clear hb6 hb7
  try dsimp only [Act.put]
  refine wp_region_held_drew (S := fun W => Blk W b7 154 [.int .u8 ((kb k).toNat : Int), .string s]) (by kernel_rfl) HB1.out.drew (fun hHeld => ?_)
  change wpAnyH _ _ _ _ _ _ #[false, false, false, false, false, false, false, false, false] _ _
  refine wpAnyH_take (i := 0) (v := (.pointer (some ⟨b7, 0, none⟩))) rfl (by kernel_rfl) (by kernel_rfl) (by kernel_rfl) (fun _ _ _ h => h) (Or.inl ⟨by kernel_rfl, fun w hSw => ?_⟩) (by assumption) ?_
  · (try dsimp only at hSw); go_simp <;> (try rfl)
  change wpAnyH _ _ _ _ _ _ _ (Act.put _ (some (16 : Nat)) (.pointer (some ⟨b7, 0, none⟩))) _
  simp only [Act.put, List.setIfInBounds_toArray, List.set_cons_zero, List.set_cons_succ]
  refine wpAnyH_take (i := 1) (v := (.int .u8 ((kb k).toNat : Int))) rfl (by kernel_rfl) (by kernel_rfl) (by kernel_rfl) (fun _ _ _ h => h) (yields_load_at (by kernel_rfl) 5 (.tmp 16) rfl (.pointer (some ⟨b7, 0, none⟩)) (by simp [Act.eval]) (.int .u8 ((kb k).toNat : Int)) (fun W hW => load_one' (Try.agg_u8 W) (hW.cellAt rfl))) (by assumption) ?_
  change wpAnyH _ _ _ _ _ _ _ (Act.put _ (some (17 : Nat)) (.int .u8 ((kb k).toNat : Int))) _
  simp only [Act.put, List.setIfInBounds_toArray, List.set_cons_zero, List.set_cons_succ]
  refine wpAnyH_take (i := 2) (v := (.pointer (some ⟨g, 0, none⟩))) rfl (by kernel_rfl) (by kernel_rfl) (by kernel_rfl) (fun _ _ _ h => h) (Or.inl ⟨by kernel_rfl, fun w hSw => ?_⟩) (by assumption) ?_
  · (try dsimp only at hSw); go_simp <;> (try rfl)
  change wpAnyH _ _ _ _ _ _ _ (Act.put _ (some (18 : Nat)) (.pointer (some ⟨g, 0, none⟩))) _
  simp only [Act.put, List.setIfInBounds_toArray, List.set_cons_zero, List.set_cons_succ]
  refine wpAnyH_take (i := 3) (v := (.pointer (some ⟨g, 0, none⟩))) rfl (by kernel_rfl) (by kernel_rfl) (by kernel_rfl) (fun _ _ _ h => h) (Or.inl ⟨by kernel_rfl, fun w hSw => ?_⟩) (by assumption) ?_
  · (try dsimp only at hSw); go_simp <;> (try rfl)
  change wpAnyH _ _ _ _ _ _ _ (Act.put _ (some (19 : Nat)) (.pointer (some ⟨g, 0, none⟩))) _
  simp only [Act.put, List.setIfInBounds_toArray, List.set_cons_zero, List.set_cons_succ]
  refine wpAnyH_take (i := 4) (v := (.pointer (some ⟨g, 0, none⟩))) rfl (by kernel_rfl) (by kernel_rfl) (by kernel_rfl) (fun _ _ _ h => h) (Or.inl ⟨by kernel_rfl, fun w hSw => ?_⟩) (by assumption) ?_
  · (try dsimp only at hSw); go_simp <;> (try rfl)
  change wpAnyH _ _ _ _ _ _ _ (Act.put _ (some (20 : Nat)) (.pointer (some ⟨g, 0, none⟩))) _
  simp only [Act.put, List.setIfInBounds_toArray, List.set_cons_zero, List.set_cons_succ]
  refine wpAnyH_take (i := 5) (v := (.agg #[.int .u8 ((kb k).toNat : Int), .string s])) rfl (by kernel_rfl) (by kernel_rfl) (by kernel_rfl) (fun _ _ _ h => h) (yields_load_at (by kernel_rfl) 154 (.tmp 7) rfl (.pointer (some ⟨b7, 0, none⟩)) (by simp [Act.eval]) (.agg #[.int .u8 ((kb k).toNat : Int), .string s]) (fun W hW => hW.loadAt 154 _ Try.underlying154 rfl (by kernel_rfl))) (by assumption) ?_
  change wpAnyH _ _ _ _ _ _ _ (Act.put _ (some (21 : Nat)) (.agg #[.int .u8 ((kb k).toNat : Int), .string s])) _
  simp only [Act.put, List.setIfInBounds_toArray, List.set_cons_zero, List.set_cons_succ]
  refine wpAnyH_ready (rs := [6]) (by kernel_rfl) (by simp) ?_
  refine AllReadyH.cons rfl (fun K hK => ?_) AllReadyH.nil
  go_simp
  refine (HOrd.out _ HS1.out.drew).mono ?_
  rintro e wa ⟨rfl, hsa, hfa⟩; have HSa := Lib.hid hsa; have HXa := Lib.hid (HX1.out.drew.trans hfa); have HBa := Lib.hid (hfa.blk HB1.out.drew (Nat.ne_of_gt h7g)); have HAa := Lib.hid (hfa.blk HA1.out.drew (Nat.ne_of_gt h6g)); clear hsa hfa
  go_wp2_with fail
  refine hK.out _ _ HBa.out (fun hHeld1 => ?_)
  clear hHeld hK K
  have hHeld := hHeld1
  clear hHeld1
  refine wpAnyH_ready (rs := [7]) (by kernel_rfl) (by simp) ?_
  refine AllReadyH.cons rfl (fun K hK => ?_) AllReadyH.nil
  go_simp
  refine (HNb.out _).mono ?_
  rintro e wb ⟨rfl, hb⟩; have HSb := Lib.hid (HSa.out.through hb); have HXb := Lib.hid (HXa.out.below hg hb); have HBb := Lib.hid (HBa.out.through hb); have HAb := Lib.hid (HAa.out.through hb); clear hb
  go_wp2_with fail
  refine hK.out _ _ HBb.out (fun hHeld1 => ?_)
  clear hHeld hK K
  have hHeld := hHeld1
  clear hHeld1
  refine wpAnyH_ready (rs := [8]) (by kernel_rfl) (by simp) ?_
  refine AllReadyH.cons (o := ⟨none, .store 83 (.tmp 6) (.tmp 23), _, _, _, none⟩) rfl (fun K hK => ?_) AllReadyH.nil
  refine step_store_blk rfl 83 (.tmp 6) (.tmp 23) rfl b6 r (by simp [Act.eval]) (by simp [Act.eval]) 83 (vs zero32) HAb.out (by rw [HRl.out]; kernel_rfl) (by rw [HRl.out]; rfl) HRo.out ?_; intro wc hbc hoc; have HBc := Lib.hid (HBb.out.grown hoc (fun e => h67 (Option.some.inj e).symm)); have HAc := Lib.hid hbc; have HSc := Lib.hid (HSb.out.grown HAb.out hoc (Nat.ne_of_lt h6g)); have HXc := Lib.hid (HXb.out.grownB hoc h6w hg); clear hbc hoc
  refine hK.out _ _ HBc.out (fun hHeld1 => ?_)
  clear hHeld hK K
  have hHeld := hHeld1
  clear hHeld1
  change wpAnyH _ _ _ _ _ _ _ (Act.put _ none undef) _
  simp only [Act.put]
  refine wpAnyH_done (by kernel_rfl) ?_ _
  go_wp2
  refine bodyPost_ret (v := .agg r.toArray) (results_cell_row rfl _ _ b6 83 _ (0, 0) _ rfl HAc.out Try.underlying83 rfl ?r1) rfl ⟨rfl, HSc.out, HXc.out⟩
  rw [List.size_toArray, HRl.out]; kernel_rfl

set_option maxHeartbeats 4000000 in
set_option maxRecDepth 100000 in
theorem bdig_nil (k : Int) (A : Option Addr) (n c : Nat) (w : World) :
    Calls Try.prog 116 #[.pointer none, .int .i64 k, .slice A n c] w fun e w' => e = .returned (.agg (vs zero32).toArray) ∧ Below w.heap.size w w' := by
  obtain ⟨r, hr⟩ : ∃ r, r = vs zero32 := ⟨_, rfl⟩
  have hbd : ∀ W, (Instr.build 83 #[]).run Try.prog W = .ok (.agg r.toArray) W := fun W => by rw [hr]; kernel_rfl
  have hrl : r.length = 32 := by rw [hr]; rfl
  have hro : r.toArray.all (·.oneCell') = true := by rw [hr]; exact one_u8
  have HRl := Lib.hid hrl
  have HRo := Lib.hid hro
  rw [← hr]
  clear hr hrl hro
  go_enter Try.func116, Try.ntmps116
  go_wp2_with (first
    | (refine wpList_build_to rfl 83 [] rfl [] rfl (.agg r.toArray) (hbd _) ?_)
    | (refine wpList_store_row rfl 83 (.tmp 6) (.tmp 10) rfl w.heap.size r.toArray rfl rfl 83 (vs zero32).toArray (Blk.fresh rfl (by kernel_rfl)) (by rw [List.size_toArray, HRl.out]; kernel_rfl) (by rw [List.size_toArray, List.size_toArray, HRl.out]; rfl) HRo.out ?_))
  refine bodyPost_ret (v := .agg r.toArray) (results_cell_row rfl _ _ w.heap.size 83 _ (0, 0) _ rfl ((Blk.fresh (cs := vs zero32) rfl (by kernel_rfl)).row _) Try.underlying83 rfl ?r1) rfl ⟨rfl, below_row ((Below.refl _ w).alloc (Nat.le_refl _) _) _ (Nat.le_refl _) _⟩
  rw [List.size_toArray, HRl.out]; kernel_rfl

end Go.Proofs.Ytgbobemhogeeeaa
