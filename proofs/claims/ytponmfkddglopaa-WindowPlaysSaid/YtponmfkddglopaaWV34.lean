/-
  Joined: WpA.
-/
import Derived.Deep.CutBlock
import Derived.Test.YtponmfkddglopaaWV33
import Derived.Test.YtponmfkddglopaaWVT
namespace Go.Proofs.Ytponmfkddglopaa
open Go.RowKit

theorem get_there {f : List Fr} (hn : (f.map Fr.q).Nodup) : ∀ {x : Fr}, x ∈ f → getK x.q (entF f) = some x.v := by
 induction f with
 | nil => intro x hx; cases hx
 | cons y f ih =>
  intro x hx
  rw [List.map_cons, List.nodup_cons] at hn
  show (if x.q = y.q then some y.v else getK x.q (entF f)) = some x.v
  rcases List.mem_cons.1 hx with rfl | hx
  ·rw [if_pos rfl]
  ·rw [if_neg (fun e => hn.1 (by rw [← e]; exact List.mem_map.2 ⟨x, hx, rfl⟩)), ih hn.2 hx]
theorem ent_keys (f : List Fr) : (entF f).map Prod.fst = f.map Fr.q := by
 unfold entF
 rw [List.map_map]
 rfl
theorem get_new {f : List Fr} {q : Int} (hq : q ∉ f.map Fr.q) : getK q (entF f) = none := get_none (by rw [ent_keys]; exact hq)
theorem put_newF {f : List Fr} {q : Int} {v : Value} {D : Nat → Prop} {s : Slt} (hq : q ∉ f.map Fr.q) : putK q v (entF f) = entF (f ++ [⟨q, v, D, s⟩]) := by
 have h : entF (f ++ [⟨q, v, D, s⟩]) = entF f ++ [(q, v)] := by
  unfold entF
  rw [List.map_append]
  rfl
 rw [h]
 rcases fnd_spec q v v (entF f) 0 with ⟨_, _, h3, _⟩ | ⟨i, u, _, h2, _⟩
 ·exact h3
 ·rw [get_new hq] at h2
  cases h2
theorem look_lp {w : World} {gm : Nat} {f : List Fr} (h : MpIs w gm (encK encI (entF f))) (q : Int) : (Instr.lookup 49 (.map (some gm)) (.int .i64 q) false).run Try.prog w = .ok ((getK q (entF f)).getD (.pointer none)) w :=
 h.look Try.key_i64 Try.underlying49 (fun _ _ => trivial) (x := q) trivial (Try.zero_ps w)
set_option maxHeartbeats 16000000 in
set_option maxRecDepth 100000 in
theorem at_lnil (q : Int) (w : World) : Calls Try.prog 7 #[.pointer none, .int .i64 q] w fun e w' => e = .returned (.tuple #[(.pointer none), .int .i64 1]) ∧ w' = w := by
 go_enter Try.func7, Try.ntmps7
 go_wp2_with (first
  | (go_at_call 20; (with_reducible refine (isnone_lnil _).mono ?_); rintro e w9 ⟨rfl, hw9⟩; have hw8 := hw9.symm; clear hw9; subst hw8))
 go_ret2
 exact ⟨rfl, rfl⟩
set_option maxHeartbeats 16000000 in
set_option maxRecDepth 100000 in
theorem at_lout {w : World} {B gm : Nat} {n low : Int} {f : List Fr} (q : Int) (h : PLg w B gm n low f) (hn : 1 ≤ n) (h0 : 0 ≤ low) (h1 : low ≤ 1048576) (hin : inB low q = false) :
  Calls Try.prog 7 #[(.pointer (some ⟨B, 0, none⟩)), .int .i64 q] w fun e w' => e = .returned (.tuple #[(.pointer none), .int .i64 14]) ∧ w' = w := by
 have HB := Lib.hid h.box
 have HN1 := Lib.hid hn
 have HL0 := Lib.hid h0
 have HL1 := Lib.hid h1
 have HIn := Lib.hid hin
 clear h hn h0 h1 hin
 go_enter Try.func7, Try.ntmps7
 go_wp2_with (first
  | (go_at_call 20; (with_reducible refine (isnone_lp _ HB.out HN1.out).mono ?_); rintro e w9 ⟨rfl, hw9⟩; have hw8 := hw9.symm; clear hw9; subst hw8)
  | (go_at_call 10; (with_reducible refine (in_lp q _ HB.out HN1.out HL0.out HL1.out).mono ?_); rintro e w9 ⟨rfl, hw9⟩; have hw8 := hw9.symm; clear hw9; subst hw8; (try rw [HIn.out])))
 go_ret2
 exact ⟨rfl, rfl⟩
set_option maxHeartbeats 16000000 in
set_option maxRecDepth 100000 in
theorem at_lthere {w : World} {B gm : Nat} {n low : Int} {f : List Fr} (q : Int) (h : PLg w B gm n low f) (hn : 1 ≤ n) (h0 : 0 ≤ low) (h1 : low ≤ 1048576) (hin : inB low q = true) {x : Fr} (hx : x ∈ f) (hq : x.q = q) :
  Calls Try.prog 7 #[(.pointer (some ⟨B, 0, none⟩)), .int .i64 q] w fun e w' => e = .returned (.tuple #[x.v, .int .i64 0]) ∧ w' = w := by
 have HB := Lib.hid h.box
 have HN1 := Lib.hid hn
 have HL0 := Lib.hid h0
 have HL1 := Lib.hid h1
 have HIn := Lib.hid hin
 have k2 : w.cell? ⟨B, 2, none⟩ = some (.map (some gm)) := h.box.cellAt rfl
 have hlk := look_lp h.mp q
 rw [← hq, get_there h.nd hx, hq] at hlk
 obtain ⟨R, hR⟩ := ts_ptr (h.fam.has x hx)
 rw [hR] at hlk ⊢
 rw [Option.getD_some] at hlk
 clear h hn h0 h1 hin hR
 go_enter Try.func7, Try.ntmps7
 go_wp2_with (first
  | (go_at_call 20; (with_reducible refine (isnone_lp _ HB.out HN1.out).mono ?_); rintro e w9 ⟨rfl, hw9⟩; have hw8 := hw9.symm; clear hw9; subst hw8)
  | (go_at_call 10; (with_reducible refine (in_lp q _ HB.out HN1.out HL0.out HL1.out).mono ?_); rintro e w9 ⟨rfl, hw9⟩; have hw8 := hw9.symm; clear hw9; subst hw8; (try rw [HIn.out])))
 go_ret2
 exact ⟨rfl, rfl⟩
theorem Try.agg_m64 (w : World) : (isAgg 49).run Try.prog w = .ok false w := by kernel_rfl
theorem look_put {w : World} {gm : Nat} {E : List (Int × Value)} {v : Value} (q : Int) (h : MpIs w gm (encK encI (putK q v E))) : (Instr.lookup 49 (.map (some gm)) (.int .i64 q) false).run Try.prog w = .ok v w := by
 have h9 := h.look Try.key_i64 Try.underlying49 (fun _ _ => trivial) (x := q) trivial (Try.zero_ps w)
 rw [get_put, if_pos rfl] at h9
 exact h9
theorem at_add {w w3 u6 : World} {B gm R : Nat} {n low q : Int} {f : List Fr} {D : Nat → Prop} {s : Slt} (h : PLg w B gm n low f) (hq : q ∉ f.map Fr.q) (hx : Below w.heap.size w w3) (hm : MpIs u6 gm (encK encI (putK q (.pointer (some ⟨R, 0, none⟩)) (entF f)))) (hg : w3.grownBy u6 (some gm)) (hT : TS w3 (.pointer (some ⟨R, 0, none⟩)) D s) (hD : ∀ b, D b → w.heap.size ≤ b) :
  PLg u6 B gm n low (f ++ [⟨q, (.pointer (some ⟨R, 0, none⟩)), D, s⟩]) := by
 have hlt := h.lt
 have hgm := h.mp.lt
 have hfd : ∀ b, FD (f ++ [⟨q, (.pointer (some ⟨R, 0, none⟩)), D, s⟩]) b → FD f b ∨ D b := fun b hb => by
  rcases FD.mid.1 hb with h9 | h9
  ·exact .inr h9
  ·rw [List.append_nil] at h9
   exact .inl h9
 have hf : Ft (fun b => b = gm) w3 u6 := Ft.of_grown hg (fun _ hb => .inl (Option.some.inj hb).symm)
 refine ⟨(hf.blk (h.box.through hx) h.ne), by rw [← put_newF hq]; exact hm, Fam.join (b := []) ?_ ?_ ?_, fun hb => ?_, fun hb => ?_, ?_⟩
 ·rw [List.append_nil]
  exact (h.fam.through ts_kv hx).ft ts_kv hf (fun b hb e => h.nm (e ▸ hb))
 ·exact ts_kv.keep hT hf.size (fun b hb => hf.block b (ts_kv.lt hT b hb) (fun e => by have := hD b hb; omega))
 ·intro y hy b hb h9
  rw [List.append_nil] at hy
  have h10 := hlt b (.inr (.inr ⟨y, hy, h9⟩))
  have := hD b hb
  omega
 ·rcases hfd B hb with h9 | h9
  ·exact h.nb h9
  ·have := hD B h9
   have := h.box.lt
   omega
 ·rcases hfd gm hb with h9 | h9
  ·exact h.nm h9
  ·have := hD gm h9
   omega
 ·rw [List.map_append]
  refine List.nodup_append.2 ⟨h.nd, by simp, fun a ha b hb => ?_⟩
  rw [List.map_cons, List.map_nil, List.mem_singleton] at hb
  rw [hb]
  exact fun (e : a = q) => hq (e ▸ ha)
set_option maxHeartbeats 16000000 in
set_option maxRecDepth 100000 in
theorem at_lnew {w : World} {B gm : Nat} {n low : Int} {f : List Fr} (q : Int) (h : PLg w B gm n low f) (hn : 1 ≤ n) (h0 : 0 ≤ low) (h1 : low ≤ 1048576) (h7 : n ≤ 7) (hin : inB low q = true) (hq : q ∉ f.map Fr.q) :
  Calls Try.prog 7 #[(.pointer (some ⟨B, 0, none⟩)), .int .i64 q] w fun e w' => ∃ R D, e = .returned (.tuple #[(.pointer (some ⟨R, 0, none⟩)), .int .i64 0]) ∧ PLg w' B gm n low (f ++ [⟨q, (.pointer (some ⟨R, 0, none⟩)), D, Slt.no n⟩]) ∧ Ft (fun b => b = gm) w w' ∧ ∀ b, D b → w.heap.size ≤ b := by
 have HB := Lib.hid h.box
 have HN1 := Lib.hid hn
 have HL0 := Lib.hid h0
 have HL1 := Lib.hid h1
 have HIn := Lib.hid hin
 have HN7 := Lib.hid h7
 have HMp := Lib.hid h.mp
 have HP := Lib.hid h
 have HNew := Lib.hid hq
 have HNE := Lib.hid h.ne
 have k2 : w.cell? ⟨B, 2, none⟩ = some (.map (some gm)) := h.box.cellAt rfl
 have hlk := look_lp h.mp q
 rw [get_new hq] at hlk
 rw [Option.getD_none] at hlk
 clear h hn h0 h1 h7 hin hq
 go_enter Try.func7, Try.ntmps7
 go_upto_region 6 with (first | (go_at_call 20; (with_reducible refine (isnone_lp _ HB.out HN1.out).mono ?_); rintro e w9 ⟨rfl, hw9⟩; have hw8 := hw9.symm; clear hw9; subst hw8) | (go_at_call 10; (with_reducible refine (in_lp q _ HB.out HN1.out HL0.out HL1.out).mono ?_); rintro e w9 ⟨rfl, hw9⟩; have hw8 := hw9.symm; clear hw9; subst hw8; (try rw [HIn.out])))
 refine wp_region_held_drew (S := fun W => Blk W B 51 (lpC n low gm)) (by kernel_rfl) HB.out.drew (fun hHeld => ?_)
 change wpAnyH _ _ _ _ _ _ #[false, false, false, false, false, false, false, false, false, false, false] _ _
 refine tkq (i := 0) (d := 22) (v := (.pointer (some ⟨B, 0, none⟩))) rfl rfl (Or.inl ⟨by kernel_rfl, fun w hSw => ?_⟩) (by assumption) ?_
 ·(try dsimp only at hSw); go_simp <;> (try rfl)
 simp only [Act.put, sq1, sq2, sq3]
 refine tkq (i := 1) (d := 23) (v := (.pointer (some ⟨B, 0, none⟩))) rfl rfl (Or.inl ⟨by kernel_rfl, fun w hSw => ?_⟩) (by assumption) ?_
 ·(try dsimp only at hSw); go_simp <;> (try rfl)
 simp only [Act.put, sq1, sq2, sq3]
 refine tkq (i := 2) (d := 24) (v := (.pointer (some ⟨B, 2, none⟩))) rfl rfl (Or.inl ⟨by kernel_rfl, fun w hSw => ?_⟩) (by assumption) ?_
 ·(try dsimp only at hSw); go_simp <;> (try rfl)
 simp only [Act.put, sq1, sq2, sq3]
 refine tkq (i := 3) (d := 25) (v := (.map (some gm))) rfl rfl (yields_load_at (by kernel_rfl) 49 (.tmp 24) rfl (.pointer (some ⟨B, 2, none⟩)) (by simp [Act.eval]) (.map (some gm)) (fun W hW => load_one' (Try.agg_m64 W) (Blk.cellAt hW rfl))) (by assumption) ?_
 simp only [Act.put, sq1, sq2, sq3]
 refine tkq (i := 4) (d := 26) (v := (.int .i64 q)) rfl rfl (Or.inl ⟨by kernel_rfl, fun w hSw => ?_⟩) (by assumption) ?_
 ·(try dsimp only at hSw); go_simp <;> (try rfl)
 simp only [Act.put, sq1, sq2, sq3]
 refine tkq (i := 5) (d := 27) (v := (.pointer (some ⟨B, 0, none⟩))) rfl rfl (Or.inl ⟨by kernel_rfl, fun w hSw => ?_⟩) (by assumption) ?_
 ·(try dsimp only at hSw); go_simp <;> (try rfl)
 simp only [Act.put, sq1, sq2, sq3]
 refine tkq (i := 6) (d := 28) (v := (.pointer (some ⟨B, 0, none⟩))) rfl rfl (Or.inl ⟨by kernel_rfl, fun w hSw => ?_⟩) (by assumption) ?_
 ·(try dsimp only at hSw); go_simp <;> (try rfl)
 simp only [Act.put, sq1, sq2, sq3]
 refine tkq (i := 7) (d := 29) (v := (.pointer (some ⟨B, 0, none⟩))) rfl rfl (Or.inl ⟨by kernel_rfl, fun w hSw => ?_⟩) (by assumption) ?_
 ·(try dsimp only at hSw); go_simp <;> (try rfl)
 simp only [Act.put, sq1, sq2, sq3]
 refine tkq (i := 8) (d := 30) (v := (.int .i64 n)) rfl rfl (yields_load_at (by kernel_rfl) 3 (.tmp 29) rfl (.pointer (some ⟨B, 0, none⟩)) (by simp [Act.eval]) (.int .i64 n) (fun W hW => load_one' (Try.agg_int W) (Blk.cellAt hW rfl))) (by assumption) ?_
 simp only [Act.put, sq1, sq2, sq3]
 refine wpAnyH_ready (rs := [9]) (by kernel_rfl) (by simp) ?_
 refine AllReadyH.cons rfl (fun K hK => ?_) AllReadyH.nil
 go_simp
 refine (ts_new n _ HN1.out HN7.out).mono ?_
 rintro e w3 ⟨R, D, rfl, hT9, hb9, hD9⟩; have HT3 := Lib.hid hT9; have HB3 := Lib.hid (HB.out.drew.through hb9); have HM3 : Hid (MpIs w3 gm (encK encI (entF f))) := Lib.hid ((HMp.out.keep (W' := w.drew) rfl).through hb9); have HX3 : Hid (Below w.heap.size w w3) := Lib.hid (below_step (Below.refl _ w).drew hb9); have HD3 : Hid (∀ b, D b → w.heap.size ≤ b) := Lib.hid hD9; clear hT9 hb9 hD9
 go_wp2_with fail
 refine hK.out _ _ HB3.out (fun hHeld1 => ?_)
 clear hHeld hK K
 have hHeld := hHeld1
 clear hHeld1
 refine wpAnyH_ready (rs := [10]) (by kernel_rfl) (by simp) ?_
 refine AllReadyH.cons (o := ⟨none, .mapUpdate 49 (.tmp 25) (.tmp 26) (.tmp 31), _, _, _, none⟩) rfl (fun K hK => ?_) AllReadyH.nil
 obtain ⟨u6, hr6, hv6, hg6⟩ := HM3.out.upd Try.key_i64 Try.underlying49 (fun _ _ => trivial) (x := q) trivial (.pointer (some ⟨R, 0, none⟩)); have hr7 : (Instr.mapUpdate 49 (.map (some gm)) (.int .i64 q) (.pointer (some ⟨R, 0, none⟩))).run Try.prog w3 = .ok () u6 := hr6; refine step_upd (by kernel_rfl) 49 (.tmp 25) (.tmp 26) (.tmp 31) rfl (.map (some gm)) (.int .i64 q) (.pointer (some ⟨R, 0, none⟩)) (by simp [Act.eval]) (by simp [Act.eval]) (by simp [Act.eval]) u6 hr7 ?_; have HM6 := Lib.hid hv6; have HG6 := Lib.hid hg6; have HB6 := Lib.hid (HB3.out.grown hg6 (fun e => HNE.out (Option.some.inj e))); clear hr6 hr7 hv6 hg6
 refine hK.out _ _ HB6.out (fun hHeld1 => ?_)
 clear hHeld hK K
 have hHeld := hHeld1
 clear hHeld1
 change wpAnyH _ _ _ _ _ _ _ (Act.put _ none undef) _
 simp only [Act.put]
 refine wpAnyH_done (by kernel_rfl) ?_ _
 have hlk6 := look_put q HM6.out
 have k26 := HB6.out.cellAt (i := 2) rfl
 go_wp2
 go_ret2
 exact ⟨R, D, rfl, at_add HP.out HNew.out HX3.out HM6.out HG6.out HT3.out HD3.out, (Ft.of_below HX3.out).trans (D' := fun b => b = gm) (Ft.of_grown HG6.out (fun _ hb => .inl (Option.some.inj hb).symm)) (fun _ hq => .inl hq), HD3.out⟩

end Go.Proofs.Ytponmfkddglopaa
