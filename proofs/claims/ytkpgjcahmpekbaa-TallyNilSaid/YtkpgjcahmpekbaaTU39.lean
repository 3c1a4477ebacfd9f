/-
  Joined: TwOS.
-/
import Derived.BigGuard
import Derived.Test.YtkpgjcahmpekbaaTU38
namespace Go.Proofs.Ytkpgjcahmpekbaa
open Go.RowKit

theorem Try.mk_mvS (w : World) : (Instr.makeMap 97 none).run Try.prog w = .ok (.map (some w.heap.size)) (w.alloc (.map #[] 0)) := by kernel_rfl
theorem Try.mk_mcS (w : World) : (Instr.makeMap 98 none).run Try.prog w = .ok (.map (some w.heap.size)) (w.alloc (.map #[] 0)) := by kernel_rfl
theorem Try.mv_nilS (r : Nat) (w : World) : (binOp .eql 97 (.map (some r)) (.map none)).run Try.prog w = .ok (.bool false) w := by kernel_rfl
set_option maxHeartbeats 16000000 in
set_option maxRecDepth 100000 in
theorem new_S (w : World) :
  Calls Try.prog 51 #[] w fun e w' => ∃ g gv gc, e = .returned (.pointer (some ⟨g, 0, none⟩)) ∧ TlR 100 encS (fun _ => True) w' g gv gc [] ∧ Below w.heap.size w w' ∧ ∀ q, D3 g gv gc q → w.heap.size ≤ q := by
 have hmk1 := Try.mk_mvS
 have hmk2 := Try.mk_mcS
 go_enter Try.func51, Try.ntmps51
 go_wp2
 go_ret
 have x1 : Below w.heap.size w (w.alloc (.map #[] 0)) := below1_ w _
 have x2 : Below (w.alloc (.map #[] 0)).heap.size (w.alloc (.map #[] 0)) ((w.alloc (.map #[] 0)).alloc (.map #[] 0)) := below1_ _ _
 have x3 := below1_ ((w.alloc (.map #[] 0)).alloc (.map #[] 0)) (.cells #[.map (some w.heap.size), .map (some (w.heap.size + 1))] 100)
 have h1 : VMp encS (fun _ => True) (w.alloc (.map #[] 0)) w.heap.size [] := VMp.made w
 have h2 : CMp encS (fun _ => True) ((w.alloc (.map #[] 0)).alloc (.map #[] 0)) (w.heap.size + 1) (fun _ => 0) := by
  have := CMp.made (enc := encS) (ok := (fun _ => True)) (w.alloc (.map #[] 0))
  rwa [World.size_alloc] at this
 refine ⟨w.heap.size + 1 + 1, w.heap.size, w.heap.size + 1, rfl, ⟨Blk.fresh (by simp) rfl, (h1.through x2).through x3, (h2.through x3).congr (fun q => rfl), by omega, List.nodup_nil⟩, below_step (below_step x1 x2) x3, ?_⟩
 rintro q (rfl | rfl | rfl) <;> omega
set_option maxHeartbeats 16000000 in
set_option maxRecDepth 100000 in
theorem len_S {w : World} {g gv gc : Nat} {M : List (Int × (List UInt8))} (h : TlR 100 encS (fun _ => True) w g gv gc M) :
  Calls Try.prog 25 #[(.pointer (some ⟨g, 0, none⟩))] w fun e w' => e = .returned (.int .i64 (M.length : Int)) ∧ w' = w := by
 have c0 : w.cell? ⟨g, 0, none⟩ = some (.map (some gv)) := h.box.cellAt rfl
 have hln := fun ty => h.vm.len Try.underlying97 (P := Try.prog) ty
 clear h
 go_enter Try.func25, Try.ntmps25
 go_wp2
 go_ret
 exact ⟨rfl, rfl⟩
set_option maxHeartbeats 16000000 in
set_option maxRecDepth 100000 in
theorem count_S (g gc : Nat) (a : Value) (f : (List UInt8) → Int) (k : (List UInt8)) (by_ : Int) (w : World) (hg : Blk w g 100 [a, .map (some gc)]) (hc : CMp encS (fun _ => True) w gc f) (hf1 : -1000000 ≤ f k) (hf2 : f k ≤ 1000000) (hby : by_ = 1 ∨ by_ = -1) :
  Calls Try.prog 55 #[(.pointer (some ⟨g, 0, none⟩)), encS k, .int .i64 by_] w fun e w' => e = .returned (.tuple #[]) ∧ CMp encS (fun _ => True) w' gc (upd f k (f k + by_)) ∧ Ft (fun q => q = gc) w w' := by
 obtain ⟨n, hn⟩ : ∃ n, f k = n := ⟨_, rfl⟩
 obtain ⟨kv, hkv⟩ : ∃ kv, encS k = kv := ⟨_, rfl⟩
 rw [hn] at hf1 hf2
 have HN := Lib.hid hn
 have HKv := Lib.hid hkv
 have hnn : upd f k (n + by_) = upd f k (f k + by_) := by rw [hn]
 have hw64 : IntKind.i64.wrap (n + by_) = n + by_ := IntWalk.i64_in _ (by omega)
 have hw65 : wrap64 (n + by_) = n + by_ := IntWalk.wrap64_in _ (by omega)
 have HNE : Hid (g ≠ gc) := Lib.hid (cm_ne hg hc)
 have HG := Lib.hid hg
 have HC := Lib.hid hc
 have hsm : ∀ W, Calls Try.prog 57 #[kv, kv] W fun e w' => e = .returned (.bool true) ∧ Below W.heap.size W w' := fun W => by rw [← hkv]; exact (same_S k k W).mono (by rintro e w' ⟨rfl, h9⟩; exact ⟨by simp, h9⟩)
 have hup : ∀ W, CMp encS (fun _ => True) W gc f → ∃ W', (Instr.mapUpdate 98 (.map (some gc)) kv (.int .i64 (n + by_))).run Try.prog W = .ok () W' ∧ CMp encS (fun _ => True) W' gc (upd f k (n + by_)) ∧ W.grownBy W' (some gc) := fun W hW => by rw [← hkv]; exact hW.upd Try.key_s Try.underlying98 trivial (n + by_)
 have HSm := Lib.hid hsm
 have HUp := Lib.hid hup
 by_cases hz : n + by_ = 0
 ·have hdl : ∀ W, CMp encS (fun _ => True) W gc (upd f k (n + by_)) → ∀ ty, ∃ W', (Builtin.delete_ #[98, 9] ty #[.map (some gc), kv]).run Try.prog W = .ok (.tuple #[]) W' ∧ CMp encS (fun _ => True) W' gc (upd f k (n + by_)) ∧ W.grownBy W' (some gc) := fun W hW ty => by rw [← hkv]; exact hW.drop Try.key_s Try.underlying98 (x := k) trivial (by simp [upd, hz]) ty
  have HDl := Lib.hid hdl
  have hz0 : (n + by_ == 0) = true := by simpa using hz
  rw [hkv]
  clear hg hc hn hsm hup hkv hdl hz
  go_enter Try.func55, Try.ntmps55
  go_wp2_with (first
   | (go_at_call 57; (with_reducible refine (HSm.out _).mono ?_); rintro e w1 ⟨rfl, hb1⟩; have HG1 := Lib.hid (HG.out.through hb1); have HC1 := Lib.hid (HC.out.through hb1); have HX1 := Lib.hid hb1; have c1 : w1.cell? ⟨g, 1, none⟩ = some (.map (some gc)) := HG1.out.cellAt rfl; have hlk := HC1.out.look Try.key_s Try.underlying98 (x := k) trivial (Try.zero_i _); rw [HN.out, HKv.out] at hlk; clear hb1)
   | (refine wpList_upd_to rfl 98 (.tmp 13) (.tmp 14) (.tmp 17) rfl (.map (some gc)) kv (.int .i64 (n + by_)) rfl rfl rfl _ (HUp.out w1 HC1.out).choose_spec.1 ?_; obtain ⟨hc2, hg2⟩ := (HUp.out w1 HC1.out).choose_spec.2; generalize (HUp.out w1 HC1.out).choose = w2 at *; have HC2 := Lib.hid hc2; have HG2 := Lib.hid (HG1.out.grown hg2 (fun e => HNE.out (Option.some.inj e))); have HF2 : Hid (Ft (fun q => q = gc) w w2) := Lib.hid ((Ft.of_below HX1.out).trans (Ft.of_grown hg2 (fun b hb => .inl (Option.some.inj hb).symm)) (fun q hq => .inl hq)); have c2 : w2.cell? ⟨g, 1, none⟩ = some (.map (some gc)) := HG2.out.cellAt rfl; have hlk2 := HC2.out.look Try.key_s Try.underlying98 (x := k) trivial (Try.zero_i _); rw [show upd f k (n + by_) k = n + by_ by simp [upd], HKv.out] at hlk2; clear hc2 hg2)
   | (refine wpList_del_to rfl (.tmp 28) (.tmp 29) #[98, 9] rfl (.map (some gc)) kv rfl rfl _ (HDl.out w2 HC2.out _).choose_spec.1 ?_; obtain ⟨hc3, hg3⟩ := (HDl.out w2 HC2.out _).choose_spec.2; generalize (HDl.out w2 HC2.out _).choose = w3 at *; have HC3 := Lib.hid hc3; have HF3 : Hid (Ft (fun q => q = gc) w w3) := Lib.hid (HF2.out.trans (Ft.of_grown hg3 (fun b hb => .inl (Option.some.inj hb).symm)) (fun q hq => .inl hq)); clear hc3 hg3))
  go_end0
  exact ⟨rfl, by rw [← hnn]; exact HC3.out, HF3.out⟩
 ·have hz0 : (n + by_ == 0) = false := by simpa using hz
  rw [hkv]
  clear hg hc hn hsm hup hkv
  go_enter Try.func55, Try.ntmps55
  go_wp2_with (first
   | (go_at_call 57; (with_reducible refine (HSm.out _).mono ?_); rintro e w1 ⟨rfl, hb1⟩; have HG1 := Lib.hid (HG.out.through hb1); have HC1 := Lib.hid (HC.out.through hb1); have HX1 := Lib.hid hb1; have c1 : w1.cell? ⟨g, 1, none⟩ = some (.map (some gc)) := HG1.out.cellAt rfl; have hlk := HC1.out.look Try.key_s Try.underlying98 (x := k) trivial (Try.zero_i _); rw [HN.out, HKv.out] at hlk; clear hb1)
   | (refine wpList_upd_to rfl 98 (.tmp 13) (.tmp 14) (.tmp 17) rfl (.map (some gc)) kv (.int .i64 (n + by_)) rfl rfl rfl _ (HUp.out w1 HC1.out).choose_spec.1 ?_; obtain ⟨hc2, hg2⟩ := (HUp.out w1 HC1.out).choose_spec.2; generalize (HUp.out w1 HC1.out).choose = w2 at *; have HC2 := Lib.hid hc2; have HG2 := Lib.hid (HG1.out.grown hg2 (fun e => HNE.out (Option.some.inj e))); have HF2 : Hid (Ft (fun q => q = gc) w w2) := Lib.hid ((Ft.of_below HX1.out).trans (Ft.of_grown hg2 (fun b hb => .inl (Option.some.inj hb).symm)) (fun q hq => .inl hq)); have c2 : w2.cell? ⟨g, 1, none⟩ = some (.map (some gc)) := HG2.out.cellAt rfl; have hlk2 := HC2.out.look Try.key_s Try.underlying98 (x := k) trivial (Try.zero_i _); rw [show upd f k (n + by_) k = n + by_ by simp [upd], HKv.out] at hlk2; clear hc2 hg2))
  go_end0
  exact ⟨rfl, by rw [← hnn]; exact HC2.out, HF2.out⟩
set_option maxHeartbeats 16000000 in
set_option maxRecDepth 100000 in
theorem of_S {w : World} {g gv gc : Nat} {M : List (Int × (List UInt8))} (who : Int) (h : TlR 100 encS (fun _ => True) w g gv gc M) :
  Calls Try.prog 23 #[(.pointer (some ⟨g, 0, none⟩)), .int .i64 who] w fun e w' => e = .returned (.tuple #[encS ((getM who M).getD []), .bool (getM who M).isSome]) ∧ w' = w := by
 have hlk : (Instr.lookup 97 (.map (some gv)) (.int .i64 who) true).run Try.prog w = .ok (.tuple #[encS ((getM who M).getD []), .bool (getM who M).isSome]) w := h.vm.look Try.key_int Try.underlying97 who (Try.zero_s w)
 have c0 : w.cell? ⟨g, 0, none⟩ = some (.map (some gv)) := h.box.cellAt rfl
 generalize encS ((getM who M).getD []) = u at *
 generalize (getM who M).isSome = bb at *
 clear h
 go_enter Try.func23, Try.ntmps23
 go_wp2
 go_ret2
 exact ⟨rfl, rfl⟩
set_option maxHeartbeats 16000000 in
set_option maxRecDepth 100000 in
theorem change_S {w : World} {g gv gc : Nat} {M : List (Int × (List UInt8))} (who : Int) (k : (List UInt8)) (h : TlR 100 encS (fun _ => True) w g gv gc M) (hm : M.length ≤ 100000) :
  Calls Try.prog 21 #[(.pointer (some ⟨g, 0, none⟩)), .int .i64 who, encS k] w fun e w' => e = .returned (.tuple #[]) ∧ TlR 100 encS (fun _ => True) w' g gv gc (putM who k M) ∧ Ft (D3 g gv gc) w w' := by
 have HNE : Hid (¬ g = gc) := Lib.hid (cm_ne h.box h.cm)
 have HNG : Hid (g ≠ gv) := Lib.hid (vm_ne h.box h.vm)
 have HNV : Hid (¬ gv = gc) := Lib.hid h.ne
 have HND := Lib.hid h.nd
 have HGw := Lib.hid h.box
 have HVw := Lib.hid h.vm
 have HCw := Lib.hid h.cm
 have HFw : Hid (Ft (D3 g gv gc) w w) := Lib.hid (Ft.refl _ w)
 obtain ⟨kv, hkv⟩ : ∃ kv, encS k = kv := ⟨_, rfl⟩
 have HKv := Lib.hid hkv
 have hup : ∀ W, VMp encS (fun _ => True) W gv M → ∃ W', (Instr.mapUpdate 97 (.map (some gv)) (.int .i64 who) kv).run Try.prog W = .ok () W' ∧ VMp encS (fun _ => True) W' gv (putM who k M) ∧ W.grownBy W' (some gv) := fun W hW => by rw [← hkv]; exact hW.upd Try.key_int Try.underlying97 who trivial
 have HUp := Lib.hid hup
 have hcb : ∀ q, (0 : Int) ≤ (cntM q M : Int) ∧ (cntM q M : Int) ≤ 100000 := fun q => ⟨by omega, by have := cnt_le q M; omega⟩
 have c0 : w.cell? ⟨g, 0, none⟩ = some (.map (some gv)) := h.box.cellAt rfl
 have hmn := fun W => Try.mv_nilS gv W
 have hlk := h.vm.look Try.key_int Try.underlying97 who (Try.zero_s w)
 rw [hkv]
 cases hgm : getM who M with
 | none =>
  rw [hgm] at hlk
  simp only [Option.getD_none, Option.isSome_none] at hlk
  generalize encS [] = u at hlk
  have HCn := Lib.hid (cnt_new (k := k) hgm)
  have HB1 : Hid (-1000000 ≤ (cntM k M : Int) ∧ (cntM k M : Int) ≤ 1000000) := Lib.hid (by have := hcb k; omega)
  have hcc := fun W h1 h2 => count_S g gc (.map (some gv)) (fun q => (cntM q M : Int)) k 1 W h1 h2 HB1.out.1 HB1.out.2 (.inl rfl)
  rw [hkv] at hcc
  have HCc := Lib.hid hcc
  clear h hm hcb hgm hkv hup hcc
  go_enter Try.func21, Try.ntmps21
  go_wp2_with (first
   | (refine wpList_upd_to rfl 97 (.tmp 36) (.tmp 37) (.tmp 38) rfl (.map (some gv)) (.int .i64 who) kv rfl rfl rfl _ (HUp.out w HVw.out).choose_spec.1 ?_; obtain ⟨hv9, hg9⟩ := (HUp.out w HVw.out).choose_spec.2; generalize (HUp.out w HVw.out).choose = u6 at *; have HVu6 := Lib.hid hv9; have HGu6 := Lib.hid (HGw.out.grown hg9 (fun e => HNG.out (Option.some.inj e))); have HCu6 := Lib.hid (HCw.out.keep (hg9.block gc HCw.out.lt (fun e => HNV.out (Option.some.inj e).symm))); have HFu6 : Hid (Ft (D3 g gv gc) w u6) := Lib.hid (HFw.out.trans (D' := D3 g gv gc) (Ft.of_grown hg9 (fun b hb => .inl (.inr (.inl (Option.some.inj hb).symm)))) (fun q hq => .inl hq)); clear hv9 hg9)
   | (go_at_call 55; (with_reducible refine (HCc.out u6 HGu6.out HCu6.out).mono ?_); rintro e w8 ⟨rfl, hc9, hf9⟩; have HCw8 : Hid (CMp encS (fun _ => True) w8 gc (upd (fun q => (cntM q M : Int)) k ((cntM k M : Int) + 1))) := Lib.hid (hc9); have HGw8 := Lib.hid (hf9.blk HGu6.out HNE.out); have HVw8 := Lib.hid (HVu6.out.keep (hf9.block gv HVu6.out.lt HNV.out)); have HFw8 : Hid (Ft (D3 g gv gc) w w8) := Lib.hid (HFu6.out.trans hf9 (fun q hq => .inl (.inr (.inr hq)))); have cw8 : w8.cell? ⟨g, 0, none⟩ = some (.map (some gv)) := HGw8.out.cellAt rfl; clear hc9 hf9))
  go_end0
  exact ⟨rfl, ⟨HGw8.out, HVw8.out, HCw8.out.congr HCn.out, HNV.out, nodup_putM HND.out⟩, HFw8.out⟩
 | some o =>
  rw [hgm] at hlk
  simp only [Option.getD_some, Option.isSome_some] at hlk
  obtain ⟨ov, hov⟩ : ∃ ov, encS o = ov := ⟨_, rfl⟩
  rw [hov] at hlk
  obtain ⟨f1, hf1⟩ : ∃ f1, f1 = upd (fun q => (cntM q M : Int)) o ((cntM o M : Int) + -1) := ⟨_, rfl⟩
  have HCn := Lib.hid (cnt_old (k := k) hgm f1 hf1)
  have HBu : Hid (-1000000 ≤ (cntM o M : Int) ∧ (cntM o M : Int) ≤ 1000000) := Lib.hid (by have := hcb o; omega)
  have HB1 : Hid (-1000000 ≤ f1 k ∧ f1 k ≤ 1000000) := Lib.hid (by
   have h1 := hcb k
   have h2 := hcb o
   rw [hf1]
   unfold upd
   simp only
   split <;> omega)
  have HF1e := Lib.hid hf1
  have hcc := fun W h1 h2 => count_S g gc (.map (some gv)) f1 k 1 W h1 h2 HB1.out.1 HB1.out.2 (.inl rfl)
  rw [hkv] at hcc
  have HCc := Lib.hid hcc
  have hco := fun W h1 h2 => count_S g gc (.map (some gv)) (fun q => (cntM q M : Int)) o (-1) W h1 h2 HBu.out.1 HBu.out.2 (.inr rfl)
  rw [hov] at hco
  have HCo := Lib.hid hco
  clear h hm hcb hgm hkv hup hcc hco hov hf1
  go_enter Try.func21, Try.ntmps21
  go_wp2_with (first
   | (go_at_call 55; (with_reducible refine (HCo.out w HGw.out HCw.out).mono ?_); rintro e w6 ⟨rfl, hc9, hf9⟩; have HCw6 : Hid (CMp encS (fun _ => True) w6 gc f1) := Lib.hid (by rw [HF1e.out]; exact hc9); have HGw6 := Lib.hid (hf9.blk HGw.out HNE.out); have HVw6 := Lib.hid (HVw.out.keep (hf9.block gv HVw.out.lt HNV.out)); have HFw6 : Hid (Ft (D3 g gv gc) w w6) := Lib.hid (HFw.out.trans hf9 (fun q hq => .inl (.inr (.inr hq)))); have cw6 : w6.cell? ⟨g, 0, none⟩ = some (.map (some gv)) := HGw6.out.cellAt rfl; clear hc9 hf9)
   | (refine wpList_upd_to rfl 97 (.tmp 36) (.tmp 37) (.tmp 38) rfl (.map (some gv)) (.int .i64 who) kv rfl rfl rfl _ (HUp.out w6 HVw6.out).choose_spec.1 ?_; obtain ⟨hv9, hg9⟩ := (HUp.out w6 HVw6.out).choose_spec.2; generalize (HUp.out w6 HVw6.out).choose = u6 at *; have HVu6 := Lib.hid hv9; have HGu6 := Lib.hid (HGw6.out.grown hg9 (fun e => HNG.out (Option.some.inj e))); have HCu6 := Lib.hid (HCw6.out.keep (hg9.block gc HCw6.out.lt (fun e => HNV.out (Option.some.inj e).symm))); have HFu6 : Hid (Ft (D3 g gv gc) w u6) := Lib.hid (HFw6.out.trans (D' := D3 g gv gc) (Ft.of_grown hg9 (fun b hb => .inl (.inr (.inl (Option.some.inj hb).symm)))) (fun q hq => .inl hq)); clear hv9 hg9)
   | (go_at_call 55; (with_reducible refine (HCc.out u6 HGu6.out HCu6.out).mono ?_); rintro e w8 ⟨rfl, hc9, hf9⟩; have HCw8 : Hid (CMp encS (fun _ => True) w8 gc (upd f1 k (f1 k + 1))) := Lib.hid (hc9); have HGw8 := Lib.hid (hf9.blk HGu6.out HNE.out); have HVw8 := Lib.hid (HVu6.out.keep (hf9.block gv HVu6.out.lt HNV.out)); have HFw8 : Hid (Ft (D3 g gv gc) w w8) := Lib.hid (HFu6.out.trans hf9 (fun q hq => .inl (.inr (.inr hq)))); have cw8 : w8.cell? ⟨g, 0, none⟩ = some (.map (some gv)) := HGw8.out.cellAt rfl; clear hc9 hf9))
  go_end0
  exact ⟨rfl, ⟨HGw8.out, HVw8.out, HCw8.out.congr HCn.out, HNV.out, nodup_putM HND.out⟩, HFw8.out⟩
set_option maxHeartbeats 16000000 in
set_option maxRecDepth 100000 in
theorem cnt_S {w : World} {g gv gc : Nat} {M : List (Int × (List UInt8))} (k : (List UInt8)) (h : TlR 100 encS (fun _ => True) w g gv gc M) :
  Calls Try.prog 26 #[(.pointer (some ⟨g, 0, none⟩)), encS k] w fun e w' => e = .returned (.int .i64 (cntM k M : Int)) ∧ Below w.heap.size w w' := by
 obtain ⟨kv, hkv⟩ : ∃ kv, encS k = kv := ⟨_, rfl⟩
 have hsm : ∀ W, Calls Try.prog 57 #[kv, kv] W fun e w' => e = .returned (.bool true) ∧ Below W.heap.size W w' := fun W => by rw [← hkv]; exact (same_S k k W).mono (by rintro e w' ⟨rfl, h9⟩; exact ⟨by simp, h9⟩)
 have HSm := Lib.hid hsm
 have HG := Lib.hid h.box
 have HC := Lib.hid h.cm
 have HKv := Lib.hid hkv
 rw [hkv]
 clear h hsm hkv
 go_enter Try.func26, Try.ntmps26
 go_wp2_with (first
  | (go_at_call 57; (with_reducible refine (HSm.out _).mono ?_); rintro e w1 ⟨rfl, hb1⟩; have HG1 := Lib.hid (HG.out.through hb1); have HX1 := Lib.hid hb1; have c1 : w1.cell? ⟨g, 1, none⟩ = some (.map (some gc)) := HG1.out.cellAt rfl; have hlk := (HC.out.through hb1).look Try.key_s Try.underlying98 (x := k) trivial (Try.zero_i _); rw [HKv.out] at hlk; clear hb1))
 go_ret
 exact ⟨rfl, HX1.out⟩
set_option maxHeartbeats 16000000 in
set_option maxRecDepth 100000 in
theorem add_S {w : World} {g gv gc : Nat} {M : List (Int × (List UInt8))} (who : Int) (k : (List UInt8)) (h : TlR 100 encS (fun _ => True) w g gv gc M) (hm : M.length ≤ 100000) :
  Calls Try.prog 24 #[(.pointer (some ⟨g, 0, none⟩)), .int .i64 who, encS k] w fun e w' => e = .returned (.bool (addB who k M)) ∧ TlR 100 encS (fun _ => True) w' g gv gc (addM who k M) ∧ Ft (D3 g gv gc) w w' := by
 have HMl := Lib.hid hm
 have HTw := Lib.hid h
 unfold addB addM
 obtain ⟨kv, hkv⟩ : ∃ kv, encS k = kv := ⟨_, rfl⟩
 have HKv := Lib.hid hkv
 have hch := change_S who k h hm
 cases hgm : getM who M with
 | none =>
  have hgp : getM who (putM who k M) = some k := by rw [get_putM, if_pos rfl]
  have ho1 := of_S who h
  rw [hgm] at ho1
  simp only [Option.getD_none, Option.isSome_none] at ho1
  generalize encS [] = zv at ho1
  have ho2 := fun W (h9 : TlR 100 encS (fun _ => True) W g gv gc (putM who k M)) => of_S who h9
  rw [hgp] at ho2
  simp only [Option.getD_some, Option.isSome_some] at ho2
  have hsm : ∀ W, Calls Try.prog 57 #[kv, kv] W fun e w' => e = .returned (.bool true) ∧ Below W.heap.size W w' := fun W => by rw [← hkv]; exact (same_S k k W).mono (by rintro e w' ⟨rfl, h9⟩; exact ⟨by simp, h9⟩)
  rw [hkv] at ho2 hch ⊢
  have HO1 := Lib.hid ho1
  have HO2 := Lib.hid ho2
  have HCh := Lib.hid hch
  have HSm := Lib.hid hsm
  simp only
  clear h hm hgm hgp hkv ho1 ho2 hch hsm
  go_enter Try.func24, Try.ntmps24
  go_wp2_with (first
   | (go_at_call 23; (with_reducible refine (HO1.out).mono ?_); rintro e w9 ⟨rfl, hw9⟩; have hw8 := hw9.symm; clear hw9; subst hw8)
   | (go_at_call 21; (with_reducible refine (HCh.out).mono ?_); rintro e w2 ⟨rfl, ht9, hf9⟩; have HT2 := Lib.hid ht9; have HF2 := Lib.hid hf9; clear ht9 hf9)
   | (go_at_call 23; (with_reducible refine (HO2.out _ HT2.out).mono ?_); rintro e w9 ⟨rfl, hw9⟩; have hw8 := hw9.symm; clear hw9; subst hw8)
   | (go_at_call 57; (with_reducible refine (HSm.out _).mono ?_); rintro e w4 ⟨rfl, hb9⟩; have HT4 := Lib.hid (HT2.out.through hb9); have HF4 := Lib.hid (HF2.out.deep hb9); clear hb9))
  go_ret
  exact ⟨rfl, HT4.out, HF4.out⟩
 | some o =>
  have ho1 := of_S who h
  rw [hgm] at ho1
  simp only [Option.getD_some, Option.isSome_some] at ho1
  obtain ⟨bb, hbb⟩ : ∃ bb, decide (o = k) = bb := ⟨_, rfl⟩
  have hsm : ∀ W, Calls Try.prog 57 #[encS o, kv] W fun e w' => e = .returned (.bool bb) ∧ Below W.heap.size W w' := fun W => by rw [← hkv, ← hbb]; exact same_S o k W
  generalize encS o = ov at ho1 hsm
  rw [hkv]
  simp only
  rw [hbb]
  have HO1 := Lib.hid ho1
  have HSm := Lib.hid hsm
  clear h hm hgm hkv ho1 hch hsm hbb
  go_enter Try.func24, Try.ntmps24
  go_wp2_with (first
   | (go_at_call 23; (with_reducible refine (HO1.out).mono ?_); rintro e w9 ⟨rfl, hw9⟩; have hw8 := hw9.symm; clear hw9; subst hw8)
   | (go_at_call 57; (with_reducible refine (HSm.out _).mono ?_); rintro e w4 ⟨rfl, hb9⟩; have HT4 := Lib.hid (HTw.out.through hb9); have HF4 : Hid (Ft (D3 g gv gc) w w4) := Lib.hid (Ft.of_below hb9); clear hb9))
  go_ret
  exact ⟨rfl, HT4.out, HF4.out⟩

end Go.Proofs.Ytkpgjcahmpekbaa
