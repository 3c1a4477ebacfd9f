/-
  Joined: BaX, BaL.
-/
import Derived.Test.YtgbobemhogeeeaaDoorDG
import Derived.Test.YtgbobemhogeeeaaDoorDE
import Derived.RegionTactic
import Derived.ChangeAlike
import Derived.StillTailTactics
import Derived.Deep.QuietTactic
import Derived.Outline
import Derived.Recover
import Derived.Test.YtgbobemhogeeeaaDoorDF
import Derived.Test.YtgbobemhogeeeaaDoorDC
namespace Go.Proofs.YtgbobemhogeeeaaDoor

section
open Go.RowKit
theorem leaves_congr {P : Program} {fn : Func} {tmps tmps' : Array Value} {R : Ending → World → Prop} (he : ∀ w, (results fn tmps).run P w = (results fn tmps').run P w) : ∀ (ds : List Deferred) (u : FrameMode) (w : World), Leaves P fn tmps R ds u w → Leaves P fn tmps' R ds u w
  | [], .returning, w, ⟨v, h1, h2⟩ => ⟨v, (he w).symm.trans h1, h2⟩
  | [], .panicking _, _, h => h
  | [], .run, _, h => h
  | _ :: ds, _, _, ⟨hu, fv, cap, f, args, h1, h2, h3⟩ => ⟨hu, fv, cap, f, args, h1, h2, h3.mono (fun e u' w' h => by
      cases e with
      | returned v => exact leaves_congr he ds _ _ h
      | panicked c => exact leaves_congr he ds _ _ h
      | outgrown => exact h)⟩
/-- A panic of Digest: which slot was written last is all one. -/
theorem dig_panic {R : Ending → World → Prop} {c : List PanicEntry} {d : Tmp} (hd : d ≠ 4) {v : Value} {a : Act} {w : World} (h : bodyPostD Tryd.prog Tryd.f8 R (.panic c) (a.put (some d) v) w) : bodyPostD Tryd.prog Tryd.f8 R (.panic c) a w :=
  leaves_congr (fun w => by
    have e : (a.put (some d) v).tmps[4]? = a.tmps[4]? := by
      simp only [Act.put]
      rw [Array.getElem?_setIfInBounds_ne hd]
    simp [results, Tryd.results8, e]) _ _ _ h
theorem dig1_idle (p : Value) (w : World) :
    CallsD Tryd.prog 18 #[p] .returning w fun e u' w' => e = .returned (.tuple #[]) ∧ u' = .returning ∧ w' = w := by
  refine callsD_of_wpS Tryd.func18 rfl fun c₀ cs hu => ?_
  apply wpS_seq
  apply wpS_region
  simp [wpOpsS, go_sem, recoverD, hu, Tryd.ntmps18, Exit.thenS]
  refine wpS_cond (t := false) (by simp [Act.eval, Array.replicate]) ?_
  simp only [Bool.false_eq_true, if_false]
  refine wpS_of_wp (wp_skip ?_)
  cases c₀
  simp_all [bodyPostS, results, Tryd.results18]
theorem Tryd.zero_dig (w : World) : (zeroValue 30).run Tryd.prog w = .ok (.agg (vs zero32).toArray) w := by kernel_rfl
/-- what a book tells of a batch -/
def digB (es : List Ey) (ds : List DK) : List UInt8 := numB (kb 101) (ord (kb 101, encB es) (also (kb 101, encB es) ds))

set_option maxHeartbeats 8000000 in
set_option maxRecDepth 100000 in
theorem digest_book (g : Nat) (ds : List DK) (ts : List TK) (es : List Ey) (A : Option Addr) (k c : Nat) (w : World) (h : BS w g ds ts) (hI : EysIn w A k es) (hk : k ≤ 1000000) (hl : ∀ y ∈ es, y.co.lt.length ≤ 1000000 ∧ y.co.tx.length ≤ 1000000) (hL : (encB es).length ≤ 100000000000) (hd : ds.length < 1000000000) :
    Calls Tryd.prog 8 #[(.iface 25 (.pointer (some ⟨g, 0, none⟩))), .slice A k c] w fun e w' => e = .returned (.agg (vs (digB es ds)).toArray) ∧ BS w' g (also (kb 101, encB es) ds) ts ∧ KF g w w' := by
  have hmf : ∀ (fn : Fn) (first cap : Array Value) (w : World), (Instr.makeFunc fn first cap).run Tryd.prog w = .ok (.func fn first cap) w := fun _ _ _ _ => rfl
  have HGL := Lib.hid h.lt
  obtain ⟨r1, hr1⟩ : ∃ r1, r1 = vs zero32 := ⟨_, rfl⟩
  have hz : ∀ W, (zeroValue 30).run Tryd.prog W = .ok (.agg r1.toArray) W := fun W => by rw [hr1]; exact Tryd.zero_dig W
  have HR1l : Hid (r1.length = 32) := Lib.hid (by rw [hr1]; rfl)
  obtain ⟨r2, hr2⟩ : ∃ r2, r2 = vs (digB es ds) := ⟨_, rfl⟩
  have HR2l : Hid (r2.length = 32) := Lib.hid (by rw [hr2, vs_length]; exact numB_length _ _)
  have HR2o : Hid (r2.toArray.all (·.oneCell') = true) := Lib.hid (by rw [hr2]; exact one_u8)
  rw [← hr2]
  have HBy : Hid (∀ W : World, Below (w.alloc (.cells r1.toArray 30)).heap.size (w.alloc (.cells r1.toArray 30)) W → Calls Tryd.prog 15 #[.slice A k c] W (Byt W (encB es))) := Lib.hid (fun W hW => bytesB_any es A k c W ((hI.alloc _).through hW) hk hl hL)
  have HDg : Hid (∀ (W : World) (B : Option Addr) (n d : Nat), BS W g ds ts → By W (fun _ => True) B n (encB es) → Calls Tryd.prog 70 #[.pointer (some ⟨g, 0, none⟩), .int .i64 101, .slice B n d] W fun e w' => e = .returned (.agg r2.toArray) ∧ BS w' g (also (kb 101, encB es) ds) ts ∧ KF g W w') := Lib.hid (fun W B n d hS hY => by
    rw [hr2]
    exact bdig_any (fun _ => True) g ds ts 101 (encB es) B n d W hS hY hd)
  have HA0 : Hid (Blk (w.alloc (.cells r1.toArray 30)) w.heap.size 30 r1) := Lib.hid (Blk.fresh rfl rfl)
  have HX0 : Hid (Below w.heap.size w (w.alloc (.cells r1.toArray 30))) := Lib.hid ((Below.refl _ w).alloc (Nat.le_refl _) _)
  have HS0 : Hid (BS (w.alloc (.cells r1.toArray 30)) g ds ts) := Lib.hid (h.through HX0.out)
  clear h hI hl hL hr1 hr2
  go_enter_defers Tryd.func8, Tryd.ntmps8
  go_upto_region 4 with fail
  have HBy1 := Lib.hid (HBy.out _ (Below.refl _ _).drew)
  generalize hw1 : w.alloc (.cells r1.toArray 30) = w1 at *
  clear hw1
  have HA1 := Lib.hid HA0.out.drew
  have HX1 := Lib.hid HX0.out.drew
  have HS1 := Lib.hid HS0.out.drew
  refine wp_region_held_drew (S := fun _ => True) (by kernel_rfl) trivial (fun hHeld => ?_)
  change wpAnyH _ _ _ _ _ _ #[false, false, false, false, false, false, false] _ _
  refine wpAnyH_take (i := 0) (v := (.iface 25 (.pointer (some ⟨g, 0, none⟩)))) rfl (by kernel_rfl) (by kernel_rfl) (by kernel_rfl) (fun _ _ _ h => dig_panic (d := 9) (by decide) h) (Or.inl ⟨by kernel_rfl, fun w hSw => ?_⟩) (by assumption) ?_
  · (try dsimp only at hSw); go_simp <;> (try rfl)
  change wpAnyH _ _ _ _ _ _ _ (Act.put _ (some (9 : Nat)) (.iface 25 (.pointer (some ⟨g, 0, none⟩)))) _
  simp only [Act.put, List.setIfInBounds_toArray, List.set_cons_zero, List.set_cons_succ]
  refine wpAnyH_take (i := 1) (v := (.slice A k c)) rfl (by kernel_rfl) (by kernel_rfl) (by kernel_rfl) (fun _ _ _ h => dig_panic (d := 10) (by decide) h) (Or.inl ⟨by kernel_rfl, fun w hSw => ?_⟩) (by assumption) ?_
  · (try dsimp only at hSw); go_simp <;> (try rfl)
  change wpAnyH _ _ _ _ _ _ _ (Act.put _ (some (10 : Nat)) (.slice A k c)) _
  simp only [Act.put, List.setIfInBounds_toArray, List.set_cons_zero, List.set_cons_succ]
  refine wpAnyH_take (i := 3) (v := (.iface 25 (.pointer (some ⟨g, 0, none⟩)))) rfl (by kernel_rfl) (by kernel_rfl) (by kernel_rfl) (fun _ _ _ h => dig_panic (d := 12) (by decide) h) (Or.inl ⟨by kernel_rfl, fun w hSw => ?_⟩) (by assumption) ?_
  · (try dsimp only at hSw); go_simp <;> (try rfl)
  change wpAnyH _ _ _ _ _ _ _ (Act.put _ (some (12 : Nat)) (.iface 25 (.pointer (some ⟨g, 0, none⟩)))) _
  simp only [Act.put, List.setIfInBounds_toArray, List.set_cons_zero, List.set_cons_succ]
  refine wpAnyH_take (i := 4) (v := (.iface 25 (.pointer (some ⟨g, 0, none⟩)))) rfl (by kernel_rfl) (by kernel_rfl) (by kernel_rfl) (fun _ _ _ h => dig_panic (d := 13) (by decide) h) (Or.inl ⟨by kernel_rfl, fun w hSw => ?_⟩) (by assumption) ?_
  · (try dsimp only at hSw); go_simp <;> (try rfl)
  change wpAnyH _ _ _ _ _ _ _ (Act.put _ (some (13 : Nat)) (.iface 25 (.pointer (some ⟨g, 0, none⟩)))) _
  simp only [Act.put, List.setIfInBounds_toArray, List.set_cons_zero, List.set_cons_succ]
  refine wpAnyH_ready (rs := [2]) (by kernel_rfl) (by simp) ?_
  refine AllReadyH.cons rfl (fun K hK => ?_) AllReadyH.nil
  go_simp
  refine (HBy1.out).mono ?_
  rintro e w2 ⟨A2, n2, d2, rfl, hy2, _, _, hb2⟩; have HY2 := Lib.hid hy2; have HK2 := Lib.hid hb2; clear hy2 hb2
  go_wp2_with fail
  refine hK.out _ _ trivial (fun hHeld1 => ?_)
  clear hHeld hK K
  have hHeld := hHeld1
  clear hHeld1
  refine wpAnyH_ready (rs := [5]) (by kernel_rfl) (by simp) ?_
  refine AllReadyH.cons rfl (fun K hK => ?_) AllReadyH.nil
  go_simp
  refine (HDg.out _ A2 n2 d2 (HS1.out.through HK2.out) HY2.out).mono ?_
  rintro e w3 ⟨rfl, hs3, hk3⟩; have HS3 := Lib.hid hs3; have HA3 := Lib.hid (hk3.blk (HA1.out.through HK2.out) (Nat.ne_of_gt HGL.out)); have HX3 := Lib.hid (((KF.of_below HGL.out (HX1.out.trans (HK2.out.mono HX1.out.size)))).trans hk3); clear hs3 hk3
  go_wp2_with fail
  refine hK.out _ _ trivial (fun hHeld1 => ?_)
  clear hHeld hK K
  have hHeld := hHeld1
  clear hHeld1
  refine wpAnyH_ready (rs := [6]) (by kernel_rfl) (by simp) ?_
  refine AllReadyH.cons (o := ⟨none, .store 30 (.tmp 4) (.tmp 14), _, _, _, none⟩) rfl (fun K hK => ?_) AllReadyH.nil
  refine step_store_blk rfl 30 (.tmp 4) (.tmp 14) rfl w.heap.size r2 (by simp [Act.eval]) (by simp [Act.eval]) 30 r1 HA3.out (by rw [HR2l.out]; kernel_rfl) (by rw [HR1l.out, HR2l.out]) HR2o.out ?_; intro w4 hb4 hg4; have HA4 := Lib.hid hb4; have HS4 := Lib.hid (HS3.out.grown HA3.out hg4 (Nat.ne_of_lt HGL.out)); have HX4 := Lib.hid (HX3.out.grownB hg4 (Nat.le_refl _) HGL.out); clear hb4 hg4
  refine hK.out _ _ trivial (fun hHeld1 => ?_)
  clear hHeld hK K
  have hHeld := hHeld1
  clear hHeld1
  change wpAnyH _ _ _ _ _ _ _ (Act.put _ none undef) _
  simp only [Act.put]
  refine wpAnyH_done (by kernel_rfl) ?_ _
  go_wp2
  refine leaves_cons (f := 18) (args := #[.pointer (some ⟨w.heap.size, 0, none⟩)]) (by simp) (by simp [go_sem]) ?_
  refine (dig1_idle _ _).mono ?_
  rintro e u' w'' ⟨rfl, rfl, rfl⟩
  refine ⟨_, results_cell_row rfl _ _ w.heap.size 30 _ (0, 0) _ rfl HA4.out Tryd.underlying30 rfl ?r1, rfl, HS4.out, HX4.out⟩
  rw [List.size_toArray, HR2l.out]; kernel_rfl
end

section
open Go.RowKit
/-- small enough to be asked about -/
def fewE (y : Ey) : Bool := decide (y.co.lt.length ≤ 100) && decide (y.co.tx.length ≤ 300)
def fewB (es : List Ey) : Bool := es.all fewE && decide (es.length ≤ 40)
theorem fewB_yes {es : List Ey} (h : fewB es = true) : es.length ≤ 40 ∧ ∀ y ∈ es, y.co.lt.length ≤ 100 ∧ y.co.tx.length ≤ 300 := by
  unfold fewB at h
  simp only [Bool.and_eq_true, decide_eq_true_eq, List.all_eq_true] at h
  refine ⟨h.2, fun y hy => ?_⟩
  have h1 := h.1 y hy
  simp only [fewE, Bool.and_eq_true, decide_eq_true_eq] at h1
  exact h1
theorem encB_len {es : List Ey} (L : Nat) (h : ∀ y ∈ es, y.co.lt.length + y.co.tx.length ≤ L) : (encB es).length ≤ 2 + es.length * (39 + L) := by
  have : (encAll encEy es).length ≤ es.length * (39 + L) := by
    induction es with
    | nil => simp [encAll]
    | cons y es ih =>
      have h1 := h y (List.mem_cons_self ..)
      have h2 := ih (fun z hz => h z (List.mem_cons_of_mem _ hz))
      simp only [encAll, List.length_append, List.length_cons, encEy_len]
      rw [Nat.add_mul, Nat.one_mul]
      omega
  unfold encB
  rw [List.length_append, beB_length]
  omega

set_option maxHeartbeats 8000000 in
set_option maxRecDepth 100000 in
theorem few15_any (es : List Ey) (A : Option Addr) (k c : Nat) (w : World) (h : EysIn w A k es) (hk : k ≤ 9223372036854775807) :
    Calls Tryd.prog 5 #[.slice A k c] w fun e w' => e = .returned (.bool (fewB es)) ∧ Below w.heap.size w w' := by
  have hsz := ba_size
  have HI := Lib.hid h
  have HLn := Lib.hid h.len
  obtain ⟨b0, hb0⟩ : ∃ b0, fewB es = b0 := ⟨_, rfl⟩
  rw [hb0]
  obtain ⟨bb, hbb⟩ : ∃ bb, es.all fewE = bb := ⟨_, rfl⟩
  have HB0 : Hid (b0 = (bb && decide (k ≤ 40))) := Lib.hid (by rw [← hb0, ← hbb, ← h.len]; rfl)
  have HBB := Lib.hid hbb
  clear h hb0 hbb
  go_enter Tryd.func5, Tryd.ntmps5
  go_wp2
  go_loopw [7] (fun iv wr => ∃ i : Nat, i ≤ k ∧ iv = .int .i64 i ∧ bb = (es.drop i).all fewE ∧ Below w.heap.size w wr) (fun iv _ => k - (intOf iv).toNat)
  case atStart => exact ⟨0, Nat.zero_le _, rfl, HBB.out.symm, Below.refl _ _⟩
  case round =>
    obtain ⟨i, hi, rfl, hp, hx⟩ := hrel
    have HX := Lib.hid hx
    clear hx
    by_cases hlt : i < k
    · obtain ⟨g, o, y, rfl, _, _, hd, hrx⟩ := (HI.out.through HX.out).at hlt
      rw [hd] at hp
      have HRx := Lib.hid hrx
      have hix := Tryd.ix_ey wr g o k c i hlt
      have HXa : Hid (Below w.heap.size w (wr.alloc (.cells #[.int .i64 y.co.cl, .int .i64 y.co.sp, .int .i64 y.co.op, .string (ba y.co.lt), .int .i64 y.co.a, .int .i64 y.co.b, .string (ba y.co.tx), .int .u32 (y.ms : Int)] 43))) := Lib.hid (HX.out.alloc HX.out.size _)
      clear hrx hd
      by_cases h0 : y.co.lt.length ≤ 100
      case neg =>
        have d0 : decide ((100 : Int) < (y.co.lt.length : Int)) = true := by simp; omega
        have HF : Hid (bb = false) := Lib.hid (by rw [hp, List.all_cons, show fewE y = false by simp [fewE, h0]]; rfl)
        have HF0 : Hid (b0 = false) := Lib.hid (by rw [HB0.out, HF.out]; rfl)
        clear hp h0
        go_wp2_with (first
          | (refine wpList_load_mid rfl 43 (.tmp 9) rfl g (o + i * 8) rfl [.int .i64 y.co.cl, .int .i64 y.co.sp, .int .i64 y.co.op, .string (ba y.co.lt), .int .i64 y.co.a, .int .i64 y.co.b, .string (ba y.co.tx), .int .u32 (y.ms : Int)] _ HRx.out Tryd.underlying43 rfl (by kernel_rfl) ?_))
        go_ret
        exact ⟨ret_b HF0.out.symm, HXa.out⟩
      have d0 : decide ((100 : Int) < (y.co.lt.length : Int)) = false := by simp; omega
      by_cases h1 : y.co.tx.length ≤ 300
      case neg =>
        have d1 : decide ((300 : Int) < (y.co.tx.length : Int)) = true := by simp; omega
        have HF : Hid (bb = false) := Lib.hid (by rw [hp, List.all_cons, show fewE y = false by simp [fewE, h1]]; rfl)
        have HF0 : Hid (b0 = false) := Lib.hid (by rw [HB0.out, HF.out]; rfl)
        clear hp h0 h1
        go_wp2_with (first
          | (refine wpList_load_mid rfl 43 (.tmp 9) rfl g (o + i * 8) rfl [.int .i64 y.co.cl, .int .i64 y.co.sp, .int .i64 y.co.op, .string (ba y.co.lt), .int .i64 y.co.a, .int .i64 y.co.b, .string (ba y.co.tx), .int .u32 (y.ms : Int)] _ HRx.out Tryd.underlying43 rfl (by kernel_rfl) ?_))
        go_ret
        exact ⟨ret_b HF0.out.symm, HXa.out⟩
      have d1 : decide ((300 : Int) < (y.co.tx.length : Int)) = false := by simp; omega
      have HP : Hid (bb = (es.drop (i + 1)).all fewE) := Lib.hid (by rw [hp, List.all_cons, show fewE y = true by simp [fewE, h0, h1]]; rfl)
      clear hp h0 h1
      go_wp2_with (first
        | (refine wpList_load_mid rfl 43 (.tmp 9) rfl g (o + i * 8) rfl [.int .i64 y.co.cl, .int .i64 y.co.sp, .int .i64 y.co.op, .string (ba y.co.lt), .int .i64 y.co.a, .int .i64 y.co.b, .string (ba y.co.tx), .int .u32 (y.ms : Int)] _ HRx.out Tryd.underlying43 rfl (by kernel_rfl) ?_))
      go_roundw
      case rel => exact ⟨i + 1, by omega, by go_num, HP.out, HXa.out⟩
      case measure => simp [intOf]; omega
    · have e : es.drop i = [] := List.drop_of_length_le (by have := HLn.out; omega)
      rw [e] at hp
      have HP : Hid (bb = true) := Lib.hid hp
      clear hp e
      by_cases h3 : k ≤ 40
      · have d3 : decide ((k : Int) ≤ 40) = true := by simp; omega
        have HF0 : Hid (b0 = true) := Lib.hid (by rw [HB0.out, HP.out]; simp [h3])
        go_wp2
        go_ret
        exact ⟨ret_b HF0.out.symm, HX.out⟩
      · have d3 : decide ((k : Int) ≤ 40) = false := by simp; omega
        have HF0 : Hid (b0 = false) := Lib.hid (by rw [HB0.out, HP.out]; simp [h3])
        go_wp2
        go_ret
        exact ⟨ret_b HF0.out.symm, HX.out⟩

theorem wpList_append_sl_g {P : Program} {s e : TypeId} {k bytes : Nat} {z : Value} {ops : Array Oper} {rest : List Oper} {o : Oper} {a : Act} {w : World} {Q : Exit → Act → World → Prop} (hw : Region.wanted o (yielded ops a.tmps) = true) (E : El P s e k bytes z) (sl x : Operand)
    (ho : o.op = .call { callee := .builtin .append, args := #[sl, x], argTypes := #[s, s] })
    (B : Nat) (v : Value) (xs : List (List Value)) (hs : a.eval sl = v) (hown : Os w B e k v xs) (A : Option Addr) (m c : Nat) (ys : List (List Value)) (hx : a.eval x = .slice A m c) (hy : Sl w k A m ys) (hyk : ∀ y ∈ ys, y.length = k) (h1 : ∀ y ∈ ys, ∀ u ∈ y, u.oneCell' = true)
    (hn : xs.length + m ≤ 1000000) (hB : B ≤ w.heap.size)
    (h : ∀ v' w', Os w' B e k v' (xs ++ ys) → w.grownBy w' v.ownBlock → wpList P ops Q rest (a.put o.dst v') w') : wpList P ops Q (o :: rest) a w := by
  rw [wpList, if_pos hw]
  refine .inl ?_
  obtain ⟨v', w', hrun, h2, h3⟩ := E.run_append_sl w o.type B v xs hown A m c ys hy hyk h1 hn hB
  unfold Oper.wp execOp
  simp only [ho, resolve, invoke, builtin, Sem.run_bind, Sem.run_pure, Result.andThen_ok, List.map_toArray, List.map_cons, List.map_nil, hs, hx, hrun]
  exact h v' w' h2 h3
def fixE : Ey := ⟨⟨4, 1, 2, [97], 0, 0, []⟩, 3⟩
theorem fixb_parse : parseG (encB [fixE]) 4 = ([fixE], 0) := by kernel_rfl
theorem fixb_two : chkB [fixE, fixE] 4 = 15 := by kernel_rfl
theorem fixb_nil : encB [] = [0, 0] := by kernel_rfl
theorem fixb_len : (encB [fixE]).length = 42 := by kernel_rfl
theorem fixb_dig : (digB [fixE] [] == digB [] (also (kb 101, encB [fixE]) [])) = false := by kernel_rfl
theorem Tryd.build_c4 (a : ByteArray) (i j k : Int) (w : World) : (Instr.build 40 #[(0, .int .i64 i), (1, .int .i64 j), (2, .int .i64 k), (3, .string a)]).run Tryd.prog w = .ok (.agg #[.int .i64 i, .int .i64 j, .int .i64 k, .string a, .int .i64 0, .int .i64 0, .string (ba [])]) w := by kernel_rfl
theorem eysin_one {w : World} {g : Nat} {y : Ey} (h : Blk w g 43 y.cells) (hm : y.ms < 4294967296) : EysIn w (some ⟨g, 0, none⟩) 1 [y] :=
  ⟨⟨rfl, fun _ => ⟨g, 0, rfl, fun i cs hi => by
    match i, hi with
    | 0, hi =>
      simp at hi
      subst hi
      have h9 := h.whole
      simpa using h9
    | i + 1, hi => simp at hi⟩⟩, fun z hz => by rw [List.mem_singleton.1 hz]; exact hm⟩
theorem dig_ne (xs ys : List UInt8) (hx : xs.length = 32) (hy : ys.length = 32) (w : World) : (binOp .neq 30 (.agg (vs xs).toArray) (.agg (vs ys).toArray)).run Tryd.prog w = .ok (.bool (!(xs == ys))) w :=
  arr_neq (fun w => run_eql_bytes w 30 5 32 Tryd.underlying30 Tryd.underlying5 (by kernel_rfl) (by kernel_rfl) xs ys hx hy) w
theorem OEy.eys {w : World} {B n c : Nat} {A : Option Addr} {es : List Ey} (h : OEy w B (.slice A n c) es) : EysIn w A n es ∧ n ≤ c ∧ c ≤ maxLen ∧ (∀ a, A = some a → B ≤ a.block ∧ a.block < w.heap.size) := by
  obtain ⟨A', m', c', hv, h1, h2, hin, hfr⟩ := h.out
  injection hv with e1 e2 e3
  subst e1 e2 e3
  exact ⟨hin, h1, h2, hfr⟩
theorem fixE_ms : fixE.ms < 4294967296 := by decide
theorem bs_own {w w' : World} {g B : Nat} {ds : List DK} {ts : List TK} {v : Value} {xs : List (List Value)} (h : BS w g ds ts) (ho : Os w B 43 8 v xs) (hg : w.grownBy w' v.ownBlock) (hf : ∀ b, v.ownBlock = some b → b < g) : BS w' g ds ts := by
  rcases ho.1.2 with ⟨hv, _⟩ | ⟨b, cap, cur, hv, hb, hgb, _⟩
  · subst hv
    exact h.through ⟨hg.os, hg.tape, hg.output, hg.size, fun k hk => hg.block k hk (fun e => by cases e)⟩
  · subst hv
    exact h.grown (show Blk w b 43 cur.toList from by simpa [Blk] using hgb) hg (Nat.ne_of_gt (hf b rfl))
theorem blk_own {w w' : World} {g B : Nat} {t : TypeId} {cs : List Value} {v : Value} {xs : List (List Value)} (h : Blk w g t cs) (ho : Os w B 43 8 v xs) (hg : w.grownBy w' v.ownBlock) (hb : g < B) : Blk w' g t cs :=
  h.grown hg (fun e => by have := (ho.lt g e.symm).1; omega)

set_option maxHeartbeats 8000000 in
set_option maxRecDepth 100000 in
theorem fixed15_any (w : World) : Calls Tryd.prog 4 #[] w fun e w' => e = .returned (.bool true) ∧ Below w.heap.size w w' := by
  have hb4 := Tryd.build_c4
  have hbe := Tryd.build_ey
  have hli := ba_list
  have h00 : (⟨#[0, 0]⟩ : ByteArray).toList = [0, 0] := ba_list _
  have HBy : Hid (∀ (W : World) (A : Option Addr) (k c : Nat), EysIn W A k [fixE] → Calls Tryd.prog 15 #[.slice A k c] W (Byt W (encB [fixE]))) := Lib.hid (fun W A k c hI => bytesB_any [fixE] A k c W hI (by have := hI.len; simp at this; omega) (fun y hy => by rw [List.mem_singleton.1 hy]; decide) (by rw [fixb_len]; omega))
  have HBn : Hid (∀ (W : World), Calls Tryd.prog 15 #[.slice none 0 0] W (Byt W [0, 0])) := Lib.hid (fun W => by
    have h9 := bytesB_any [] none 0 0 W EysIn.none_ (by omega) (fun y hy => nomatch hy) (by rw [fixb_nil]; decide)
    rw [fixb_nil] at h9
    exact h9)
  have HPa : Hid (∀ (W : World) (A : Option Addr) (n c : Nat), By W (fun _ => True) A n (encB [fixE]) → Calls Tryd.prog 14 #[.slice A n c, .int .i64 4] W fun e w' => ∃ (A2 : Option Addr) (n2 c2 : Nat), e = .returned (.tuple #[.slice A2 n2 c2, .int .i64 0]) ∧ OEy w' W.heap.size (.slice A2 n2 c2) [fixE] ∧ Below W.heap.size W w') := Lib.hid (fun W A n c hY => by
    have h9 := parseB_own (encB [fixE]) 4 A n c W hY (by rw [← hY.len, fixb_len]; omega)
    rw [fixb_parse] at h9
    exact h9)
  have HSm : Hid (∀ (W : World) (A : Option Addr) (n c : Nat) (B : Option Addr) (m d B0 : Nat), EysIn W A n [fixE] → OEy W B0 (.slice B m d) [fixE] → Calls Tryd.prog 9 #[.slice A n c, .slice B m d] W fun e w' => e = .returned (.bool true) ∧ Below W.heap.size W w') := Lib.hid (fun W A n c B m d B0 hI hO => by
    have h9 := sameB_any [fixE] [fixE] A n c B m d W hI hO.eys.1 (by have := hI.len; simp at this; omega)
    rw [sameB_self] at h9
    exact h9)
  have HCk : Hid (∀ (W : World) (A : Option Addr) (n c : Nat), EysIn W A n [fixE, fixE] → n ≤ c → Calls Tryd.prog 16 #[.slice A n c, .int .i64 4] W fun e w' => e = .returned (.int .i64 15) ∧ Below W.heap.size W w') := Lib.hid (fun W A n c hI hnc => by
    have h9 := check_any [fixE, fixE] 4 A n c W hI hnc (fun y hy => by (simp at hy); rw [hy]; decide)
    rw [fixb_two] at h9
    exact h9)
  obtain ⟨D1, hD1⟩ : ∃ D1, D1 = vs (digB [fixE] []) := ⟨_, rfl⟩
  obtain ⟨D2, hD2⟩ : ∃ D2, D2 = vs (digB [] (also (kb 101, encB [fixE]) [])) := ⟨_, rfl⟩
  have hne : ∀ W, (binOp .neq 30 (.agg D1.toArray) (.agg D2.toArray)).run Tryd.prog W = .ok (.bool true) W := fun W => by
    have h9 := dig_ne (digB [fixE] []) (digB [] (also (kb 101, encB [fixE]) [])) (numB_length _ _) (numB_length _ _) W
    rw [fixb_dig] at h9
    rw [hD1, hD2]
    exact h9
  have HD1 : Hid (∀ (W : World) (g : Nat) (A : Option Addr) (n c : Nat), BS W g [] [] → EysIn W A n [fixE] → Calls Tryd.prog 8 #[.iface 25 (.pointer (some ⟨g, 0, none⟩)), .slice A n c] W fun e w' => e = .returned (.agg D1.toArray) ∧ BS w' g (also (kb 101, encB [fixE]) []) [] ∧ KF g W w') := Lib.hid (fun W g A n c hS hI => by
    rw [hD1]
    exact digest_book g [] [] [fixE] A n c W hS hI (by have := hI.len; simp at this; omega) (fun y hy => by rw [List.mem_singleton.1 hy]; decide) (by rw [fixb_len]; omega) (by decide))
  have HD2 : Hid (∀ (W : World) (g : Nat), BS W g (also (kb 101, encB [fixE]) []) [] → Calls Tryd.prog 8 #[.iface 25 (.pointer (some ⟨g, 0, none⟩)), .slice none 0 0] W fun e w' => e = .returned (.agg D2.toArray) ∧ KF g W w') := Lib.hid (fun W g hS => by
    rw [hD2]
    exact (digest_book g (also (kb 101, encB [fixE]) []) [] [] none 0 0 W hS EysIn.none_ (by omega) (fun y hy => nomatch hy) (by rw [fixb_nil]; decide) (by decide)).mono fun _ _ h => ⟨h.1, h.2.2⟩)
  have HX0 : Hid (Below w.heap.size w (w.alloc (.cells #[.int .i64 4, .int .i64 1, .int .i64 2, .string (ba [97]), .int .i64 0, .int .i64 0, .string (ba []), .int .u32 3] 43))) := Lib.hid ((Below.refl _ w).alloc (Nat.le_refl _) _)
  have HK0 : Hid (Blk (w.alloc (.cells #[.int .i64 4, .int .i64 1, .int .i64 2, .string (ba [97]), .int .i64 0, .int .i64 0, .string (ba []), .int .u32 3] 43)) w.heap.size 43 fixE.cells) := Lib.hid (Blk.fresh rfl rfl)
  clear hD1 hD2
  go_enter Tryd.func4, Tryd.ntmps4
  go_wp2_with (first
    | (refine wpList_build_el rfl Tryd.el_ey (.tmp 6) rfl [.int .i64 4, .int .i64 1, .int .i64 2, .string (ba [97]), .int .i64 0, .int .i64 0, .string (ba []), .int .u32 3] rfl rfl ?_)
    | (go_at_call 15; (with_reducible refine (HBy.out _ _ _ _ (eysin_one HK0.out fixE_ms)).mono ?_); rintro e w1 ⟨A1, n1, c1, rfl, hy1, _, _, hb1⟩; have HY1 := Lib.hid hy1; have HX1 := Lib.hid (below_step HX0.out hb1); have HK1 := Lib.hid (HK0.out.through hb1); have HL1 : Hid (w.heap.size < w1.heap.size) := Lib.hid HK1.out.lt; clear hy1 hb1)
    | (go_at_call 14; (with_reducible refine (HPa.out _ _ _ _ HY1.out).mono ?_); rintro e w2 ⟨A2, n2, c2, rfl, ho2, hb2⟩; have HO2 := Lib.hid ho2; have HX2 := Lib.hid (below_step HX1.out hb2); have HK2 := Lib.hid (HK1.out.through hb2); have HF2 := Lib.hid (fun b hb => (ho2.1.lt b hb).2); have HW12 : Hid (w1.heap.size ≤ w2.heap.size) := Lib.hid hb2.size; clear ho2 hb2)
    | (go_at_call 6; (with_reducible refine (bnew_any _).mono ?_); rintro e w3 ⟨rfl, hs3, hb3⟩; have HS3 := Lib.hid hs3; have HO3 := Lib.hid (HO2.out.through hb3); have HX3 := Lib.hid (below_step HX2.out hb3); have HK3 := Lib.hid (HK2.out.through hb3); have HW13 : Hid (w1.heap.size ≤ w3.heap.size) := Lib.hid (Nat.le_trans HW12.out hb3.size); clear hs3 hb3)
    | (go_at_call 15; (with_reducible refine (HBn.out _).mono ?_); rintro e w4 ⟨A4, n4, c4, rfl, hy4, _, _, hb4⟩; have HS4 := Lib.hid (HS3.out.through hb4); have HO4 := Lib.hid (HO3.out.through hb4); have HX4 := Lib.hid (below_step HX3.out hb4); have HK4 := Lib.hid (HK3.out.through hb4); have HW14 : Hid (w1.heap.size ≤ w4.heap.size) := Lib.hid (Nat.le_trans HW13.out hb4.size); have hsv := run_string_by (P := Tryd.prog) w4 34 9 5 Tryd.underlying34 Tryd.underlying5 Tryd.underlying9 _ _ _ c4 _ hy4; clear hy4 hb4)
    | (go_at_call 9; (with_reducible refine (HSm.out _ _ _ _ _ _ _ _ (eysin_one HK4.out fixE_ms) HO4.out).mono ?_); rintro e w5 ⟨rfl, hb5⟩; have HS5 := Lib.hid (HS4.out.through hb5); have HO5 := Lib.hid (HO4.out.through hb5); have HX5 := Lib.hid (below_step HX4.out hb5); have HK5 := Lib.hid (HK4.out.through hb5); have HW15 : Hid (w1.heap.size ≤ w5.heap.size) := Lib.hid (Nat.le_trans HW14.out hb5.size); clear hsv hb5)
    | (at_builtin; refine wpList_append_sl_g (by kernel_rfl) Tryd.el_ey (.tmp 28) (.tmp 29) rfl w1.heap.size _ ([fixE].map Ey.cells) rfl HO5.out.1 A2 n2 c2 ([fixE].map Ey.cells) rfl HO5.out.eys.1.1 (fun y hy => by (obtain ⟨z, hz, rfl⟩ := List.mem_map.1 hy); rfl) (fun y hy => by (obtain ⟨z, hz, rfl⟩ := List.mem_map.1 hy); exact Ey.one z) (by have h9 := HO5.out.eys.1.len; simp at h9 ⊢; omega) HW15.out ?_; intro v6 w6 ho6 hg6; have HS6 := Lib.hid (bs_own HS5.out HO5.out.1 hg6 HF2.out); have HK6 := Lib.hid (blk_own HK5.out HO5.out.1 hg6 HL1.out); have HX6 : Hid (Below w.heap.size w w6) := Lib.hid (HX5.out.grown hg6 HX5.out.size (fun b hb => Nat.le_trans (Nat.le_of_lt HL1.out) (HO5.out.1.lt b hb).1)); have HO6 : Hid (OEy w6 w1.heap.size v6 [fixE, fixE]) := Lib.hid ⟨ho6, fun y hy => by (simp at hy); rw [hy]; exact fixE_ms⟩; obtain ⟨A6, n6, c6, rfl, hnc6, _, hin6, _⟩ := HO6.out.out; have HI6 := Lib.hid hin6; have HN6 := Lib.hid hnc6; clear ho6 hg6 hin6 hnc6)
    | (go_at_call 16; (with_reducible refine (HCk.out _ _ _ _ HI6.out HN6.out).mono ?_); rintro e w7 ⟨rfl, hb7⟩; have HS7 := Lib.hid (HS6.out.through hb7); have HX7 := Lib.hid (below_step HX6.out hb7); have HK7 := Lib.hid (HK6.out.through hb7); clear hb7)
    | (go_at_call 8; (with_reducible refine (HD1.out _ _ _ _ _ HS7.out (eysin_one HK7.out fixE_ms)).mono ?_); rintro e w8 ⟨rfl, hs8, hk8⟩; have HS8 := Lib.hid hs8; have HX8 := Lib.hid (HX7.out.trans (hk8.low.mono HX2.out.size)); clear hs8 hk8)
    | (go_at_call 8; (with_reducible refine (HD2.out _ _ HS8.out).mono ?_); rintro e w9 ⟨rfl, hk9⟩; have HX9 := Lib.hid (HX8.out.trans (hk9.low.mono HX2.out.size)); clear hk9))
  go_ret
  exact ⟨rfl, HX9.out⟩
end

end Go.Proofs.YtgbobemhogeeeaaDoor
