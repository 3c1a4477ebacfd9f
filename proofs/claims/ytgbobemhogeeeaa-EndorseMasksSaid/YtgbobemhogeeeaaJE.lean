/-
  Joined: EnM, EnK, EnL, EnG, EnE, EnS, EnV.
-/
import Derived.Test.YtgbobemhogeeeaaEnI
import Derived.Test.YtgbobemhogeeeaaRqBy
import Derived.Test.YtgbobemhogeeeaaJB
import Derived.BigQuiet
import Derived.Test.YtgbobemhogeeeaaJF
import Derived.Test.YtgbobemhogeeeaaRqA
import Derived.Test.YtgbobemhogeeeaaRqS
import Derived.Test.YtgbobemhogeeeaaEnW
import Derived.Test.YtgbobemhogeeeaaRqL1
namespace Go.Proofs.Ytgbobemhogeeeaa

section
open Go.RowKit
theorem Try.build_en00 (w : World) : (Instr.build 34 #[]).run Try.prog w = .ok (.agg #[.int .i64 0, .slice none 0 0]) w := by kernel_rfl
theorem Try.zero_en (w : World) : (zeroValue 34).run Try.prog w = .ok (.agg #[.int .i64 0, .slice none 0 0]) w := by kernel_rfl
/-- an organization's first endorsement's tags, if there is one -/
def endT (es : List En) (y : Int) : List (List UInt8) × Bool := match es.find? (fun e => e.og == y) with
  | some e => (e.ts, true)
  | none => ([], false)
theorem find_of_idx {es : List En} {y : Int} {i : Nat} {e : En} (h : es.findIdx? (fun e => e.og == y) = some i) (he : es[i]? = some e) : es.find? (fun e => e.og == y) = some e := by
  induction es generalizing i with
  | nil => simp at h
  | cons x xs ih =>
    rw [List.findIdx?_cons] at h
    cases hx : (x.og == y) with
    | true =>
      rw [hx] at h
      simp at h
      subst h
      have : x = e := by simpa using he
      subst this
      simp [hx]
    | false =>
      rw [hx] at h
      simp at h
      obtain ⟨j, hj, rfl⟩ := h
      rw [List.find?_cons, hx]
      exact ih hj (by simpa using he)
theorem find_of_none {es : List En} {y : Int} (h : es.findIdx? (fun e => e.og == y) = none) : es.find? (fun e => e.og == y) = none := by
  rw [List.findIdx?_eq_none_iff] at h
  rw [List.find?_eq_none]
  intro e he
  simpa using h e he

set_option maxHeartbeats 4000000 in
set_option maxRecDepth 100000 in
theorem endorsement_any (es : List En) (A : Option Addr) (n c : Nat) (y : Int) (w : World) (h : EsIn w A n es) (hn : n ≤ 1000000) :
    Calls Try.prog 34 #[.slice A n c, .int .i64 y] w fun e w' => ∃ og D k g2, e = .returned (.tuple #[.agg #[.int .i64 og, .slice D k g2], .bool (endT es y).2]) ∧ TsIn w' (D, k, g2) (endT es y).1 ∧ Below w.heap.size w w' := by
  have hz := Try.zero_en
  have hb0 := Try.build_en00
  have HLn := Lib.hid h.len
  have HX0 : Hid (Below w.heap.size w ((w.alloc (.cells #[.int .i64 y] 3)).alloc (.cells #[.int .i64 0, .slice none 0 0] 34))) := Lib.hid (below2_ w _ _)
  have HG0 : Hid (Blk ((w.alloc (.cells #[.int .i64 y] 3)).alloc (.cells #[.int .i64 0, .slice none 0 0] 34)) w.heap.size 3 [.int .i64 y]) := Lib.hid ((Blk.fresh rfl rfl).alloc _)
  have HZ0 : Hid (Blk ((w.alloc (.cells #[.int .i64 y] 3)).alloc (.cells #[.int .i64 0, .slice none 0 0] 34)) (w.heap.size + 1) 34 [.int .i64 0, .slice none 0 0]) := Lib.hid (Blk.fresh (by simp) rfl)
  have HI := Lib.hid h
  have hf := first3_any es A n c y w.heap.size ((w.alloc (.cells #[.int .i64 y] 3)).alloc (.cells #[.int .i64 0, .slice none 0 0] 34)) (h.through HX0.out) hn HG0.out
  clear h
  cases h1 : es.findIdx? (fun e => e.og == y) with
  | none =>
    have HE : Hid (endT es y = ([], false)) := Lib.hid (by unfold endT; rw [find_of_none h1])
    have hv : ixF (fun e : En => e.og == y) es = -1 := by unfold ixF; rw [h1]
    rw [hv] at hf
    have HF := Lib.hid hf
    clear h1 hv hf
    go_enter Try.func34, Try.ntmps34
    go_wp2_with (first
      | (go_at_call 60; (with_reducible refine (HF.out).mono ?_); rintro e1 w1 ⟨rfl, hb1⟩; have HX1 := Lib.hid (below_step HX0.out hb1); have HZ1 := Lib.hid (HZ0.out.through hb1); clear hb1)
      | (refine wpList_store_blk rfl 34 (.tmp 4) (.tmp 12) rfl (w.heap.size + 1) [.int .i64 0, .slice none 0 0] rfl rfl 34 [.int .i64 0, .slice none 0 0] HZ1.out (by kernel_rfl) rfl (by simp [Value.oneCell']) ?_; intro wy hby hgy; have HGy := Lib.hid hgy; have HBy := Lib.hid hby; have HXy : Hid (Below w.heap.size w wy) := Lib.hid (HX1.out.grown hgy HX1.out.size (fun k hk => by have := Option.some.inj hk; omega)); clear hby hgy))
    (try simp only [Exit.inBlock, Exit.then]); refine bodyPost_ret (results_cell_row_tmp1 rfl _ _ (w.heap.size + 1) 34 _ (0, 0) _ rfl HBy.out Try.underlying34 rfl (by kernel_rfl)) rfl ?_
    exact ⟨0, none, 0, 0, by rw [HE.out]; rfl, by rw [HE.out]; exact TsIn.nil_, HXy.out⟩
  | some i =>
    obtain ⟨_, e, he, _⟩ := findIdx_of_some h1
    have hil : i < n := by
      have h9 := (List.getElem?_eq_some_iff.1 he).1
      have := HLn.out
      omega
    have HE : Hid (endT es y = (e.ts, true)) := Lib.hid (by unfold endT; rw [find_of_idx h1 he])
    have hv : ixF (fun e : En => e.og == y) es = (i : Int) := by unfold ixF; rw [h1]
    rw [hv] at hf
    have HF := Lib.hid hf
    obtain ⟨g, o, e9, D, k, g2, rfl, he9, _, _, hrx, hts⟩ := HI.out.at hil
    rw [he] at he9
    injection he9 with he9
    subst he9
    have HRx0 := Lib.hid hrx
    have HTs := Lib.hid hts
    have hix := fun (W : World) => Try.ix_en W g o n c i hil
    have hneg : decide ((i : Int) < 0) = false := by simp
    have hrx1 : ∀ W, Below w.heap.size w W → W.rangeAt g (o + i * 2) [.int .i64 e.og, .slice D k g2] := fun W hW => range_through HRx0.out hW
    have HRW := Lib.hid hrx1
    clear h1 hv hf he hrx hts hrx1
    go_enter Try.func34, Try.ntmps34
    go_wp2_with (first
      | (go_at_call 60; (with_reducible refine (HF.out).mono ?_); rintro e1 w1 ⟨rfl, hb1⟩; have HX1 := Lib.hid (below_step HX0.out hb1); have HZ1 := Lib.hid (HZ0.out.through hb1); clear hb1)
      | (refine wpList_load_mid rfl 34 (.tmp 15) rfl g (o + i * 2) rfl [.int .i64 e.og, .slice D k g2] _ (HRW.out _ HX1.out) Try.underlying34 rfl (by kernel_rfl) ?_)
      | (refine wpList_store_blk rfl 34 (.tmp 4) (.tmp 16) rfl (w.heap.size + 1) [.int .i64 e.og, .slice D k g2] rfl rfl 34 [.int .i64 0, .slice none 0 0] HZ1.out (by kernel_rfl) rfl (by simp [Value.oneCell']) ?_; intro wy hby hgy; have HGy := Lib.hid hgy; have HBy := Lib.hid hby; have HXy : Hid (Below w.heap.size w wy) := Lib.hid (HX1.out.grown hgy HX1.out.size (fun k hk => by have := Option.some.inj hk; omega)); clear hby hgy))
    (try simp only [Exit.inBlock, Exit.then]); refine bodyPost_ret (results_cell_row_tmp1 rfl _ _ (w.heap.size + 1) 34 _ (0, 0) _ rfl HBy.out Try.underlying34 rfl (by kernel_rfl)) rfl ?_
    exact ⟨e.og, D, k, g2, by rw [HE.out]; rfl, by rw [HE.out]; exact HTs.out.through HXy.out, HXy.out⟩
end

section
open Go.RowKit
set_option maxHeartbeats 8000000 in
set_option maxRecDepth 100000 in
theorem holds_low (g : Nat) (f to_ : Int) (tg : List UInt8) (bb : Bool) (htg : tg.length = 32) (T : Option Addr) (tn tc : Nat) (w : World)
    (hchk : ∀ W, Below w.heap.size w W → Calls Try.prog 115 #[.pointer (some ⟨g, 0, none⟩), .int .i64 f, .int .i64 to_, .slice T tn tc, .agg (vs tg).toArray] W fun e w' => e = .returned (.bool bb) ∧ Below W.heap.size W w') :
    Calls Try.prog 35 #[.iface 53 (.pointer (some ⟨g, 0, none⟩)), .int .i64 f, .int .i64 to_, .slice T tn tc, .agg (vs tg).toArray] w fun e w' => e = .returned (.bool bb) ∧ Below w.heap.size w w' := by
  have hmf : ∀ (fn : Fn) (first cap : Array Value) (w : World), (Instr.makeFunc fn first cap).run Try.prog w = .ok (.func fn first cap) w := fun _ _ _ _ => rfl
  obtain ⟨q, hq⟩ : ∃ q, q = vs tg := ⟨_, rfl⟩
  have hql : q.length = 32 := by rw [hq, vs_length, htg]
  rw [← hq] at hchk ⊢
  have HQl := Lib.hid hql
  have hx2 : Below w.heap.size w ((w.alloc (.cells q.toArray 73)).alloc (.cells #[.bool false] 4)) := below2_ w _ _
  have HX2 := Lib.hid hx2
  have H9 : Hid (Blk ((w.alloc (.cells q.toArray 73)).alloc (.cells #[.bool false] 4)) w.heap.size 73 q) := Lib.hid ((Blk.fresh rfl rfl).alloc _)
  have H10 : Hid (Blk ((w.alloc (.cells q.toArray 73)).alloc (.cells #[.bool false] 4)) (w.heap.size + 1) 4 [.bool false]) := Lib.hid (Blk.fresh (by simp) rfl)
  have HChk := Lib.hid (hchk _ hx2)
  clear hq hql hchk hx2
  go_enter_defers Try.func35, Try.ntmps35
  go_wp2_with (first
    | (refine wpList_load_blk_g 73 (.tmp 9) rfl (by kernel_rfl) w.heap.size rfl 73 q _ H9.out Try.underlying73 rfl (by rw [HQl.out]; kernel_rfl) ?_)
    | (go_at_call 115; (with_reducible refine (HChk.out).mono ?_); rintro e w3 ⟨rfl, hb3⟩; have H13 := Lib.hid (H10.out.through hb3); have HX3 := Lib.hid (below_step HX2.out hb3); clear hb3)
    | (refine wpList_store_cell rfl 4 (.tmp 10) (.tmp 21) rfl (w.heap.size + 1) 0 rfl (.bool bb) rfl rfl rfl Try.size_bool 4 [.bool false] H13.out (by simp) ?_; intro w4 hb4 hg4; have H14 : Hid (Blk w4 (w.heap.size + 1) 4 [.bool bb]) := Lib.hid hb4; have HX4 : Hid (Below w.heap.size w w4) := Lib.hid (HX3.out.grown hg4 HX3.out.size (fun k hk => by have := Option.some.inj hk; omega)); clear hb4 hg4))
  refine leaves_cons (f := 65) (args := #[.pointer (some ⟨w.heap.size + 1, 0, none⟩)]) (by simp) (by simp [go_sem]) ?_
  refine (holds1_idle _ _).mono ?_
  rintro e u' w'' ⟨rfl, rfl, rfl⟩
  exact ⟨_, results_cell_one rfl _ _ ⟨w.heap.size + 1, 0, none⟩ (.bool bb) (Try.agg_bool _) rfl (H14.out.cellAt rfl), rfl, HX4.out⟩

/-- does an organization's endorsement count, as a replica sees it? -/
def inE (hold : Int → List UInt8 → Bool) (es : List En) (who o : Int) : Bool := (endT es o).2 && (decide (0 ≤ who) && (match (endT es o).1[who.toNat]? with | some t => hold o t | none => false))

set_option maxHeartbeats 8000000 in
set_option maxRecDepth 100000 in
theorem mask1_any (K : Value) (hold : Int → List UInt8 → Bool) (co : Cr) (es : List En) (A : Option Addr) (n c1 : Nat) (who o : Int) (T : Option Addr) (tn tc : Nat) (b5 b7 b4 b9 : Nat) (w : World) (h : EsIn w A n es) (hn : n ≤ 1000000)
    (h5 : Blk w b5 26 [.int .i64 co.cl, .int .i64 co.sp, .int .i64 co.op, .string (ba co.lt), .int .i64 co.a, .int .i64 co.b, .string (ba co.tx), .slice A n c1]) (h7 : Blk w b7 3 [.int .i64 who]) (h4 : Blk w b4 63 [K]) (h9 : Blk w b9 40 [.slice T tn tc])
    (hh : ∀ W, Below w.heap.size w W → ∀ t : List UInt8, t.length = 32 → Calls Try.prog 35 #[K, .int .i64 o, .int .i64 who, .slice T tn tc, .agg (vs t).toArray] W fun e w' => e = .returned (.bool (hold o t)) ∧ Below W.heap.size W w') :
    Calls Try.prog 33 #[.int .i64 o, .pointer (some ⟨b5, 0, none⟩), .pointer (some ⟨b7, 0, none⟩), .pointer (some ⟨b4, 0, none⟩), .pointer (some ⟨b9, 0, none⟩)] w fun e w' => e = .returned (.bool (inE hold es who o)) ∧ Below w.heap.size w w' := by
  have hE := endorsement_any es A n c1 o w h hn
  obtain ⟨bb, hbb⟩ : ∃ bb, inE hold es who o = bb := ⟨_, rfl⟩
  rw [hbb]
  unfold inE at hbb
  generalize endT es o = et at *
  obtain ⟨ts, ok⟩ := et
  simp only at hbb hE
  have c57 := h5.cellAt (i := 7) rfl
  have H7 := Lib.hid h7
  have H4 := Lib.hid h4
  have H9 := Lib.hid h9
  have HH := Lib.hid hh
  have HBB := Lib.hid hbb
  clear h h5 h7 h4 h9 hh hbb
  cases ok with
  | false =>
    have HF : Hid (bb = false) := Lib.hid (by rw [← HBB.out]; rfl)
    have HE := Lib.hid hE
    clear hE
    go_enter Try.func33, Try.ntmps33
    go_wp2_with (first
      | (go_at_call 34; (with_reducible refine (HE.out).mono ?_); rintro e w1 ⟨og, D, k, g2, rfl, hts, hb1⟩; have HTs := Lib.hid (hts.through (below1_ w1 (.cells #[.int .i64 og, .slice D k g2] 34))); have HX1 : Hid (Below w.heap.size w (w1.alloc (.cells #[.int .i64 og, .slice D k g2] 34))) := Lib.hid (hb1.alloc hb1.size (.cells #[.int .i64 og, .slice D k g2] 34)); have c7 := ((H7.out.through hb1).alloc (.cells #[.int .i64 og, .slice D k g2] 34)).cellAt (i := 0) rfl; clear hb1 hts))
    go_quiet (fail)
    go_wp2
    go_ret
    exact ⟨by rw [HF.out]; rfl, below_drewN HX1.out _⟩
  | true =>
    have HE := Lib.hid hE
    clear hE
    by_cases h1 : 0 ≤ who
    case neg =>
      have HF : Hid (bb = false) := Lib.hid (by rw [← HBB.out]; simp [h1])
      have d1 : decide (0 ≤ who) = false := decide_eq_false h1
      clear h1
      go_enter Try.func33, Try.ntmps33
      go_wp2_with (first
        | (go_at_call 34; (with_reducible refine (HE.out).mono ?_); rintro e w1 ⟨og, D, k, g2, rfl, hts, hb1⟩; have HTs := Lib.hid (hts.through (below1_ w1 (.cells #[.int .i64 og, .slice D k g2] 34))); have HX1 : Hid (Below w.heap.size w (w1.alloc (.cells #[.int .i64 og, .slice D k g2] 34))) := Lib.hid (hb1.alloc hb1.size (.cells #[.int .i64 og, .slice D k g2] 34)); have c7 := ((H7.out.through hb1).alloc (.cells #[.int .i64 og, .slice D k g2] 34)).cellAt (i := 0) rfl; clear hb1 hts))
      go_quiet (fail)
      go_wp2
      go_ret
      exact ⟨by rw [HF.out]; rfl, below_drewN HX1.out _⟩
    obtain ⟨j, rfl⟩ : ∃ j : Nat, who = j := ⟨who.toNat, by omega⟩
    have d1 : decide ((0 : Int) ≤ (j : Int)) = true := by simp
    go_enter Try.func33, Try.ntmps33
    go_wp2_with (first
      | (go_at_call 34; (with_reducible refine (HE.out).mono ?_); rintro e w1 ⟨og, D, k, g2, rfl, hts, hb1⟩; have HTs := Lib.hid (hts.through (below1_ w1 (.cells #[.int .i64 og, .slice D k g2] 34))); have HX1 : Hid (Below w.heap.size w (w1.alloc (.cells #[.int .i64 og, .slice D k g2] 34))) := Lib.hid (hb1.alloc hb1.size (.cells #[.int .i64 og, .slice D k g2] 34)); have c7 := ((H7.out.through hb1).alloc (.cells #[.int .i64 og, .slice D k g2] 34)).cellAt (i := 0) rfl; clear hb1 hts))
    by_cases h2 : j < k
    case neg =>
      have d2 : decide ((j : Int) < (k : Int)) = false := by simp; omega
      have d2n : decide (j < k) = false := decide_eq_false h2
      have HF : Hid (bb = false) := Lib.hid (by
        have hl := HTs.out.len
        simp only at hl
        rw [← HBB.out, Int.toNat_natCast, List.getElem?_eq_none (by omega)]
        simp)
      clear h1
      go_quiet (fail)
      go_wp2
      go_ret
      exact ⟨by rw [HF.out]; rfl, below_drewN HX1.out _⟩
    have d2 : decide ((j : Int) < (k : Int)) = true := by simp; omega
    have d2n : decide (j < k) = true := decide_eq_true h2
    obtain ⟨gt, ot, t, hD, htj, _, _, htl, hrt⟩ := HTs.out.at h2
    simp only at hD
    subst hD
    obtain ⟨bo, hbo⟩ : ∃ bo, hold o t = bo := ⟨_, rfl⟩
    have HF : Hid (bb = bo) := Lib.hid (by rw [← HBB.out, Int.toNat_natCast, htj]; simp [hbo])
    have HHt : Hid (∀ W, Below w.heap.size w W → Calls Try.prog 35 #[K, .int .i64 o, .int .i64 (j : Int), .slice T tn tc, .agg (vs t).toArray] W fun e w' => e = .returned (.bool bo) ∧ Below W.heap.size W w') := Lib.hid (fun W hW => by
      have h9 := HH.out W hW t htl
      rw [hbo] at h9
      exact h9)
    have HRt := Lib.hid hrt
    have HTl := Lib.hid htl
    have HOe : Hid (Blk (w1.alloc (.cells #[.int .i64 og, .slice (some ⟨gt, ot, none⟩) k g2] 34)) w1.heap.size 34 [.int .i64 og, .slice (some ⟨gt, ot, none⟩) k g2]) := Lib.hid (Blk.fresh rfl rfl)
    have hixt := fun (W : World) => Try.ix_tg W gt ot k g2 j h2
    clear h1 htj htl hrt hbo c7
    refine wp_region_held_drew (S := fun W => Below (w1.alloc (.cells #[.int .i64 og, .slice (some ⟨gt, ot, none⟩) k g2] 34)).heap.size (w1.alloc (.cells #[.int .i64 og, .slice (some ⟨gt, ot, none⟩) k g2] 34)) W) (by kernel_rfl) (Below.refl _ _).drew (fun hHeld => ?_)
    change wpAnyH _ _ _ _ _ _ #[false, false, false, false, false, false, false, false, false, false, false, false, false, false, false, false, false, false, false, false, false, false, false, false, false] _ _
    refine wpAnyH_take (i := 0) (v := (.bool true)) rfl (by kernel_rfl) (by kernel_rfl) (by kernel_rfl) (fun _ _ _ h => h) (Or.inl ⟨by kernel_rfl, fun w hSw => ?_⟩) (by assumption) ?_
    · (try dsimp only at hSw); go_simp <;> (try rfl)
    change wpAnyH _ _ _ _ _ _ _ (Act.put _ (some (16 : Nat)) (.bool true)) _
    simp only [Act.put, List.setIfInBounds_toArray, List.set_cons_zero, List.set_cons_succ]
    refine wpAnyH_take (i := 1) (v := (.bool true)) rfl (by kernel_rfl) (by kernel_rfl) (by kernel_rfl) (fun _ _ _ h => h) (Or.inl ⟨by kernel_rfl, fun w hSw => ?_⟩) (by assumption) ?_
    · (try dsimp only at hSw); go_simp <;> (try rfl)
    change wpAnyH _ _ _ _ _ _ _ (Act.put _ (some (17 : Nat)) (.bool true)) _
    simp only [Act.put, List.setIfInBounds_toArray, List.set_cons_zero, List.set_cons_succ]
    refine wpAnyH_take (i := 2) (v := (.int .i64 (j : Int))) rfl (by kernel_rfl) (by kernel_rfl) (by kernel_rfl) (fun _ _ _ h => h) (yields_load_at (by kernel_rfl) 3 (.tmp 2) rfl (.pointer (some ⟨b7, 0, none⟩)) (by simp [Act.eval]) (.int .i64 (j : Int)) (fun W hW => load_one' (by kernel_rfl) (((H7.out.through (below_step HX1.out hW))).cellAt (i := 0) rfl))) (by assumption) ?_
    change wpAnyH _ _ _ _ _ _ _ (Act.put _ (some (18 : Nat)) (.int .i64 (j : Int))) _
    simp only [Act.put, List.setIfInBounds_toArray, List.set_cons_zero, List.set_cons_succ]
    refine wpAnyH_take (i := 3) (v := (.bool true)) rfl (by kernel_rfl) (by kernel_rfl) (by kernel_rfl) (fun _ _ _ h => h) (Or.inl ⟨by kernel_rfl, fun w hSw => ?_⟩) (by assumption) ?_
    · (try dsimp only at hSw); go_simp <;> (try rfl)
    change wpAnyH _ _ _ _ _ _ _ (Act.put _ (some (19 : Nat)) (.bool true)) _
    simp only [Act.put, List.setIfInBounds_toArray, List.set_cons_zero, List.set_cons_succ]
    refine wpAnyH_take (i := 4) (v := (.bool true)) rfl (by kernel_rfl) (by kernel_rfl) (by kernel_rfl) (fun _ _ _ h => h) (Or.inl ⟨by kernel_rfl, fun w hSw => ?_⟩) (by assumption) ?_
    · (try dsimp only at hSw); go_simp <;> (try rfl)
    change wpAnyH _ _ _ _ _ _ _ (Act.put _ (some (20 : Nat)) (.bool true)) _
    simp only [Act.put, List.setIfInBounds_toArray, List.set_cons_zero, List.set_cons_succ]
    refine wpAnyH_take (i := 5) (v := (.bool true)) rfl (by kernel_rfl) (by kernel_rfl) (by kernel_rfl) (fun _ _ _ h => h) (Or.inl ⟨by kernel_rfl, fun w hSw => ?_⟩) (by assumption) ?_
    · (try dsimp only at hSw); go_simp <;> (try rfl)
    change wpAnyH _ _ _ _ _ _ _ (Act.put _ (some (21 : Nat)) (.bool true)) _
    simp only [Act.put, List.setIfInBounds_toArray, List.set_cons_zero, List.set_cons_succ]
    refine wpAnyH_take (i := 6) (v := (.int .i64 (j : Int))) rfl (by kernel_rfl) (by kernel_rfl) (by kernel_rfl) (fun _ _ _ h => h) (yields_load_at (by kernel_rfl) 3 (.tmp 2) rfl (.pointer (some ⟨b7, 0, none⟩)) (by simp [Act.eval]) (.int .i64 (j : Int)) (fun W hW => load_one' (by kernel_rfl) (((H7.out.through (below_step HX1.out hW))).cellAt (i := 0) rfl))) (by assumption) ?_
    change wpAnyH _ _ _ _ _ _ _ (Act.put _ (some (22 : Nat)) (.int .i64 (j : Int))) _
    simp only [Act.put, List.setIfInBounds_toArray, List.set_cons_zero, List.set_cons_succ]
    refine wpAnyH_take (i := 7) (v := (.pointer (some ⟨w1.heap.size, 1, none⟩))) rfl (by kernel_rfl) (by kernel_rfl) (by kernel_rfl) (fun _ _ _ h => h) (Or.inl ⟨by kernel_rfl, fun w hSw => ?_⟩) (by assumption) ?_
    · (try dsimp only at hSw); go_simp <;> (try rfl)
    change wpAnyH _ _ _ _ _ _ _ (Act.put _ (some (23 : Nat)) (.pointer (some ⟨w1.heap.size, 1, none⟩))) _
    simp only [Act.put, List.setIfInBounds_toArray, List.set_cons_zero, List.set_cons_succ]
    refine wpAnyH_take (i := 8) (v := (.slice (some ⟨gt, ot, none⟩) k g2)) rfl (by kernel_rfl) (by kernel_rfl) (by kernel_rfl) (fun _ _ _ h => h) (yields_load_at (by kernel_rfl) 32 (.tmp 23) rfl (.pointer (some ⟨w1.heap.size, 1, none⟩)) (by simp [Act.eval]) (.slice (some ⟨gt, ot, none⟩) k g2) (fun W hW => load_one' (Try.agg_ts W) ((HOe.out.through hW).cellAt (i := 1) rfl))) (by assumption) ?_
    change wpAnyH _ _ _ _ _ _ _ (Act.put _ (some (24 : Nat)) (.slice (some ⟨gt, ot, none⟩) k g2)) _
    simp only [Act.put, List.setIfInBounds_toArray, List.set_cons_zero, List.set_cons_succ]
    refine wpAnyH_take (i := 9) (v := (.int .i64 (k : Int))) rfl (by kernel_rfl) (by kernel_rfl) (by kernel_rfl) (fun _ _ _ h => h) (Or.inl ⟨by kernel_rfl, fun w hSw => ?_⟩) (by assumption) ?_
    · (try dsimp only at hSw); go_simp <;> (try rfl)
    change wpAnyH _ _ _ _ _ _ _ (Act.put _ (some (25 : Nat)) (.int .i64 (k : Int))) _
    simp only [Act.put, List.setIfInBounds_toArray, List.set_cons_zero, List.set_cons_succ]
    refine wpAnyH_take (i := 10) (v := (.bool true)) rfl (by kernel_rfl) (by kernel_rfl) (by kernel_rfl) (fun _ _ _ h => h) (Or.inl ⟨by kernel_rfl, fun w hSw => ?_⟩) (by assumption) ?_
    · (try dsimp only at hSw); go_simp <;> (try rfl)
    change wpAnyH _ _ _ _ _ _ _ (Act.put _ (some (26 : Nat)) (.bool true)) _
    simp only [Act.put, List.setIfInBounds_toArray, List.set_cons_zero, List.set_cons_succ]
    refine wpAnyH_take (i := 11) (v := (.bool true)) rfl (by kernel_rfl) (by kernel_rfl) (by kernel_rfl) (fun _ _ _ h => h) (Or.inl ⟨by kernel_rfl, fun w hSw => ?_⟩) (by assumption) ?_
    · (try dsimp only at hSw); go_simp <;> (try rfl)
    change wpAnyH _ _ _ _ _ _ _ (Act.put _ (some (27 : Nat)) (.bool true)) _
    simp only [Act.put, List.setIfInBounds_toArray, List.set_cons_zero, List.set_cons_succ]
    refine wpAnyH_take (i := 12) (v := (.bool true)) rfl (by kernel_rfl) (by kernel_rfl) (by kernel_rfl) (fun _ _ _ h => h) (Or.inl ⟨by kernel_rfl, fun w hSw => ?_⟩) (by assumption) ?_
    · (try dsimp only at hSw); go_simp <;> (try rfl)
    change wpAnyH _ _ _ _ _ _ _ (Act.put _ (some (28 : Nat)) (.bool true)) _
    simp only [Act.put, List.setIfInBounds_toArray, List.set_cons_zero, List.set_cons_succ]
    refine wpAnyH_take (i := 13) (v := K) rfl (by kernel_rfl) (by kernel_rfl) (by kernel_rfl) (fun _ _ _ h => h) (yields_load_at (by kernel_rfl) 63 (.tmp 3) rfl (.pointer (some ⟨b4, 0, none⟩)) (by simp [Act.eval]) K (fun W hW => load_one' (by kernel_rfl) (((H4.out.through (below_step HX1.out hW))).cellAt (i := 0) rfl))) (by assumption) ?_
    change wpAnyH _ _ _ _ _ _ _ (Act.put _ (some (29 : Nat)) K) _
    simp only [Act.put, List.setIfInBounds_toArray, List.set_cons_zero, List.set_cons_succ]
    refine wpAnyH_take (i := 14) (v := (.int .i64 o)) rfl (by kernel_rfl) (by kernel_rfl) (by kernel_rfl) (fun _ _ _ h => h) (Or.inl ⟨by kernel_rfl, fun w hSw => ?_⟩) (by assumption) ?_
    · (try dsimp only at hSw); go_simp <;> (try rfl)
    change wpAnyH _ _ _ _ _ _ _ (Act.put _ (some (30 : Nat)) (.int .i64 o)) _
    simp only [Act.put, List.setIfInBounds_toArray, List.set_cons_zero, List.set_cons_succ]
    refine wpAnyH_take (i := 15) (v := (.int .i64 (j : Int))) rfl (by kernel_rfl) (by kernel_rfl) (by kernel_rfl) (fun _ _ _ h => h) (yields_load_at (by kernel_rfl) 3 (.tmp 2) rfl (.pointer (some ⟨b7, 0, none⟩)) (by simp [Act.eval]) (.int .i64 (j : Int)) (fun W hW => load_one' (by kernel_rfl) (((H7.out.through (below_step HX1.out hW))).cellAt (i := 0) rfl))) (by assumption) ?_
    change wpAnyH _ _ _ _ _ _ _ (Act.put _ (some (31 : Nat)) (.int .i64 (j : Int))) _
    simp only [Act.put, List.setIfInBounds_toArray, List.set_cons_zero, List.set_cons_succ]
    refine wpAnyH_take (i := 16) (v := (.slice T tn tc)) rfl (by kernel_rfl) (by kernel_rfl) (by kernel_rfl) (fun _ _ _ h => h) (yields_load_at (by kernel_rfl) 40 (.tmp 4) rfl (.pointer (some ⟨b9, 0, none⟩)) (by simp [Act.eval]) (.slice T tn tc) (fun W hW => load_one' (by kernel_rfl) (((H9.out.through (below_step HX1.out hW))).cellAt (i := 0) rfl))) (by assumption) ?_
    change wpAnyH _ _ _ _ _ _ _ (Act.put _ (some (32 : Nat)) (.slice T tn tc)) _
    simp only [Act.put, List.setIfInBounds_toArray, List.set_cons_zero, List.set_cons_succ]
    refine wpAnyH_take (i := 17) (v := (.pointer (some ⟨w1.heap.size, 1, none⟩))) rfl (by kernel_rfl) (by kernel_rfl) (by kernel_rfl) (fun _ _ _ h => h) (Or.inl ⟨by kernel_rfl, fun w hSw => ?_⟩) (by assumption) ?_
    · (try dsimp only at hSw); go_simp <;> (try rfl)
    change wpAnyH _ _ _ _ _ _ _ (Act.put _ (some (33 : Nat)) (.pointer (some ⟨w1.heap.size, 1, none⟩))) _
    simp only [Act.put, List.setIfInBounds_toArray, List.set_cons_zero, List.set_cons_succ]
    refine wpAnyH_take (i := 18) (v := (.slice (some ⟨gt, ot, none⟩) k g2)) rfl (by kernel_rfl) (by kernel_rfl) (by kernel_rfl) (fun _ _ _ h => h) (yields_load_at (by kernel_rfl) 32 (.tmp 33) rfl (.pointer (some ⟨w1.heap.size, 1, none⟩)) (by simp [Act.eval]) (.slice (some ⟨gt, ot, none⟩) k g2) (fun W hW => load_one' (Try.agg_ts W) ((HOe.out.through hW).cellAt (i := 1) rfl))) (by assumption) ?_
    change wpAnyH _ _ _ _ _ _ _ (Act.put _ (some (34 : Nat)) (.slice (some ⟨gt, ot, none⟩) k g2)) _
    simp only [Act.put, List.setIfInBounds_toArray, List.set_cons_zero, List.set_cons_succ]
    refine wpAnyH_take (i := 19) (v := (.int .i64 (j : Int))) rfl (by kernel_rfl) (by kernel_rfl) (by kernel_rfl) (fun _ _ _ h => h) (yields_load_at (by kernel_rfl) 3 (.tmp 2) rfl (.pointer (some ⟨b7, 0, none⟩)) (by simp [Act.eval]) (.int .i64 (j : Int)) (fun W hW => load_one' (by kernel_rfl) (((H7.out.through (below_step HX1.out hW))).cellAt (i := 0) rfl))) (by assumption) ?_
    change wpAnyH _ _ _ _ _ _ _ (Act.put _ (some (35 : Nat)) (.int .i64 (j : Int))) _
    simp only [Act.put, List.setIfInBounds_toArray, List.set_cons_zero, List.set_cons_succ]
    refine wpAnyH_take (i := 20) (v := (.pointer (some ⟨gt, ot + j * 32, none⟩))) rfl (by kernel_rfl) (by kernel_rfl) (by kernel_rfl) (fun _ _ _ h => h) (Or.inl ⟨by kernel_rfl, fun w hSw => ?_⟩) (by assumption) ?_
    · (try dsimp only at hSw); go_simp <;> (try rfl)
    change wpAnyH _ _ _ _ _ _ _ (Act.put _ (some (36 : Nat)) (.pointer (some ⟨gt, ot + j * 32, none⟩))) _
    simp only [Act.put, List.setIfInBounds_toArray, List.set_cons_zero, List.set_cons_succ]
    refine wpAnyH_take (i := 21) (v := (.agg (vs t).toArray)) rfl (by kernel_rfl) (by kernel_rfl) (by kernel_rfl) (fun _ _ _ h => h) (yieldsIf_load_mid (by kernel_rfl) 73 (.tmp 36) rfl gt (ot + j * 32) (by simp [Act.eval]) (vs t) _ (fun W hW => range_through HRt.out hW) Try.underlying73 rfl (by rw [vs_length, HTl.out]; kernel_rfl)) (by assumption) ?_
    change wpAnyH _ _ _ _ _ _ _ (Act.put _ (some (37 : Nat)) (.agg (vs t).toArray)) _
    simp only [Act.put, List.setIfInBounds_toArray, List.set_cons_zero, List.set_cons_succ]
    refine wpAnyH_ready (rs := [22]) (by kernel_rfl) (by simp) ?_
    refine AllReadyH.cons rfl (fun K hK => ?_) AllReadyH.nil
    go_simp
    refine (HHt.out _ (below_step HX1.out hHeld)).mono ?_
    rintro e w2 ⟨rfl, hb2⟩; have HK2 := Lib.hid (below_step hHeld hb2); clear hb2
    go_wp2_with fail
    refine hK.out _ _ HK2.out (fun hHeld1 => ?_)
    clear hHeld hK K
    have hHeld := hHeld1
    clear hHeld1
    refine wpAnyH_take (i := 23) (v := (.bool bo)) rfl (by kernel_rfl) (by kernel_rfl) (by kernel_rfl) (fun _ _ _ h => h) (Or.inl ⟨by kernel_rfl, fun w hSw => ?_⟩) (by assumption) ?_
    · (try dsimp only at hSw); go_simp <;> (try rfl)
    change wpAnyH _ _ _ _ _ _ _ (Act.put _ (some (39 : Nat)) (.bool bo)) _
    simp only [Act.put, List.setIfInBounds_toArray, List.set_cons_zero, List.set_cons_succ]
    refine wpAnyH_take (i := 24) (v := (.bool bo)) rfl (by kernel_rfl) (by kernel_rfl) (by kernel_rfl) (fun _ _ _ h => h) (Or.inl ⟨by kernel_rfl, fun w hSw => ?_⟩) (by assumption) ?_
    · (try dsimp only at hSw); go_simp <;> (try rfl)
    change wpAnyH _ _ _ _ _ _ _ (Act.put _ (some (6 : Nat)) (.bool bo)) _
    simp only [Act.put, List.setIfInBounds_toArray, List.set_cons_zero, List.set_cons_succ]
    refine wpAnyH_done (by kernel_rfl) ?_ _
    have HZ := Lib.hid (below_step HX1.out hHeld)
    clear hHeld
    go_wp2
    go_ret
    exact ⟨by rw [HF.out]; rfl, HZ.out⟩
end

section
open Go.RowKit
theorem shl_u32u (o : Int) (ho : 0 ≤ o ∧ o < 7) (w : World) : (Op.shift .shl .u32 1 .u32 o).run Try.prog w = .ok (.int .u32 ((2 ^ o.toNat : Nat) : Int)) w := by
  rw [shift_shl_any _ _ _ _ ho.1]
  have hm : min o.toNat IntKind.u32.bits = o.toNat := by
    have : IntKind.u32.bits = 32 := rfl
    omega
  rw [hm]
  have hp : 2 ^ o.toNat < 2 ^ 32 := Nat.pow_lt_pow_right (by omega) (by omega)
  have he : ((2 : Int) ^ o.toNat) = ((2 ^ o.toNat : Nat) : Int) := by simp
  show Result.ok _ w = _
  congr 2
  rw [Int.one_mul, he]
  generalize 2 ^ o.toNat = y at *
  exact IntWalk.u32_in _ (by omega)

/-- the bits of those below k that are in it -/
def maskN (f : Nat → Bool) : Nat → Nat
  | 0 => 0
  | k + 1 => maskN f k ||| (if f k then 2 ^ k else 0)
theorem maskN_lt (f : Nat → Bool) : ∀ k, maskN f k < 2 ^ k
  | 0 => by simp [maskN]
  | k + 1 => by
    have h := maskN_lt f k
    unfold maskN
    have h2 : 2 ^ k < 2 ^ (k + 1) := by rw [Nat.pow_succ]; have := Nat.two_pow_pos k; omega
    refine Nat.or_lt_two_pow (by omega) ?_
    split
    · exact h2
    · exact Nat.two_pow_pos _
def maskF (f : Nat → Bool) (N : Int) : Nat := if N < 1 ∨ 7 < N then 0 else maskN f N.toNat
theorem conv_u32 (o : Nat) (h : o < 1000) (w : World) : (convert 3 37 (.int .i64 (o : Int))).run Try.prog w = .ok (.int .u32 (o : Int)) w := by
  have e : IntKind.u32.wrap (o : Int) = (o : Int) := by
    simp [IntKind.wrap, IntKind.signed, IntKind.bits]
    omega
  simp [convert, run_underlying Try.underlying3, run_underlying Try.underlying37, Conv.intToInt, e]

set_option maxHeartbeats 8000000 in
set_option maxRecDepth 100000 in
theorem maskof_any (f : Nat → Bool) (b5 b7 b4 b9 : Nat) (N : Int) (w : World)
    (hc : ∀ W, Below w.heap.size w W → ∀ o : Nat, o < 7 → Calls Try.prog 33 #[.int .i64 (o : Int), .pointer (some ⟨b5, 0, none⟩), .pointer (some ⟨b7, 0, none⟩), .pointer (some ⟨b4, 0, none⟩), .pointer (some ⟨b9, 0, none⟩)] W fun e w' => e = .returned (.bool (f o)) ∧ Below W.heap.size W w') :
    Calls Try.prog 32 #[.int .i64 N, .func (.func 33) #[] #[.pointer (some ⟨b5, 0, none⟩), .pointer (some ⟨b7, 0, none⟩), .pointer (some ⟨b4, 0, none⟩), .pointer (some ⟨b9, 0, none⟩)]] w fun e w' => e = .returned (.int .u32 (maskF f N : Nat)) ∧ Below w.heap.size w w' := by
  by_cases hN : N < 1 ∨ 7 < N
  · have hm : maskF f N = 0 := by unfold maskF; rw [if_pos hN]
    rw [hm]
    clear hm
    go_enter Try.func32, Try.ntmps32
    go_wp2_with (first
      | (go_at_call 28; (with_reducible refine (all_none N hN _).mono ?_); rintro e w1 ⟨rfl, rfl⟩))
    go_loopw [5, 11] (fun mv iv wr => mv = .int .u32 0 ∧ iv = .int .i64 0 ∧ w = wr) (fun _ _ _ => 0)
    case atStart => exact ⟨rfl, rfl, rfl⟩
    case round =>
      obtain ⟨rfl, rfl, rfl⟩ := hrel
      go_wp2
      go_ret
      exact ⟨rfl, Below.refl _ _⟩
  obtain ⟨m, rfl⟩ : ∃ m : Nat, N = m := ⟨N.toNat, by omega⟩
  have hm1 : 1 ≤ m := by omega
  have hm7 : m ≤ 7 := by omega
  have hm : maskF f (m : Int) = maskN f m := by unfold maskF; rw [if_neg hN, Int.toNat_natCast]
  rw [hm]
  have HC := Lib.hid hc
  clear hc hm hN
  go_enter Try.func32, Try.ntmps32
  go_wp2_with (first
    | (go_at_call 28; (with_reducible refine (all_some m hm1 hm7 _).mono ?_); rintro e w1 ⟨rfl, hiv, hb1⟩; have HIv := Lib.hid hiv; have HX1 := Lib.hid hb1; clear hiv hb1))
  go_loopw [5, 11] (fun mv iv wr => ∃ i : Nat, i ≤ m ∧ iv = .int .i64 (i : Int) ∧ mv = .int .u32 ((maskN f i : Nat) : Int) ∧ Below w1.heap.size w1 wr) (fun _ iv _ => m - (intOf iv).toNat)
  case atStart => exact ⟨0, Nat.zero_le _, rfl, rfl, Below.refl _ _⟩
  case round =>
    obtain ⟨i, hi, rfl, rfl, hx⟩ := hrel
    have HX := Lib.hid hx
    by_cases hlt : i < m
    · obtain ⟨g, o, hA, _, hcell⟩ := (HIv.out.through hx).2 (by omega)
      simp only [Option.some.injEq, Addr.mk.injEq] at hA
      obtain ⟨rfl, rfl, _⟩ := hA
      have hc0 := hcell i _ (upTo_get m i hlt)
      rw [Nat.zero_add] at hc0
      have hcl := HC.out wr (below_step HX1.out hx) i (by omega)
      have hcv := conv_u32 i (by omega)
      have hsh : ∀ W, (Op.shift .shl .u32 1 .u32 (i : Int)).run Try.prog W = .ok (.int .u32 ((2 ^ i : Nat) : Int)) W := fun W => by
        have h9 := shl_u32u (i : Int) ⟨by omega, by omega⟩ W
        rw [Int.toNat_natCast] at h9
        exact h9
      have hml := maskN_lt f i
      have hp7 : 2 ^ i ≤ 2 ^ 7 := Nat.pow_le_pow_right (by omega) (by omega)
      have h27 : (2 : Nat) ^ 7 = 128 := by decide
      have hor := u32_or (maskN f i) (2 ^ i) (by omega) (by omega)
      clear hx hcell
      cases hf : f i with
      | true =>
        have HN : Hid (maskN f (i + 1) = maskN f i ||| 2 ^ i) := Lib.hid (by rw [maskN, hf]; rfl)
        rw [hf] at hcl
        have HCl := Lib.hid hcl
        have HOr := Lib.hid hor
        have HPw : Hid (((2 : Int) ^ i % 4294967296) = ((2 ^ i : Nat) : Int)) := Lib.hid (by
          have he : ((2 : Int) ^ i) = ((2 ^ i : Nat) : Int) := by simp
          rw [he]
          generalize 2 ^ i = y at *
          omega)
        clear hcl hf hml hp7 h27 hor hsh
        go_wp2_with (first
          | (go_at_call 33; (with_reducible refine (HCl.out).mono ?_); rintro e w5 ⟨rfl, hb5⟩; have HX5 := Lib.hid (below_step HX.out hb5); clear hb5))
        go_roundw
        case rel => exact ⟨i + 1, by omega, by go_num, by rw [HN.out, HPw.out, HOr.out], HX5.out⟩
        case measure => simp [intOf]; omega
      | false =>
        have HN : Hid (maskN f (i + 1) = maskN f i) := Lib.hid (by rw [maskN, hf]; simp)
        rw [hf] at hcl
        have HCl := Lib.hid hcl
        clear hcl hf hml hp7 h27 hor hsh hcv
        go_wp2_with (first
          | (go_at_call 33; (with_reducible refine (HCl.out).mono ?_); rintro e w5 ⟨rfl, hb5⟩; have HX5 := Lib.hid (below_step HX.out hb5); clear hb5))
        go_roundw
        case rel => exact ⟨i + 1, by omega, by go_num, by rw [HN.out], HX5.out⟩
        case measure => simp [intOf]; omega
    · have him : i = m := by omega
      subst him
      have HXl := Lib.hid (below_step HX1.out hx)
      clear hx
      go_wp2
      go_ret
      exact ⟨rfl, HXl.out⟩
end

section
open Go.RowKit
theorem kb_100 : kb 100 = 100 := by decide
set_option maxHeartbeats 2000000 in
theorem etext_any (co : Cr) (w : World) (hl : co.lt.length ≤ 1000) (ht : co.tx.length ≤ 1000) :
    Calls Try.prog 13 #[.agg #[.int .i64 co.cl, .int .i64 co.sp, .int .i64 co.op, .string (ba co.lt), .int .i64 co.a, .int .i64 co.b, .string (ba co.tx)]] w fun e w' => ∃ T m d, e = .returned (.slice T m d) ∧ By w' (fun _ => True) T m (100 :: encCr co) ∧ Below w.heap.size w w' := by
  have HC : Hid (∀ W, Calls Try.prog 27 #[.agg #[.int .i64 co.cl, .int .i64 co.sp, .int .i64 co.op, .string (ba co.lt), .int .i64 co.a, .int .i64 co.b, .string (ba co.tx)]] W (Byt W (encCr co))) := Lib.hid (fun W => coreB_any co W (by omega) (by omega))
  have HB : Hid (Blk (w.alloc (.cells #[.int .i64 co.cl, .int .i64 co.sp, .int .i64 co.op, .string (ba co.lt), .int .i64 co.a, .int .i64 co.b, .string (ba co.tx)] 23)) w.heap.size 23 [.int .i64 co.cl, .int .i64 co.sp, .int .i64 co.op, .string (ba co.lt), .int .i64 co.a, .int .i64 co.b, .string (ba co.tx)]) := Lib.hid (Blk.fresh rfl rfl)
  have HX0 := Lib.hid (below1_ w (.cells #[.int .i64 co.cl, .int .i64 co.sp, .int .i64 co.op, .string (ba co.lt), .int .i64 co.a, .int .i64 co.b, .string (ba co.tx)] 23))
  have hel : (encCr co).length ≤ 1000000 := by rw [encCr_len]; omega
  have HEL := Lib.hid hel
  clear hl ht hel
  go_enter Try.func13, Try.ntmps13
  go_wp2_with (first
    | (refine wpList_load_blk rfl 23 (.tmp 1) rfl w.heap.size rfl 23 [.int .i64 co.cl, .int .i64 co.sp, .int .i64 co.op, .string (ba co.lt), .int .i64 co.a, .int .i64 co.b, .string (ba co.tx)] _ HB.out Try.underlying23 rfl (by kernel_rfl) ?_)
    | (go_at_call 27; (with_reducible refine (HC.out _).mono ?_); rintro e w1 ⟨A1, n1, d1, rfl, hy1, _, _, hb1⟩; have HY1 := Lib.hid hy1; have HX1 := Lib.hid (below_step HX0.out hb1); clear hy1 hb1)
    | (go_at_call 37; (with_reducible refine (text_any (fun _ => True) 100 (encCr co) A1 n1 d1 _ HY1.out (by rw [← HY1.out.len]; exact HEL.out)).mono ?_); rintro e w2 ⟨T2, c2, rfl, hy2, hb2⟩; have HY2 := Lib.hid hy2; have HX2 := Lib.hid (below_step HX1.out hb2); clear hy2 hb2))
  go_ret
  exact ⟨T2, _, c2, rfl, by (have h9 := HY2.out.weak (Q' := fun _ => True) fun _ _ => trivial; rw [kb_100] at h9; exact h9), HX2.out⟩

set_option maxHeartbeats 4000000 in
set_option maxRecDepth 100000 in
theorem mask_any (kt : TypeId) (g : Nat) (hold : Int → List UInt8 → Bool) (co : Cr) (es : List En) (A : Option Addr) (n c1 : Nat) (N who : Int) (w : World) (h : EsIn w A n es) (hn : n ≤ 1000000) (hl : co.lt.length ≤ 1000) (ht : co.tx.length ≤ 1000)
    (hh : ∀ W, Below w.heap.size w W → ∀ o : Nat, o < 7 → ∀ t : List UInt8, t.length = 32 → ∀ T tn tc, By W (fun _ => True) T tn (100 :: encCr co) → Calls Try.prog 35 #[.iface kt (.pointer (some ⟨g, 0, none⟩)), .int .i64 (o : Int), .int .i64 who, .slice T tn tc, .agg (vs t).toArray] W fun e w' => e = .returned (.bool (hold (o : Int) t)) ∧ Below W.heap.size W w') :
    Calls Try.prog 11 #[.iface kt (.pointer (some ⟨g, 0, none⟩)), .agg #[.int .i64 co.cl, .int .i64 co.sp, .int .i64 co.op, .string (ba co.lt), .int .i64 co.a, .int .i64 co.b, .string (ba co.tx), .slice A n c1], .int .i64 N, .int .i64 who] w fun e w' => e = .returned (.int .u32 (maskF (fun o : Nat => inE hold es who (o : Int)) N : Nat)) ∧ Below w.heap.size w w' := by
  have HI := Lib.hid h
  have HH := Lib.hid hh
  have HTx : Hid (∀ W, Calls Try.prog 13 #[.agg #[.int .i64 co.cl, .int .i64 co.sp, .int .i64 co.op, .string (ba co.lt), .int .i64 co.a, .int .i64 co.b, .string (ba co.tx)]] W fun e w' => ∃ T m d, e = .returned (.slice T m d) ∧ By w' (fun _ => True) T m (100 :: encCr co) ∧ Below W.heap.size W w') := Lib.hid (fun W => etext_any co W hl ht)
  have HX0 : Hid (Below w.heap.size w (((w.alloc (.cells #[.iface kt (.pointer (some ⟨g, 0, none⟩))] 63)).alloc (.cells #[.int .i64 co.cl, .int .i64 co.sp, .int .i64 co.op, .string (ba co.lt), .int .i64 co.a, .int .i64 co.b, .string (ba co.tx), .slice A n c1] 26)).alloc (.cells #[.int .i64 who] 3))) := Lib.hid ((below2_ w _ _).alloc (below2_ w _ _).size _)
  have H4 : Hid (Blk (((w.alloc (.cells #[.iface kt (.pointer (some ⟨g, 0, none⟩))] 63)).alloc (.cells #[.int .i64 co.cl, .int .i64 co.sp, .int .i64 co.op, .string (ba co.lt), .int .i64 co.a, .int .i64 co.b, .string (ba co.tx), .slice A n c1] 26)).alloc (.cells #[.int .i64 who] 3)) w.heap.size 63 [.iface kt (.pointer (some ⟨g, 0, none⟩))]) := Lib.hid (((Blk.fresh rfl rfl).alloc _).alloc _)
  have H5 : Hid (Blk (((w.alloc (.cells #[.iface kt (.pointer (some ⟨g, 0, none⟩))] 63)).alloc (.cells #[.int .i64 co.cl, .int .i64 co.sp, .int .i64 co.op, .string (ba co.lt), .int .i64 co.a, .int .i64 co.b, .string (ba co.tx), .slice A n c1] 26)).alloc (.cells #[.int .i64 who] 3)) (w.heap.size + 1) 26 [.int .i64 co.cl, .int .i64 co.sp, .int .i64 co.op, .string (ba co.lt), .int .i64 co.a, .int .i64 co.b, .string (ba co.tx), .slice A n c1]) := Lib.hid ((Blk.fresh (by simp) rfl).alloc _)
  have H7 : Hid (Blk (((w.alloc (.cells #[.iface kt (.pointer (some ⟨g, 0, none⟩))] 63)).alloc (.cells #[.int .i64 co.cl, .int .i64 co.sp, .int .i64 co.op, .string (ba co.lt), .int .i64 co.a, .int .i64 co.b, .string (ba co.tx), .slice A n c1] 26)).alloc (.cells #[.int .i64 who] 3)) (w.heap.size + 2) 3 [.int .i64 who]) := Lib.hid (Blk.fresh (by simp) rfl)
  have HC5 : Hid ((((w.alloc (.cells #[.iface kt (.pointer (some ⟨g, 0, none⟩))] 63)).alloc (.cells #[.int .i64 co.cl, .int .i64 co.sp, .int .i64 co.op, .string (ba co.lt), .int .i64 co.a, .int .i64 co.b, .string (ba co.tx), .slice A n c1] 26)).alloc (.cells #[.int .i64 who] 3)).rangeAt (w.heap.size + 1) 0 [.int .i64 co.cl, .int .i64 co.sp, .int .i64 co.op, .string (ba co.lt), .int .i64 co.a, .int .i64 co.b, .string (ba co.tx)]) := Lib.hid (Blk.front (post := [.slice A n c1]) H5.out)
  clear h hh hl ht
  go_enter Try.func11, Try.ntmps11
  go_wp2_with (first
    | (refine wpList_load_mid rfl 23 (.tmp 10) rfl (w.heap.size + 1) 0 rfl [.int .i64 co.cl, .int .i64 co.sp, .int .i64 co.op, .string (ba co.lt), .int .i64 co.a, .int .i64 co.b, .string (ba co.tx)] _ HC5.out Try.underlying23 rfl (by kernel_rfl) ?_)
    | (go_at_call 13; (with_reducible refine (HTx.out _).mono ?_); rintro e w1 ⟨T1, m1, d1, rfl, hy1, hb1⟩; have HY1 := Lib.hid (hy1.alloc (.cells #[.slice T1 m1 d1] 40)); have HX1 : Hid (Below w.heap.size w (w1.alloc (.cells #[.slice T1 m1 d1] 40))) := Lib.hid ((below_step HX0.out hb1).alloc (below_step HX0.out hb1).size (.cells #[.slice T1 m1 d1] 40)); have HBk := Lib.hid ((hb1.alloc hb1.size (.cells #[.slice T1 m1 d1] 40))); have H9 : Hid (Blk (w1.alloc (.cells #[.slice T1 m1 d1] 40)) w1.heap.size 40 [.slice T1 m1 d1]) := Lib.hid (Blk.fresh rfl rfl); clear hb1 hy1)
    | (go_at_call 32; (refine (maskof_any (fun o : Nat => inE hold es who (o : Int)) (w.heap.size + 1) (w.heap.size + 2) w.heap.size w1.heap.size N _ (fun W hW o ho => mask1_any (.iface kt (.pointer (some ⟨g, 0, none⟩))) hold co es A n c1 who (o : Int) T1 m1 d1 (w.heap.size + 1) (w.heap.size + 2) w.heap.size w1.heap.size W (HI.out.through (below_step HX1.out hW)) hn (H5.out.through (HBk.out.trans (hW.mono HBk.out.size))) (H7.out.through (HBk.out.trans (hW.mono HBk.out.size))) (H4.out.through (HBk.out.trans (hW.mono HBk.out.size))) (H9.out.through hW) (fun W' hW' t ht => HH.out W' (below_step (below_step HX1.out hW) hW') o ho t ht T1 m1 d1 ((HY1.out.through hW).through hW')))).mono ?_); rintro e w2 ⟨rfl, hb2⟩; have HX2 := Lib.hid (below_step HX1.out hb2); clear hb2))
  go_ret
  exact ⟨rfl, HX2.out⟩
end

section
open Go.RowKit
mutual
/-- of more organizations it may be, too -/
theorem Fm.rng_grow {a b : Int} (hab : a ≤ b) : ∀ f : Fm, f.rng a = true → f.rng b = true
  | .mk o x [], h => by
    simp only [Fm.rng, Bool.and_eq_true, decide_eq_true_eq] at h ⊢
    omega
  | .mk o x (k :: ks), h => by
    simp only [Fm.rng, Bool.and_eq_true] at h ⊢
    exact ⟨Fm.rngs_grow hab (k :: ks) h.1, h.2⟩
theorem Fm.rngs_grow {a b : Int} (hab : a ≤ b) : ∀ ks : List Fm, Fm.rngs a ks = true → Fm.rngs b ks = true
  | [], _ => rfl
  | k :: ks, h => by
    simp only [Fm.rngs, Bool.and_eq_true] at h ⊢
    exact ⟨Fm.rng_grow hab k h.1, Fm.rngs_grow hab ks h.2⟩
end
theorem Fm.mb_of_check {f : Fm} {y : Int} (h : f.check y = 0) : f.mb = true := by
  rw [Fm.mb_iff]
  unfold Fm.check at h
  split at h
  · cases h
  rename_i h1
  split at h
  · cases h
  split at h
  · cases h
  split at h
  · cases h
  rename_i h2 h3 h4
  refine ⟨by omega, by omega, Fm.rng_grow (a := y) (by omega) f ?_⟩
  cases hr : f.rng y
  · exact absurd hr h4
  · rfl

set_option maxHeartbeats 4000000 in
set_option maxRecDepth 100000 in
theorem enough_any (s : Nat) (hs : s < 4294967296) (f : Fm) (y : Int) (A : Option Addr) (n c : Nat) (w : World) (hz : f.few) (h : f.In w (fun _ => True) A n) :
    Calls Try.prog 25 #[f.val A n c, .int .u32 (s : Int), .int .i64 y] w fun e w' => e = .returned (.bool (decide (f.check y = 0) && f.hold s)) ∧ Below w.heap.size w w' := by
  have hc : ∀ W, f.In W (fun _ => True) A n → Calls Try.prog 55 #[f.val A n c, .int .i64 y] W fun e w' => e = .returned (.int .i64 (f.check y)) ∧ Below W.heap.size W w' := fun W h1 => check_any f y A n c W hz h1
  have hh : ∀ W, f.In W (fun _ => True) A n → Calls Try.prog 56 #[f.val A n c, .int .u32 (s : Int)] W fun e w' => e = .returned (.bool (f.mb && f.hold s)) ∧ Below W.heap.size W w' := fun W h1 => Hold_any s hs f A n c W hz h1
  have HF := Lib.hid h
  have hmb := fun (h9 : f.check y = 0) => Fm.mb_of_check h9
  unfold Fm.val at hc hh ⊢
  generalize f.org = fo at *
  generalize f.nd = fa at *
  have HB0 : Hid (Blk (w.alloc (.cells #[.int .i64 fo, .int .i64 fa, .slice A n c] 58)) w.heap.size 58 [.int .i64 fo, .int .i64 fa, .slice A n c]) := Lib.hid (Blk.fresh rfl rfl)
  have HX0 : Hid (Below w.heap.size w (w.alloc (.cells #[.int .i64 fo, .int .i64 fa, .slice A n c] 58))) := Lib.hid ((Below.refl _ w).alloc (Nat.le_refl _) _)
  by_cases h0 : f.check y = 0
  · rw [hmb h0, Bool.true_and] at hh
    rw [h0] at hc
    have hd : decide (f.check y = 0) = true := decide_eq_true h0
    rw [hd, Bool.true_and]
    generalize f.hold s = bb at *
    have HC := Lib.hid hc
    have HH := Lib.hid hh
    clear hc hh h hmb h0 hd
    go_enter Try.func25, Try.ntmps25
    go_wp2_with (first
      | (go_at_call 55; (with_reducible refine (HC.out _ (HF.out.through HX0.out)).mono ?_); rintro e w1 ⟨rfl, hb1⟩; have HX1 := Lib.hid (below_step HX0.out hb1); have HB1 := Lib.hid (HB0.out.through hb1); clear hb1)
      | (go_at_call 56; (with_reducible refine (HH.out _ (HF.out.through HX1.out)).mono ?_); rintro e w2 ⟨rfl, hb2⟩; have HX2 := Lib.hid (below_step HX1.out hb2); clear hb2)
      | (refine wpList_load_blk rfl 58 (.tmp 3) rfl w.heap.size rfl 58 [.int .i64 fo, .int .i64 fa, .slice A n c] _ HB0.out Try.underlying58 rfl (by kernel_rfl) ?_)
      | (refine wpList_load_blk_g 58 (.tmp 3) rfl (by kernel_rfl) w.heap.size rfl 58 [.int .i64 fo, .int .i64 fa, .slice A n c] _ HB1.out Try.underlying58 rfl (by kernel_rfl) ?_))
    go_ret
    exact ⟨rfl, HX2.out⟩
  · have hd : decide (f.check y = 0) = false := decide_eq_false h0
    rw [hd, Bool.false_and]
    obtain ⟨er, her⟩ : ∃ er, f.check y = er := ⟨_, rfl⟩
    rw [her] at hc h0
    have hkb : (er == 0) = false := by simpa using h0
    have HC := Lib.hid hc
    clear hc hh h hmb h0 hd her
    go_enter Try.func25, Try.ntmps25
    go_wp2_with (first
      | (go_at_call 55; (with_reducible refine (HC.out _ (HF.out.through HX0.out)).mono ?_); rintro e w1 ⟨rfl, hb1⟩; have HX1 := Lib.hid (below_step HX0.out hb1); have HB1 := Lib.hid (HB0.out.through hb1); clear hb1)
      | (refine wpList_load_blk rfl 58 (.tmp 3) rfl w.heap.size rfl 58 [.int .i64 fo, .int .i64 fa, .slice A n c] _ HB0.out Try.underlying58 rfl (by kernel_rfl) ?_))
    go_ret
    exact ⟨rfl, HX1.out⟩

/-- not too great to be asked about -/
def fewQ (q : Rq) : Bool := (q.es.all fun e => decide (e.ts.length ≤ 20)) && (decide (q.co.lt.length ≤ 100) && decide (q.co.tx.length ≤ 300) && decide (q.es.length ≤ 20))
set_option maxHeartbeats 4000000 in
set_option maxRecDepth 100000 in
theorem few_any (co : Cr) (es : List En) (A : Option Addr) (n c1 : Nat) (w : World) (h : EsIn w A n es) (hn : n ≤ maxLen) :
    Calls Try.prog 7 #[.agg #[.int .i64 co.cl, .int .i64 co.sp, .int .i64 co.op, .string (ba co.lt), .int .i64 co.a, .int .i64 co.b, .string (ba co.tx), .slice A n c1]] w fun e w' => e = .returned (.bool (fewQ ⟨co, es⟩)) ∧ Below w.heap.size w w' := by
  have hsz := ba_size
  have HI := Lib.hid h
  have HLn := Lib.hid h.len
  have HIX := Lib.hid Try.ix_en
  have HB0 : Hid (Blk (w.alloc (.cells #[.int .i64 co.cl, .int .i64 co.sp, .int .i64 co.op, .string (ba co.lt), .int .i64 co.a, .int .i64 co.b, .string (ba co.tx), .slice A n c1] 26)) w.heap.size 26 [.int .i64 co.cl, .int .i64 co.sp, .int .i64 co.op, .string (ba co.lt), .int .i64 co.a, .int .i64 co.b, .string (ba co.tx), .slice A n c1]) := Lib.hid (Blk.fresh rfl rfl)
  have HX0 : Hid (Below w.heap.size w (w.alloc (.cells #[.int .i64 co.cl, .int .i64 co.sp, .int .i64 co.op, .string (ba co.lt), .int .i64 co.a, .int .i64 co.b, .string (ba co.tx), .slice A n c1] 26))) := Lib.hid (below1_ w _)
  have hnm : n ≤ 9223372036854775807 := by simp only [maxLen] at hn; exact hn
  obtain ⟨bb, hbb⟩ : ∃ bb, fewQ ⟨co, es⟩ = bb := ⟨_, rfl⟩
  rw [hbb]
  unfold fewQ at hbb
  simp only at hbb
  have HBB := Lib.hid hbb
  have k7 := HB0.out.cellAt (i := 7) rfl
  clear h hn hbb
  go_enter Try.func7, Try.ntmps7
  go_wp2
  clear k7
  go_loopw [8] (fun iv wr => ∃ i : Nat, i ≤ n ∧ iv = .int .i64 (i : Int) ∧ (es.take i).all (fun e => decide (e.ts.length ≤ 20)) = true ∧ Below (w.alloc (.cells #[.int .i64 co.cl, .int .i64 co.sp, .int .i64 co.op, .string (ba co.lt), .int .i64 co.a, .int .i64 co.b, .string (ba co.tx), .slice A n c1] 26)).heap.size (w.alloc (.cells #[.int .i64 co.cl, .int .i64 co.sp, .int .i64 co.op, .string (ba co.lt), .int .i64 co.a, .int .i64 co.b, .string (ba co.tx), .slice A n c1] 26)) wr) (fun iv _ => n - (intOf iv).toNat)
  case atStart => exact ⟨0, Nat.zero_le _, rfl, rfl, Below.refl _ _⟩
  case round =>
    obtain ⟨i, hi, rfl, hq, hx⟩ := hrel
    have HQ := Lib.hid hq
    have HX := Lib.hid hx
    have HXl := Lib.hid (below_step HX0.out hx)
    clear hq hx
    by_cases hlt : i < n
    · obtain ⟨g, o, e, B, k1, dd, rfl, hei, hme, _, hrx, hts⟩ := (HI.out.through HXl.out).at hlt
      have HRx := Lib.hid hrx
      have hix := HIX.out wr g o n c1 i hlt
      have HTk : Hid (e.ts.length = k1) := Lib.hid hts.len
      have HEi := Lib.hid hei
      have HMe := Lib.hid hme
      clear hrx hts hei hme
      by_cases h4 : 20 < k1
      · have d4 : decide ((20 : Int) < (k1 : Int)) = true := by simp; omega
        have HF : Hid (bb = false) := Lib.hid (by
          rw [← HBB.out]
          have h9 : (es.all fun e => decide (e.ts.length ≤ 20)) = false := by
            rw [List.all_eq_false]
            exact ⟨e, HMe.out, by simp [HTk.out]; omega⟩
          rw [h9, Bool.false_and])
        clear h4
        go_wp2_with (first
          | (refine wpList_load_mid rfl 34 (.tmp 10) rfl g (o + i * 2) rfl [.int .i64 e.og, .slice B k1 dd] _ HRx.out Try.underlying34 rfl (by kernel_rfl) ?_))
        go_ret
        exact ⟨by rw [HF.out]; rfl, HXl.out.alloc HXl.out.size _⟩
      · have d4 : decide ((20 : Int) < (k1 : Int)) = false := by simp; omega
        have h5 : k1 ≤ 20 := by omega
        clear h4
        go_wp2_with (first
          | (refine wpList_load_mid rfl 34 (.tmp 10) rfl g (o + i * 2) rfl [.int .i64 e.og, .slice B k1 dd] _ HRx.out Try.underlying34 rfl (by kernel_rfl) ?_))
        go_roundw
        case rel => exact ⟨i + 1, by omega, by go_num, (by rw [List.take_add_one, HEi.out, List.all_append, HQ.out]; simp [HTk.out, h5]), HX.out.alloc HX.out.size _⟩
        case measure => simp [intOf]; omega
    · have hall : (es.all fun e => decide (e.ts.length ≤ 20)) = true := by
        have h9 := HQ.out
        rwa [List.take_of_length_le (by have := HLn.out; omega)] at h9
      have c3 := (HB0.out.through HX.out).cellAt (i := 3) rfl
      have c6 := (HB0.out.through HX.out).cellAt (i := 6) rfl
      have c7 := (HB0.out.through HX.out).cellAt (i := 7) rfl
      have HE : Hid (bb = (decide (co.lt.length ≤ 100) && decide (co.tx.length ≤ 300) && decide (n ≤ 20))) := Lib.hid (by rw [← HBB.out, hall, Bool.true_and, HLn.out])
      clear hall
      by_cases h1 : co.lt.length ≤ 100
      case neg =>
        have d1 : decide ((co.lt.length : Int) ≤ 100) = false := by simp; omega
        have HF : Hid (bb = false) := Lib.hid (by rw [HE.out]; simp [h1])
        clear h1
        go_wp2
        go_ret
        exact ⟨by rw [HF.out]; rfl, HXl.out⟩
      have d1 : decide ((co.lt.length : Int) ≤ 100) = true := by simp; omega
      by_cases h2 : co.tx.length ≤ 300
      case neg =>
        have d2 : decide ((co.tx.length : Int) ≤ 300) = false := by simp; omega
        have HF : Hid (bb = false) := Lib.hid (by rw [HE.out]; simp [h2])
        clear h1 h2
        go_wp2
        go_ret
        exact ⟨by rw [HF.out]; rfl, HXl.out⟩
      have d2 : decide ((co.tx.length : Int) ≤ 300) = true := by simp; omega
      by_cases h3 : n ≤ 20
      · have d3 : decide ((n : Int) ≤ 20) = true := by simp; omega
        have HF : Hid (bb = true) := Lib.hid (by rw [HE.out]; simp [h1, h2, h3])
        clear h1 h2 h3
        go_wp2
        go_ret
        exact ⟨by rw [HF.out]; rfl, HXl.out⟩
      · have d3 : decide ((n : Int) ≤ 20) = false := by simp; omega
        have HF : Hid (bb = false) := Lib.hid (by rw [HE.out]; simp [h3])
        clear h1 h2 h3
        go_wp2
        go_ret
        exact ⟨by rw [HF.out]; rfl, HXl.out⟩
end

section
open Go.RowKit
theorem Tg.ts {w : World} {A : Option Addr} {n c : Nat} {ts : List (List UInt8)} (h : Tg w A n ts) (hc : n ≤ c ∧ c ≤ maxLen) : TsIn w (A, n, c) ts :=
  ⟨⟨by rw [List.length_map]; exact h.1, fun hn => by
    obtain ⟨g, o, e, hcell⟩ := h.2.2 hn
    refine ⟨g, o, e, fun i cs hi k u hu => ?_⟩
    obtain ⟨t, ht, rfl⟩ := List.getElem?_map .. ▸ hi |> Option.map_eq_some_iff.1
    have h9 := hcell i t ht k u hu
    rw [← Nat.add_assoc] at h9
    exact h9⟩, h.2.1, hc.1, hc.2⟩
theorem block_of_cell {w : World} {b o : Nat} {v : Value} (h : w.cell? ⟨b, o, none⟩ = some v) : ∃ cs t fr, w.heap[b]? = some (.cells cs t fr) := by
  unfold World.cell? at h
  cases hb : w.heap[b]? with
  | none => simp [hb] at h
  | some o => cases o <;> simp_all
/-- A cell that holds no map stays behind a book's turn. -/
theorem cell_kf {g b o : Nat} {w w' : World} {v : Value} {ds : List DK} {ts : List TK} (h : w.cell? ⟨b, o, none⟩ = some v) (hv : ∀ r, v ≠ .map r) (hs : BS w g ds ts) (hf : KF g w w') : w'.cell? ⟨b, o, none⟩ = some v := by
  have hb : b ≠ g := fun e => by
    subst e
    obtain ⟨m1, m2, hm⟩ := hs
    rw [hm.1.cell] at h
    match o, h with
    | 0, h => simp at h; exact hv _ h.symm
    | 1, h => simp at h; exact hv _ h.symm
    | o + 2, h => simp at h
  exact (World.cell?_of_block (a := ⟨b, o, none⟩) (hf.cells b hb (block_of_cell h))).trans h
theorem Sl.kf {g k n : Nat} {w w' : World} {A : Option Addr} {xs : List (List Value)} {ds : List DK} {ts : List TK} (h : Sl w k A n xs) (hv : ∀ x ∈ xs, ∀ v ∈ x, ∀ r, v ≠ .map r) (hs : BS w g ds ts) (hf : KF g w w') : Sl w' k A n xs :=
  ⟨h.1, fun hn => by
    obtain ⟨b, o, e, hc⟩ := h.2 hn
    exact ⟨b, o, e, fun i cs hi j u hu => cell_kf (hc i cs hi j u hu) (hv cs (List.mem_of_getElem? hi) u (List.mem_of_getElem? hu)) hs hf⟩⟩
theorem TsIn.kf {g : Nat} {w w' : World} {s : Pl} {t : List (List UInt8)} {ds : List DK} {ts : List TK} (h : TsIn w s t) (hs : BS w g ds ts) (hf : KF g w w') : TsIn w' s t :=
  ⟨h.1.kf (fun x hx v hv r => by
    obtain ⟨y, _, rfl⟩ := List.mem_map.1 hx
    obtain ⟨z, _, rfl⟩ := List.mem_map.1 hv
    simp [u8]) hs hf, h.2⟩
theorem enR_cells : ∀ (es : List En) (ss : List Pl), ∀ x ∈ enR es ss, ∃ e s, x = enC e s
  | [], _, x, h => by simp [enR] at h
  | _ :: _, [], x, h => by simp [enR] at h
  | e :: es, s :: ss, x, h => by
    rcases List.mem_cons.1 h with rfl | h
    · exact ⟨e, s, rfl⟩
    · exact enR_cells es ss x h
theorem EsIn.kf {g : Nat} {w w' : World} {A : Option Addr} {n : Nat} {es : List En} {ds : List DK} {ts : List TK} (h : EsIn w A n es) (hs : BS w g ds ts) (hf : KF g w w') : EsIn w' A n es := by
  obtain ⟨ss, h1, h2⟩ := h
  refine ⟨ss, h1.kf (fun x hx v hv r => ?_) hs hf, h2.mono fun _ _ h => h.kf hs hf⟩
  have h9 := enR_cells es ss x hx
  obtain ⟨e, s, rfl⟩ := h9
  simp [enC] at hv
  rcases hv with rfl | rfl <;> simp

set_option maxHeartbeats 4000000 in
set_option maxRecDepth 100000 in
theorem esign_book (g : Nat) (ds : List DK) (ts : List TK) (org : Int) (co : Cr) (m : Nat) (hm1 : 1 ≤ m) (hm7 : m ≤ 7) (hl : co.lt.length ≤ 1000) (ht : co.tx.length ≤ 1000) (htl : ts.length ≤ 100000) (w : World) (hst : BS w g ds ts) :
    Calls Try.prog 9 #[.iface 53 (.pointer (some ⟨g, 0, none⟩)), .int .i64 org, .int .i64 (m : Int), .agg #[.int .i64 co.cl, .int .i64 co.sp, .int .i64 co.op, .string (ba co.lt), .int .i64 co.a, .int .i64 co.b, .string (ba co.tx)]] w fun e w' => ∃ A1 c2, e = .returned (.agg #[.int .i64 org, .slice A1 m c2]) ∧ TsIn w' (A1, m, c2) ((List.range m).map (made org (100 :: encCr co) (upTo m) ts m)) ∧ BS w' g ds (acc org (100 :: encCr co) (upTo m) ts m) ∧ KF g w w' := by
  have hz := Try.zero_en
  have hbe := Try.build_en
  have HGl := Lib.hid hst.lt
  have HX0 : Hid (Below w.heap.size w ((w.alloc (.cells #[.int .i64 co.cl, .int .i64 co.sp, .int .i64 co.op, .string (ba co.lt), .int .i64 co.a, .int .i64 co.b, .string (ba co.tx)] 23)).alloc (.cells #[.int .i64 0, .slice none 0 0] 34))) := Lib.hid (below2_ w _ _)
  have HB0 : Hid (Blk ((w.alloc (.cells #[.int .i64 co.cl, .int .i64 co.sp, .int .i64 co.op, .string (ba co.lt), .int .i64 co.a, .int .i64 co.b, .string (ba co.tx)] 23)).alloc (.cells #[.int .i64 0, .slice none 0 0] 34)) w.heap.size 23 [.int .i64 co.cl, .int .i64 co.sp, .int .i64 co.op, .string (ba co.lt), .int .i64 co.a, .int .i64 co.b, .string (ba co.tx)]) := Lib.hid ((Blk.fresh rfl rfl).alloc _)
  have HZ0 : Hid (Blk ((w.alloc (.cells #[.int .i64 co.cl, .int .i64 co.sp, .int .i64 co.op, .string (ba co.lt), .int .i64 co.a, .int .i64 co.b, .string (ba co.tx)] 23)).alloc (.cells #[.int .i64 0, .slice none 0 0] 34)) (w.heap.size + 1) 34 [.int .i64 0, .slice none 0 0]) := Lib.hid (Blk.fresh (by simp) rfl)
  have HC : Hid (∀ W, Calls Try.prog 27 #[.agg #[.int .i64 co.cl, .int .i64 co.sp, .int .i64 co.op, .string (ba co.lt), .int .i64 co.a, .int .i64 co.b, .string (ba co.tx)]] W (Byt W (encCr co))) := Lib.hid (fun W => coreB_any co W (by omega) (by omega))
  have hel : (encCr co).length ≤ 2034 := by rw [encCr_len]; omega
  have HVS : Hid (∀ (W : World) (B : Option Addr) (nb cb a : Nat), Below w.heap.size w W → By W (fun _ => True) B nb (encCr co) → Iv W (fun b => b = a) (some ⟨a, 0, none⟩) m (upTo m) → a ≠ g → Calls Try.prog 26 #[.iface 53 (.pointer (some ⟨g, 0, none⟩)), .int .i64 100, .int .i64 org, .slice B nb cb, .slice (some ⟨a, 0, none⟩) m m] W fun e w' => ∃ B1 c1 A1 c2, e = .returned (.agg #[.int .i64 100, .int .i64 org, .slice B1 nb c1, .slice A1 m c2]) ∧ By w' (fun b => W.heap.size ≤ b) B1 nb (encCr co) ∧ (Tg w' A1 m ((List.range m).map (made org (100 :: encCr co) (upTo m) ts m)) ∧ m ≤ c2 ∧ c2 ≤ maxLen) ∧ (∀ o, A1 = some o → W.heap.size ≤ o.block) ∧ BS w' g ds (acc org (100 :: encCr co) (upTo m) ts m) ∧ KF g W w') := Lib.hid (fun W B nb cb a hW hy hi ha => by
    have h9 := sign_book g ds ts 100 org (encCr co) (upTo m) (fun _ => True) (fun b => b = a) (fun k hk => by rw [hk]; exact ha) B nb cb (by have := hy.len; omega) (some ⟨a, 0, none⟩) m m (by omega) htl W (hst.through hW) hy hi
    rw [kb_100] at h9
    exact h9)
  clear hst hl ht hel
  go_enter Try.func9, Try.ntmps9
  go_wp2_with (first
    | (refine wpList_load_blk rfl 23 (.tmp 7) rfl w.heap.size rfl 23 [.int .i64 co.cl, .int .i64 co.sp, .int .i64 co.op, .string (ba co.lt), .int .i64 co.a, .int .i64 co.b, .string (ba co.tx)] _ HB0.out Try.underlying23 rfl (by kernel_rfl) ?_)
    | (go_at_call 27; (with_reducible refine (HC.out _).mono ?_); rintro e w1 ⟨Ac, n1, dc, rfl, hy1, _, _, hb1⟩; have HY1 := Lib.hid hy1; have HX1 := Lib.hid (below_step HX0.out hb1); have HZ1 := Lib.hid (HZ0.out.through hb1); clear hy1 hb1)
    | (go_at_call 28; (with_reducible refine (all_some m hm1 hm7 _).mono ?_); rintro e w2 ⟨rfl, hiv, hb2⟩; have HIv := Lib.hid hiv; have HY2 := Lib.hid (HY1.out.through hb2); have HX2 := Lib.hid (below_step HX1.out hb2); have HZ2 := Lib.hid (HZ1.out.through hb2); have HW1 := Lib.hid HX1.out.size; clear hiv hb2)
    | (go_at_call 26; (with_reducible refine (HVS.out _ _ _ _ _ HX2.out HY2.out HIv.out (by have := HW1.out; have := HGl.out; omega)).mono ?_); rintro e w3 ⟨B1, c1, A1, c2, rfl, _, ⟨ht3, hcp⟩, hn3, hs3, hf3⟩; have HT3 := Lib.hid (ht3.through (below1_ w3 (.cells #[.int .i64 100, .int .i64 org, .slice B1 n1 c1, .slice A1 m c2] 65))); have HCp := Lib.hid hcp; have HN3 := Lib.hid hn3; have HS3 := Lib.hid (hs3.through (below1_ w3 (.cells #[.int .i64 100, .int .i64 org, .slice B1 n1 c1, .slice A1 m c2] 65))); have HF3 := Lib.hid (((KF.of_below HGl.out HX2.out).trans hf3).alloc HGl.out (.cells #[.int .i64 100, .int .i64 org, .slice B1 n1 c1, .slice A1 m c2] 65)); have HZ3 := Lib.hid ((hf3.blk HZ2.out (by have := HGl.out; omega)).alloc (.cells #[.int .i64 100, .int .i64 org, .slice B1 n1 c1, .slice A1 m c2] 65)); have HX2s := Lib.hid HX2.out.size; have HZ2l := Lib.hid HZ2.out.lt; clear ht3 hcp hn3 hs3 hf3)
    | (refine wpList_store_blk rfl 34 (.tmp 8) (.tmp 20) rfl (w.heap.size + 1) [.int .i64 org, .slice A1 m c2] rfl rfl 34 [.int .i64 0, .slice none 0 0] HZ3.out (by kernel_rfl) rfl (by simp [Value.oneCell']) ?_; intro w5 hb5 hg5; have HB5 := Lib.hid hb5; have HT5 := Lib.hid (HT3.out.keep (fun k hk _ ⟨o, e⟩ => hg5.block k hk (fun e' => by have := HN3.out _ e; have := Option.some.inj e'; have := HX2s.out; have := HZ2l.out; simp only at *; omega))); have HS5 := Lib.hid (HS3.out.cell ⟨_, _, _, HZ3.out⟩ hg5 (by have := HGl.out; omega)); have HF5 := Lib.hid (HF3.out.grownB hg5 (Nat.le_succ _) HGl.out); clear hb5 hg5))
  (try simp only [Exit.inBlock, Exit.then]); refine bodyPost_ret (results_cell_row_0 rfl _ _ (w.heap.size + 1) 34 _ (0, 0) _ rfl HB5.out Try.underlying34 rfl (by kernel_rfl)) rfl ?_
  exact ⟨A1, c2, rfl, HT5.out.ts HCp.out, HS5.out, HF5.out⟩
end

section
open Go.RowKit
def txF : List UInt8 := 100 :: encCr fixC
def tsF1 : List TK := acc 2 txF (upTo 4) [] 4
def tsF2 : List TK := acc 0 txF (upTo 4) tsF1 4
def tF1 : List (List UInt8) := (List.range 4).map (made 2 txF (upTo 4) [] 4)
def tF0 : List (List UInt8) := (List.range 4).map (made 0 txF (upTo 4) tsF1 4)
def esF : List En := [⟨0, tF0⟩, ⟨2, tF1⟩]
def holdF (who o : Int) (t : List UInt8) : Bool := bookHolds tsF2 (o, who, txF) t
theorem maskF3 : maskF (fun o : Nat => inE (holdF 3) esF 3 (o : Int)) 4 = 5 := by kernel_rfl
theorem maskF4 : maskF (fun o : Nat => inE (holdF 4) esF 4 (o : Int)) 4 = 0 := by kernel_rfl
theorem tsF1_len : tsF1.length = 4 := by kernel_rfl
theorem tsF2_len : tsF2.length = 8 := by kernel_rfl
theorem withF1 (t : List (List UInt8)) : withE [] ⟨2, t⟩ = [⟨2, t⟩] := rfl
theorem withF2 (t u : List (List UInt8)) : withE [⟨2, t⟩] ⟨0, u⟩ = [⟨0, u⟩, ⟨2, t⟩] := rfl
def fmF : Fm := .mk 2 0 []
theorem enF4 : (decide (fmF.check 4 = 0) && fmF.hold 4) = true := by kernel_rfl
theorem enF2 : (decide (fmF.check 2 = 0) && fmF.hold 4) = false := by kernel_rfl
theorem tF1_cnt : tF1.length = 4 := by kernel_rfl
theorem tF0_cnt : tF0.length = 4 := by kernel_rfl
theorem tF1_len : ∀ t ∈ tF1, t.length = 32 := fun t ht => by
  obtain ⟨i, _, rfl⟩ := List.mem_map.1 ht
  exact numB_length _ _
end

end Go.Proofs.Ytgbobemhogeeeaa
