/-
  Fold: the entries of a batch are done, one behind the other, from an empty ledger on.
-/
import Derived.Test.YtfflkodgojiklaaGreatDoorCoR
namespace Go.Proofs.YtfflkodgojiklaaGreatDoor
open Go.RowKit

theorem Tryz.el_er : El Tryz.prog 49 34 1 8 (.int .i64 0) := ⟨Tryz.underlying49, by kernel_rfl, rfl, by omega, by omega, by omega⟩
theorem Tryz.build_er (r : Int) (W : World) : (Instr.buildSlice 49 1 #[(0, .int .i64 r)]).run Tryz.prog W = .ok (.slice (some ⟨W.heap.size, 0, none⟩) 1 1) (W.alloc (.cells #[.int .i64 r] 34)) := by kernel_rfl
theorem step_build_one_w {P : Program} {ops : Array Oper} {o : Oper} {a : Act} {w : World} {K : Act → World → Prop} {Q : Exit → Act → World → Prop} {F : Prop} (hgd : o.guard = none) (s e : TypeId) (x : Operand) (ho : o.op = .buildSlice s 1 #[(0, x)])
    (v : Value) (hx : a.eval x = v) (hrun : (Instr.buildSlice s 1 #[(0, v)]).run P w = .ok (.slice (some ⟨w.heap.size, 0, none⟩) 1 1) (w.alloc (.cells #[v] e)))
    (h : ∀ g w', Blk w' g e [v] → Below w.heap.size w w' → K (a.put o.dst (.slice (some ⟨g, 0, none⟩) 1 1)) w') : if Region.wanted o (yielded ops a.tmps) = true then Oper.wp P o a w K Q else F := by
  have hw : Region.wanted o (yielded ops a.tmps) = true := by simp [Region.wanted, hgd]
  rw [if_pos hw]
  unfold Oper.wp execOp
  simp only [ho, Sem.run_bind, List.map_toArray, List.map_cons, List.map_nil, hx, hrun, Result.andThen_ok]
  exact h _ _ (Blk.fresh rfl rfl) ((Below.refl _ w).alloc (Nat.le_refl _) _)
theorem LgIn.row {w w' : World} {A B : Option Addr} {n m : Nat} {l : Lg} {row : Option Nat} (h : LgIn w A n B m l) (hg : w.grownBy w' row) (ha : ∀ a, A = some a → 0 < a.block ∧ ∀ g, row = some g → g < a.block) (hb : ∀ a, B = some a → 0 < a.block ∧ ∀ g, row = some g → g < a.block) : LgIn w' A n B m l := by
  cases row with
  | none => exact h.far (hg.but (some 0)) (fun a e => (ha a e).1) (fun a e => (hb a e).1)
  | some g => exact h.far hg (fun a e => (ha a e).2 g rfl) (fun a e => (hb a e).2 g rfl)

set_option maxHeartbeats 8000000 in
set_option maxRecDepth 100000 in
theorem fold_any (es : List Ey) (E : Option Addr) (k kc : Nat) (w : World) (hE : EysIn w E k es) (hf : es.all fewE = true) (hk : k ≤ 40) (hLe : Led w) (hEv : EV w) :
    Calls Tryz.prog 13 #[.agg #[.int .i64 0, .int .i64 0, .slice none 0 0, .slice none 0 0], .slice E k kc, .int .i64 4] w fun e w' => ∃ A n c B m d R rn rc, e = .returned (.tuple #[.agg #[.int .i64 1, .int .i64 (foldL Lg.no es).tt, .slice A n c, .slice B m d], .slice R rn rc]) ∧ LgIn w' A n B m (foldL Lg.no es) ∧ n ≤ c ∧ m ≤ d ∧ Below w.heap.size w w' := by
  obtain ⟨fin, hfin⟩ : ∃ fin, foldL Lg.no es = fin := ⟨_, rfl⟩
  rw [hfin]
  have HFin := Lib.hid hfin
  have X0 : Hid (Below w.heap.size w ((w.alloc (.cells #[.int .i64 0, .int .i64 0, .slice none 0 0, .slice none 0 0] 25)).alloc (.cells #[.int .i64 0, .int .i64 0, .slice none 0 0, .slice none 0 0] 25))) := Lib.hid (below2 w _ _)
  have L0 : Hid (Blk ((w.alloc (.cells #[.int .i64 0, .int .i64 0, .slice none 0 0, .slice none 0 0] 25)).alloc (.cells #[.int .i64 0, .int .i64 0, .slice none 0 0, .slice none 0 0] 25)) w.heap.size 25 [.int .i64 0, .int .i64 0, .slice none 0 0, .slice none 0 0]) := Lib.hid ((Blk.fresh rfl rfl).alloc _)
  have Z0 : Hid (Blk ((w.alloc (.cells #[.int .i64 0, .int .i64 0, .slice none 0 0, .slice none 0 0] 25)).alloc (.cells #[.int .i64 0, .int .i64 0, .slice none 0 0, .slice none 0 0] 25)) (w.heap.size + 1) 25 [.int .i64 0, .int .i64 0, .slice none 0 0, .slice none 0 0]) := Lib.hid (Blk.fresh (by simp) rfl)
  have S0 : Hid (w.heap.size + 2 ≤ ((w.alloc (.cells #[.int .i64 0, .int .i64 0, .slice none 0 0, .slice none 0 0] 25)).alloc (.cells #[.int .i64 0, .int .i64 0, .slice none 0 0, .slice none 0 0] 25)).heap.size) := Lib.hid (by simp)
  have hcp : ∀ W, Calls Tryz.prog 16 #[.agg #[.int .i64 0, .int .i64 0, .slice none 0 0, .slice none 0 0]] W fun e w' => ∃ A n c B m d, e = .returned (.agg #[.int .i64 0, .int .i64 0, .slice A n c, .slice B m d]) ∧ LgIn w' A n B m Lg.no ∧ n ≤ c ∧ m ≤ d ∧ Below W.heap.size W w' ∧ (∀ a, A = some a → W.heap.size ≤ a.block) ∧ ∀ a, B = some a → W.heap.size ≤ a.block := fun W => copy_any Lg.no none 0 0 none 0 0 W (LgIn.none_ W) (by omega) (by omega)
  have HCp := Lib.hid hcp
  have HEy := Lib.hid hE
  have HK := Lib.hid hk
  have HAll := Lib.hid hf
  have HLe := Lib.hid hLe
  have HEv := Lib.hid hEv
  have HLn := Lib.hid hE.len
  have HIY := Lib.hid Tryz.ix_ey
  have hz := Tryz.zero_lg
  clear hcp hE hf hLe hEv hfin
  go_enter Tryz.func13, Tryz.ntmps13
  go_wp2_with (first
    | (refine wpList_load_blk rfl 25 (.tmp 3) rfl w.heap.size rfl 25 [.int .i64 0, .int .i64 0, .slice none 0 0, .slice none 0 0] _ L0.out Tryz.underlying25 rfl (by kernel_rfl) ?_)
    | (go_at_call 16; (with_reducible refine (HCp.out _).mono ?_); rintro e w1 ⟨A, n, c, B, m, d, rfl, hi, hc, hd, hb, hf, hg⟩; have L1 := Lib.hid (L0.out.through hb); have Z1 := Lib.hid (Z0.out.through hb); have X1 : Hid (Below w.heap.size w w1) := Lib.hid (below_step X0.out hb); have I1 := Lib.hid hi; have C1 := Lib.hid hc; have D1 := Lib.hid hd; have F1 := Lib.hid (fun a ha => Nat.le_trans S0.out (hf a ha)); have G1 := Lib.hid (fun a ha => Nat.le_trans S0.out (hg a ha)); have S1 : Hid (w.heap.size + 2 ≤ w1.heap.size) := Lib.hid (Nat.le_trans S0.out hb.size); clear hi hc hd hb hf hg)
    | (refine wpList_store_blk rfl 25 (.tmp 3) (.tmp 14) rfl w.heap.size [.int .i64 0, .int .i64 0, .slice A n c, .slice B m d] rfl rfl 25 [.int .i64 0, .int .i64 0, .slice none 0 0, .slice none 0 0] L1.out (by kernel_rfl) rfl (one4l _ _ _ _ _ _ _ _) ?_; intro w2 hb2 hg2; have L2 := Lib.hid hb2; have Z2 := Lib.hid (Z1.out.grown hg2 (by simp)); have X2 : Hid (Below w.heap.size w w2) := Lib.hid (X1.out.grown hg2 X1.out.size (fun k hk => Option.some.inj hk ▸ Nat.le_refl _)); have I2 := Lib.hid (I1.out.far hg2 (fun a ha => by have := F1.out a ha; omega) (fun a ha => by have := G1.out a ha; omega)); have S2 := Lib.hid (Nat.le_trans S1.out hg2.size); clear hb2 hg2))
  go_loopw [8, 17] (fun rv iv wr => ∃ (i : Nat) (cur : Lg) (A : Option Addr) (n c : Nat) (B : Option Addr) (m d : Nat) (xs : List (List Value)), i ≤ k ∧ iv = .int .i64 i ∧ Below w.heap.size w wr ∧ w.heap.size + 2 ≤ wr.heap.size ∧ Blk wr w.heap.size 25 [.int .i64 0, .int .i64 cur.tt, .slice A n c, .slice B m d] ∧ Blk wr (w.heap.size + 1) 25 [.int .i64 0, .int .i64 0, .slice none 0 0, .slice none 0 0] ∧ LgIn wr A n B m cur ∧ n ≤ c ∧ m ≤ d ∧ (∀ a, A = some a → w.heap.size + 2 ≤ a.block) ∧ (∀ a, B = some a → w.heap.size + 2 ≤ a.block) ∧ Inv cur ∧ foldL cur (es.drop i) = fin ∧ Os wr (w.heap.size + 2) 34 1 rv xs ∧ xs.length = i) (fun _ iv _ => k - (intOf iv).toNat)
  case atStart => exact ⟨0, Lg.no, A, n, c, B, m, d, [], Nat.zero_le _, rfl, X2.out, S2.out, L2.out, Z2.out, I2.out, C1.out, D1.out, F1.out, G1.out, inv_none, HFin.out, Os.nil _ _ _ _, rfl⟩
  case round =>
    obtain ⟨i, cur, A, n, c, B, m, d, xs, hi, rfl, hx, hsz, hl, hzz, hin, hnc, hmd, hfa, hfb, hinv, hfold, hos, hxl⟩ := hrel
    have HX := Lib.hid hx
    have HSz := Lib.hid hsz
    have HL := Lib.hid hl
    have HZ := Lib.hid hzz
    have HI := Lib.hid hin
    have HNc := Lib.hid hnc
    have HMd := Lib.hid hmd
    have HFa := Lib.hid hfa
    have HFb := Lib.hid hfb
    have HInv := Lib.hid hinv
    have HFo := Lib.hid hfold
    have HOs := Lib.hid hos
    have HXl := Lib.hid (show xs.length ≤ 40 by have := HK.out; omega)
    have HXe := Lib.hid hxl
    clear hx hsz hl hzz hin hnc hmd hfa hfb hinv hfold hos hxl
    by_cases hlt : i < k
    · obtain ⟨g, o, y, rfl, _, hmem, hd9, hry⟩ := (HEy.out.through HX.out).at hlt
      have HD9 := Lib.hid hd9
      have HRy := Lib.hid hry
      have hix := HIY.out wr g o k kc i hlt
      have hwr : IntKind.i64.wrap ((i : Int) + 1) = (i : Int) + 1 := IntWalk.i64_in _ (by have := HK.out; omega)
      have hfy : fewE y = true := List.all_eq_true.1 HAll.out y hmem
      have hms : y.ms < 4294967296 := HEy.out.2 y hmem
      have hnn := HInv.out.ln
      have hmm := HInv.out.os4
      have hl1 := HI.out.len
      have hlt9 : y.co.lt.length ≤ 100 := by simp [fewE] at hfy; exact hfy.1
      have hdo : ∀ W, Below w.heap.size w W → LgIn W A n B m cur → Calls Tryz.prog 8 #[.agg #[.int .i64 cur.sq, .int .i64 cur.tt, .slice A n c, .slice B m d], .agg #[.int .i64 y.co.cl, .int .i64 y.co.sp, .int .i64 y.co.op, .string (ba y.co.lt), .int .i64 y.co.a, .int .i64 y.co.b, .string (ba y.co.tx), .int .u32 (y.ms : Int)], .int .i64 4] W (LgOutCE W (doL cur y 4).1 (doL cur y 4).2) := fun W hW hIW => do_any y 4 cur A n c B m d W hIW HNc.out HMd.out (by omega) (by omega) (HLe.out.through hW) (HEv.out.through hW) hms (by omega) (HInv.out.text hfy)
      have hiq := inv_do HInv.out y
      have HN : Hid (foldL (doL cur y 4).1 (es.drop (i + 1)) = fin) := Lib.hid (by have h9 := HFo.out; rw [HD9.out] at h9; exact h9)
      obtain ⟨⟨q, r⟩, hqr⟩ : ∃ q, doL cur y 4 = q := ⟨_, rfl⟩
      rw [hqr] at hdo hiq HN
      simp only at hdo hiq HN
      rw [HInv.out.sq] at hdo
      have hdo2 : ∀ W, Below w.heap.size w W → LgIn W A n B m cur → Calls Tryz.prog 8 #[.agg #[.int .i64 0, .int .i64 cur.tt, .slice A n c, .slice B m d], .agg #[.int .i64 y.co.cl, .int .i64 y.co.sp, .int .i64 y.co.op, .string (ba y.co.lt), .int .i64 y.co.a, .int .i64 y.co.b, .string (ba y.co.tx), .int .u32 (y.ms : Int)], .int .i64 4] W fun e w' => ∃ A5 n5 c5 B5 m5 d5, e = .returned (.tuple #[.agg #[.int .i64 0, .int .i64 q.tt, .slice A5 n5 c5, .slice B5 m5 d5], .int .i64 r]) ∧ LgIn w' A5 n5 B5 m5 q ∧ n5 ≤ c5 ∧ m5 ≤ d5 ∧ Below W.heap.size W w' ∧ (∀ a, A5 = some a → W.heap.size ≤ a.block) ∧ ∀ a, B5 = some a → W.heap.size ≤ a.block := fun W hW hIW => by
        have h9 := hdo W hW hIW
        unfold LgOutCE Lg.val at h9
        rw [hiq.sq] at h9
        exact h9
      have HDo := Lib.hid hdo2
      have HIq := Lib.hid hiq
      have Xa : Hid (Below w.heap.size w (wr.alloc (.cells #[.int .i64 y.co.cl, .int .i64 y.co.sp, .int .i64 y.co.op, .string (ba y.co.lt), .int .i64 y.co.a, .int .i64 y.co.b, .string (ba y.co.tx), .int .u32 (y.ms : Int)] 30))) := Lib.hid (HX.out.alloc HX.out.size _)
      have La := Lib.hid (HL.out.alloc (.cells #[.int .i64 y.co.cl, .int .i64 y.co.sp, .int .i64 y.co.op, .string (ba y.co.lt), .int .i64 y.co.a, .int .i64 y.co.b, .string (ba y.co.tx), .int .u32 (y.ms : Int)] 30))
      have Za := Lib.hid (HZ.out.alloc (.cells #[.int .i64 y.co.cl, .int .i64 y.co.sp, .int .i64 y.co.op, .string (ba y.co.lt), .int .i64 y.co.a, .int .i64 y.co.b, .string (ba y.co.tx), .int .u32 (y.ms : Int)] 30))
      have Ia := Lib.hid (HI.out.alloc (.cells #[.int .i64 y.co.cl, .int .i64 y.co.sp, .int .i64 y.co.op, .string (ba y.co.lt), .int .i64 y.co.a, .int .i64 y.co.b, .string (ba y.co.tx), .int .u32 (y.ms : Int)] 30))
      have Oa := Lib.hid (HOs.out.alloc (.cells #[.int .i64 y.co.cl, .int .i64 y.co.sp, .int .i64 y.co.op, .string (ba y.co.lt), .int .i64 y.co.a, .int .i64 y.co.b, .string (ba y.co.tx), .int .u32 (y.ms : Int)] 30))
      have Ea : Hid (Blk (wr.alloc (.cells #[.int .i64 y.co.cl, .int .i64 y.co.sp, .int .i64 y.co.op, .string (ba y.co.lt), .int .i64 y.co.a, .int .i64 y.co.b, .string (ba y.co.tx), .int .u32 (y.ms : Int)] 30)) wr.heap.size 30 [.int .i64 y.co.cl, .int .i64 y.co.sp, .int .i64 y.co.op, .string (ba y.co.lt), .int .i64 y.co.a, .int .i64 y.co.b, .string (ba y.co.tx), .int .u32 (y.ms : Int)]) := Lib.hid (Blk.fresh rfl rfl)
      have Sa : Hid (w.heap.size + 2 ≤ (wr.alloc (.cells #[.int .i64 y.co.cl, .int .i64 y.co.sp, .int .i64 y.co.op, .string (ba y.co.lt), .int .i64 y.co.a, .int .i64 y.co.b, .string (ba y.co.tx), .int .u32 (y.ms : Int)] 30)).heap.size) := Lib.hid (by have := HSz.out; simp; omega)
      clear hdo hdo2 hiq hqr hd9 hry hfy hms hnn hmm hl1 hlt9 hmem
      go_wp2_with (first
        | (refine wpList_load_mid rfl 30 (.tmp 19) rfl g (o + i * 8) rfl [.int .i64 y.co.cl, .int .i64 y.co.sp, .int .i64 y.co.op, .string (ba y.co.lt), .int .i64 y.co.a, .int .i64 y.co.b, .string (ba y.co.tx), .int .u32 (y.ms : Int)] _ HRy.out Tryz.underlying30 rfl (by kernel_rfl) ?_)
        | (refine wpList_load_blk rfl 25 (.tmp 3) rfl w.heap.size rfl 25 [.int .i64 0, .int .i64 cur.tt, .slice A n c, .slice B m d] _ La.out Tryz.underlying25 rfl (by kernel_rfl) ?_)
        | (refine wpList_load_blk rfl 30 (.tmp 10) rfl wr.heap.size rfl 30 [.int .i64 y.co.cl, .int .i64 y.co.sp, .int .i64 y.co.op, .string (ba y.co.lt), .int .i64 y.co.a, .int .i64 y.co.b, .string (ba y.co.tx), .int .u32 (y.ms : Int)] _ Ea.out Tryz.underlying30 rfl (by kernel_rfl) ?_)
        | (go_at_call 8; (with_reducible refine (HDo.out _ Xa.out Ia.out).mono ?_); rintro e w5 ⟨A5, n5, c5, B5, m5, d5, rfl, hi, hc, hd, hb, hf, hg⟩; have Lb := Lib.hid ((La.out.through hb).alloc (.cells #[.int .i64 0, .int .i64 q.tt, .slice A5 n5 c5, .slice B5 m5 d5] 25)); have Zb := Lib.hid ((Za.out.through hb).alloc (.cells #[.int .i64 0, .int .i64 q.tt, .slice A5 n5 c5, .slice B5 m5 d5] 25)); have Xb : Hid (Below w.heap.size w (w5.alloc (.cells #[.int .i64 0, .int .i64 q.tt, .slice A5 n5 c5, .slice B5 m5 d5] 25))) := Lib.hid ((below_step Xa.out hb).alloc (Nat.le_trans Xa.out.size hb.size) _); have Kb : Hid (Blk (w5.alloc (.cells #[.int .i64 0, .int .i64 q.tt, .slice A5 n5 c5, .slice B5 m5 d5] 25)) w5.heap.size 25 [.int .i64 0, .int .i64 q.tt, .slice A5 n5 c5, .slice B5 m5 d5]) := Lib.hid (Blk.fresh rfl rfl); have Ib := Lib.hid (hi.alloc (.cells #[.int .i64 0, .int .i64 q.tt, .slice A5 n5 c5, .slice B5 m5 d5] 25)); have Ob := Lib.hid ((Oa.out.through hb).alloc (.cells #[.int .i64 0, .int .i64 q.tt, .slice A5 n5 c5, .slice B5 m5 d5] 25)); have Fb := Lib.hid (fun a ha => Nat.le_trans Sa.out (hf a ha)); have Gb := Lib.hid (fun a ha => Nat.le_trans Sa.out (hg a ha)); have Fo := Lib.hid (fun a ha gg hgg => Nat.lt_of_lt_of_le (Oa.out.lt gg hgg).2 (hf a ha)); have Go_ := Lib.hid (fun a ha gg hgg => Nat.lt_of_lt_of_le (Oa.out.lt gg hgg).2 (hg a ha)); have Cb := Lib.hid hc; have Db := Lib.hid hd; have HW5 : Hid (w.heap.size + 2 ≤ w5.heap.size) := Lib.hid (Nat.le_trans Sa.out hb.size); have Sb : Hid (w.heap.size + 2 ≤ (w5.alloc (.cells #[.int .i64 0, .int .i64 q.tt, .slice A5 n5 c5, .slice B5 m5 d5] 25)).heap.size) := Lib.hid (by have := Sa.out; have := hb.size; simp at *; omega); clear hi hc hd hb hf hg))
      try dsimp only [Act.put]
      refine wp_region_held_drew (S := fun W => w.heap.size + 2 ≤ W.heap.size ∧ Below w.heap.size w W ∧ (∃ old : List Value, old.length = 4 ∧ Blk W w.heap.size 25 old) ∧ Blk W (w.heap.size + 1) 25 [.int .i64 0, .int .i64 0, .slice none 0 0, .slice none 0 0] ∧ Blk W w5.heap.size 25 [.int .i64 0, .int .i64 q.tt, .slice A5 n5 c5, .slice B5 m5 d5] ∧ LgIn W A5 n5 B5 m5 q) (by kernel_rfl) ⟨Sb.out, Xb.out.drew, ⟨_, rfl, Lb.out.drew⟩, Zb.out.drew, Kb.out.drew, Ib.out.through (below_drew _)⟩ (fun hHeld => ?_)
      change wpAnyH _ _ _ _ _ _ #[false, false, false, false, false, false, false] _ _
      refine wpAnyH_take (i := 1) (v := (u8)) rfl (by kernel_rfl) (by kernel_rfl) (by kernel_rfl) (fun _ _ _ h => h) (Or.inl ⟨by kernel_rfl, fun w hSw => ?_⟩) (by assumption) ?_
      · (try dsimp only at hSw); go_simp <;> (try rfl)
      change wpAnyH _ _ _ _ _ _ _ (Act.put _ (some (29 : Nat)) (u8)) _
      simp only [Act.put, List.setIfInBounds_toArray, List.set_cons_zero, List.set_cons_succ]
      refine wpAnyH_take (i := 2) (v := (.int .i64 r)) rfl (by kernel_rfl) (by kernel_rfl) (by kernel_rfl) (fun _ _ _ h => h) (Or.inl ⟨by kernel_rfl, fun w hSw => ?_⟩) (by assumption) ?_
      · (try dsimp only at hSw); go_simp <;> (try rfl)
      change wpAnyH _ _ _ _ _ _ _ (Act.put _ (some (30 : Nat)) (.int .i64 r)) _
      simp only [Act.put, List.setIfInBounds_toArray, List.set_cons_zero, List.set_cons_succ]
      refine wpAnyH_take (i := 0) (v := (.agg #[.int .i64 0, .int .i64 q.tt, .slice A5 n5 c5, .slice B5 m5 d5])) rfl (by kernel_rfl) (by kernel_rfl) (by kernel_rfl) (fun _ _ _ h => h) (yields_load_at (by kernel_rfl) 25 (.tmp 11) rfl (.pointer (some ⟨w5.heap.size, 0, none⟩)) (by simp [Act.eval]) (.agg #[.int .i64 0, .int .i64 q.tt, .slice A5 n5 c5, .slice B5 m5 d5]) (fun W hW => hW.2.2.2.2.1.loadAt 25 _ Tryz.underlying25 rfl (by kernel_rfl))) (by assumption) ?_
      change wpAnyH _ _ _ _ _ _ _ (Act.put _ (some (28 : Nat)) (.agg #[.int .i64 0, .int .i64 q.tt, .slice A5 n5 c5, .slice B5 m5 d5])) _
      simp only [Act.put, List.setIfInBounds_toArray, List.set_cons_zero, List.set_cons_succ]
      refine wpAnyH_ready (rs := [3]) (by kernel_rfl) (by simp) ?_
      refine AllReadyH.cons (o := ⟨some 31, .buildSlice 49 1 #[(0, .tmp 30)], _, _, _, none⟩) rfl (fun K hK => ?_) AllReadyH.nil
      refine step_build_one_w rfl 49 34 (.tmp 30) rfl (.int .i64 r) rfl (Tryz.build_er _ _) ?_; intro g6 w6 hb6 hw6; have B6 := Lib.hid hb6; have HW6 := Lib.hid hw6; have Oc_ := Lib.hid (Ob.out.drew.through hw6); clear hb6 hw6
      refine hK.out _ _ ⟨Nat.le_trans hHeld.1 HW6.out.size, below_step hHeld.2.1 HW6.out, (let ⟨old, a, b⟩ := hHeld.2.2.1; ⟨old, a, b.through HW6.out⟩), hHeld.2.2.2.1.through HW6.out, hHeld.2.2.2.2.1.through HW6.out, hHeld.2.2.2.2.2.through HW6.out⟩ (fun hHeld1 => ?_)
      clear hHeld hK K
      have hHeld := hHeld1
      clear hHeld1
      change wpAnyH _ _ _ _ _ _ _ (Act.put _ (some (31 : Nat)) (.slice (some ⟨g6, 0, none⟩) 1 1)) _
      simp only [Act.put, List.setIfInBounds_toArray, List.set_cons_zero, List.set_cons_succ]
      refine wpAnyH_ready (rs := [4]) (by kernel_rfl) (by simp) ?_
      refine AllReadyH.cons (o := ⟨some 32, .call { callee := .builtin .append, args := #[.tmp 29, .tmp 31], argTypes := #[49, 49] }, _, _, _, none⟩) rfl (fun K hK => ?_) AllReadyH.nil
      refine step_append_el rfl Tryz.el_er (.tmp 29) (.tmp 31) rfl (w.heap.size + 2) u8 xs rfl Oc_.out g6 [.int .i64 r] rfl B6.out rfl (fun u hu => by simp at hu; subst hu; rfl) (by have := HXl.out; omega) hHeld.1 ?_; intro A7 n7 c7 w7 hn7 ho7 hg7; have HO7 := Lib.hid ho7; have HG7 := Lib.hid hg7; clear hn7 ho7 hg7
      refine hK.out _ _ ⟨Nat.le_trans hHeld.1 HG7.out.size, hHeld.2.1.grown HG7.out hHeld.2.1.size (fun j hj => by have := (Oc_.out.lt j hj).1; omega), (let ⟨old, a, b⟩ := hHeld.2.2.1; ⟨old, a, b.grown HG7.out (fun e => by have := (Oc_.out.lt _ e.symm).1; omega)⟩), hHeld.2.2.2.1.grown HG7.out (fun e => by have := (Oc_.out.lt _ e.symm).1; omega), hHeld.2.2.2.2.1.apart Oc_.out (by decide) HG7.out, hHeld.2.2.2.2.2.row HG7.out (fun a ha => ⟨by have := Fb.out a ha; omega, Fo.out a ha⟩) (fun a ha => ⟨by have := Gb.out a ha; omega, Go_.out a ha⟩)⟩ (fun hHeld1 => ?_)
      clear hHeld hK K
      have hHeld := hHeld1
      clear hHeld1
      change wpAnyH _ _ _ _ _ _ _ (Act.put _ (some (32 : Nat)) (.slice A7 n7 c7)) _
      simp only [Act.put, List.setIfInBounds_toArray, List.set_cons_zero, List.set_cons_succ]
      refine wpAnyH_ready (rs := [5]) (by kernel_rfl) (by simp) ?_
      refine AllReadyH.cons (o := ⟨none, .store 25 (.tmp 3) (.tmp 28), _, _, _, none⟩) rfl (fun K hK => ?_) AllReadyH.nil
      obtain ⟨old9, ho9, hb9o⟩ := hHeld.2.2.1; refine step_store_blk rfl 25 (.tmp 3) (.tmp 28) rfl w.heap.size [.int .i64 0, .int .i64 q.tt, .slice A5 n5 c5, .slice B5 m5 d5] rfl rfl 25 old9 hb9o (by kernel_rfl) (by rw [ho9]; rfl) (one4l _ _ _ _ _ _ _ _) ?_; intro w9 hb9 hg9; have L9 : Hid (Blk w9 w.heap.size 25 [.int .i64 0, .int .i64 q.tt, .slice A5 n5 c5, .slice B5 m5 d5]) := Lib.hid hb9; have HO9 := Lib.hid (HO7.out.far hg9 (by omega)); have HG9 := Lib.hid hg9; clear hb9 hg9 hb9o ho9
      refine hK.out _ _ ⟨Nat.le_trans hHeld.1 HG9.out.size, hHeld.2.1.grown HG9.out hHeld.2.1.size (fun j hj => Option.some.inj hj ▸ Nat.le_refl _), ⟨_, rfl, L9.out⟩, hHeld.2.2.2.1.grown HG9.out (by simp), hHeld.2.2.2.2.1.grown HG9.out (fun e => by have := Option.some.inj e; have := HW5.out; omega), hHeld.2.2.2.2.2.far HG9.out (fun a ha => by have := Fb.out a ha; omega) (fun a ha => by have := Gb.out a ha; omega)⟩ (fun hHeld1 => ?_)
      clear hHeld hK K
      have hHeld := hHeld1
      clear hHeld1
      change wpAnyH _ _ _ _ _ _ _ (Act.put _ none undef) _
      simp only [Act.put]
      refine wpAnyH_take (i := 6) (v := (.slice A7 n7 c7)) rfl (by kernel_rfl) (by kernel_rfl) (by kernel_rfl) (fun _ _ _ h => h) (Or.inl ⟨by kernel_rfl, fun w hSw => ?_⟩) (by assumption) ?_
      · (try dsimp only at hSw); go_simp <;> (try rfl)
      change wpAnyH _ _ _ _ _ _ _ (Act.put _ (some (8 : Nat)) (.slice A7 n7 c7)) _
      simp only [Act.put, List.setIfInBounds_toArray, List.set_cons_zero, List.set_cons_succ]
      refine wpAnyH_done (by kernel_rfl) ?_ _
      have XE := Lib.hid hHeld.2.1
      have SE := Lib.hid hHeld.1
      have ZE := Lib.hid hHeld.2.2.2.1
      have IE := Lib.hid hHeld.2.2.2.2.2
      clear hHeld
      go_wp2
      go_roundw
      case rel => exact ⟨i + 1, q, A5, n5, c5, B5, m5, d5, xs ++ [[.int .i64 r]], by omega, by go_num, XE.out, SE.out, L9.out, ZE.out, IE.out, Cb.out, Db.out, Fb.out, Gb.out, HIq.out, HN.out, HO9.out, by have := HXe.out; simp; omega⟩
      case measure => simp [intOf]; omega

    · have e9 : es.drop i = [] := List.drop_of_length_le (by have := HLn.out; omega)
      have HE9 : Hid (cur = fin) := Lib.hid (by have h9 := HFo.out; rw [e9] at h9; exact h9)
      have c0 := HL.out.cellAt (i := 0) rfl
      have HSo := Lib.hid HOs.out.out
      clear e9
      go_wp2_with (first
        | (refine wpList_store_cell rfl 2 (.tmp 37) (.tmp 36) rfl w.heap.size 0 rfl (.int .i64 1) rfl rfl rfl (fun w => by kernel_rfl) 25 [.int .i64 0, .int .i64 cur.tt, .slice A n c, .slice B m d] HL.out (by simp) ?_; intro w8 hb8 hg8; have L8 : Hid (Blk w8 w.heap.size 25 [.int .i64 1, .int .i64 cur.tt, .slice A n c, .slice B m d]) := Lib.hid hb8; have X8 : Hid (Below w.heap.size w w8) := Lib.hid (HX.out.grown hg8 HX.out.size (fun j hj => Option.some.inj hj ▸ Nat.le_refl _)); have Z8 := Lib.hid (HZ.out.grown hg8 (by simp)); have I8 := Lib.hid (HI.out.far hg8 (fun a ha => by have := HFa.out a ha; omega) (fun a ha => by have := HFb.out a ha; omega)); clear hb8 hg8)
        | (refine wpList_load_blk rfl 25 (.tmp 3) rfl w.heap.size rfl 25 [.int .i64 1, .int .i64 cur.tt, .slice A n c, .slice B m d] _ L8.out Tryz.underlying25 rfl (by kernel_rfl) ?_)
        | (refine wpList_store_blk rfl 25 (.tmp 6) (.tmp 38) rfl (w.heap.size + 1) [.int .i64 1, .int .i64 cur.tt, .slice A n c, .slice B m d] rfl rfl 25 [.int .i64 0, .int .i64 0, .slice none 0 0, .slice none 0 0] Z8.out (by kernel_rfl) rfl (one4l _ _ _ _ _ _ _ _) ?_; intro w9 hb9 hg9; have HB9 := Lib.hid hb9; have X9 : Hid (Below w.heap.size w w9) := Lib.hid (X8.out.grown hg9 X8.out.size (fun j hj => by have := Option.some.inj hj; omega)); have I9 := Lib.hid (I8.out.far hg9 (fun a ha => by have := HFa.out a ha; omega) (fun a ha => by have := HFb.out a ha; omega)); clear hb9 hg9))
      obtain ⟨R, rc, hrv, _⟩ := HSo.out
      subst hrv
      (try simp only [Exit.inBlock, Exit.then]); refine bodyPost_ret (results_cell_row_tmp1 rfl _ _ (w.heap.size + 1) 25 _ (0, 0) _ rfl HB9.out Tryz.underlying25 rfl (by kernel_rfl)) rfl ?_
      have e8 := HE9.out
      subst e8
      exact ⟨A, n, c, B, m, d, R, _, rc, rfl, I9.out, HNc.out, HMd.out, X9.out⟩

end Go.Proofs.YtfflkodgojiklaaGreatDoor
