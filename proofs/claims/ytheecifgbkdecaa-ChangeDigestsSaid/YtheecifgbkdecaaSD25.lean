/-
  ClL0 ClW
-/
import Derived.Test.YtheecifgbkdecaaSD22
import Derived.Test.YtheecifgbkdecaaSD24
import Derived.BigGuard
namespace Go.Proofs.Ytheecifgbkdecaa
open Go.RowKit

def fewE (y : Ey) : Bool := decide (y.co.lt.length ≤ 100) && decide (y.co.tx.length ≤ 300)
def fewP (p : Pf) : Bool := decide (p.es.length ≤ 10) && p.es.all fewE
def fewPs (l : List Pf) : Bool := decide (l.length ≤ 80) && l.all fewP
def fewCh (c : Ch) : Bool := fewPs c.pp && fewPs c.pd && decide (c.po.length ≤ 20)
theorem fewP_low {p : Pf} (h : fewP p = true) : p.es.length ≤ 10 ∧ ∀ y ∈ p.es, y.co.lt.length ≤ 100 ∧ y.co.tx.length ≤ 300 := by
  unfold fewP fewE at h
  simp only [Bool.and_eq_true, decide_eq_true_eq, List.all_eq_true] at h
  exact h
theorem fewCh_low {c : Ch} (h : fewCh c = true) : (c.pp.length ≤ 80 ∧ ∀ p ∈ c.pp, fewP p = true) ∧ (c.pd.length ≤ 80 ∧ ∀ p ∈ c.pd, fewP p = true) ∧ c.po.length ≤ 20 := by
  unfold fewCh fewPs at h
  simp only [Bool.and_eq_true, decide_eq_true_eq, List.all_eq_true] at h
  exact ⟨h.1.1, h.1.2, h.2⟩
theorem encB_len18 {es : List Ey} (h : ∀ y ∈ es, y.co.lt.length ≤ 100 ∧ y.co.tx.length ≤ 300) : (encB es).length ≤ 2 + es.length * 439 := by
  have : (encAll encEy es).length ≤ es.length * 439 := by
    induction es with
    | nil => simp [encAll]
    | cons y es ih =>
      have h1 := h y (List.mem_cons_self ..)
      have h2 := ih (fun z hz => h z (List.mem_cons_of_mem _ hz))
      simp only [encAll, List.length_append, List.length_cons, encEy_len]
      rw [Nat.add_mul, Nat.one_mul]
      omega
  unfold encB
  rw [List.length_append, beB_length]
  omega
theorem encPfs_len {l : List Pf} (hn : l.length ≤ 80) (h : ∀ p ∈ l, fewP p = true) : (encPfs l).length ≤ 354000 := by
  have : ∀ l : List Pf, (∀ p ∈ l, fewP p = true) → (encAll encPf l).length ≤ l.length * 4412 := fun l => by
    induction l with
    | nil => intro _; simp [encAll]
    | cons p l ih =>
      intro h
      have h2 := ih (fun z hz => h z (List.mem_cons_of_mem _ hz))
      obtain ⟨h3, h4⟩ := fewP_low (h p (List.mem_cons_self ..))
      have h5 := encB_len18 h4
      simp only [encAll, List.length_append, List.length_cons, encPf_len]
      rw [Nat.add_mul, Nat.one_mul]
      omega
  have h9 := this l h
  have h8 : l.length * 4412 ≤ 80 * 4412 := Nat.mul_le_mul hn (Nat.le_refl _)
  unfold encPfs
  rw [List.length_append, beB_length]
  omega
theorem encPos_len {l : List Po} (hn : l.length ≤ 20) (h : ∀ p ∈ l, p.dg.length = 32) : (encPos l).length ≤ 900 := by
  have : ∀ l : List Po, (∀ p ∈ l, p.dg.length = 32) → (encAll encPo l).length = l.length * 40 := fun l => by
    induction l with
    | nil => intro _; simp [encAll]
    | cons p l ih =>
      intro h
      have h2 := ih (fun z hz => h z (List.mem_cons_of_mem _ hz))
      have h3 := h p (List.mem_cons_self ..)
      simp only [encAll, List.length_append, List.length_cons, encPo, beB_length, h2, h3]
      omega
  unfold encPos
  rw [List.length_append, beB_length, this l h]
  omega
theorem encCh_len {c : Ch} (h : fewCh c = true) (hd : ∀ p ∈ c.po, p.dg.length = 32) : (encCh c).length ≤ 800000 := by
  obtain ⟨h1, h2, h3⟩ := fewCh_low h
  have a := encPos_len h3 hd
  have b := encPfs_len h1.1 h1.2
  have d := encPfs_len h2.1 h2.2
  unfold encCh
  simp only [List.length_append, beB_length]
  omega
theorem Low.of_few {p : Pf} (h : fewP p = true) : p.Low := by
  obtain ⟨h1, h2⟩ := fewP_low h
  exact ⟨by omega, fun y hy => by have := h2 y hy; omega⟩

def FixedC : Prop := ∀ w : World, Calls Try.prog 8 #[] w fun e w' => e = .returned (.bool true) ∧ Below w.heap.size w w'
def BytesCW : Prop := ∀ (c : Ch) (P Q R : Pl) (w : World), ChIn w P Q R c → fewCh c = true → Calls Try.prog 10 #[.agg (Ch.cells c P Q R).toArray] w (Byt w (encCh c))
def CheckCW : Prop := ∀ (c : Ch) (P Q R : Pl) (N : Int) (w : World), ChIn w P Q R c → fewCh c = true → Calls Try.prog 11 #[.agg (Ch.cells c P Q R).toArray, .int .i64 N] w fun e w' => e = .returned (.int .i64 (chkCh c N)) ∧ Below w.heap.size w w'
def SameCW : Prop := ∀ (a b : Ch) (P Q R P' Q' R' : Pl) (w : World), ChIn w P Q R a → ChIn w P' Q' R' b → fewCh a = true → fewCh b = true → Calls Try.prog 18 #[.agg (Ch.cells a P Q R).toArray, .agg (Ch.cells b P' Q' R').toArray] w fun e w' => e = .returned (.bool (a.eqb b)) ∧ Below w.heap.size w w'
theorem one5h (c : Ch) (P Q R : Pl) : (Ch.cells c P Q R).toArray.all (·.oneCell') = true := by simp [Ch.cells, Value.oneCell']

end Go.Proofs.Ytheecifgbkdecaa

namespace Go.Proofs.Ytheecifgbkdecaa
open Go.RowKit

theorem wpList_build_two {P : Program} {ops : Array Oper} {rest : List Oper} {o : Oper} {a : Act} {w : World} {Q : Exit → Act → World → Prop} (hgd : o.guard = none) (s e : TypeId) (x0 x1 : Operand) (ho : o.op = .buildSlice s 2 #[(0, x0), (1, x1)])
    (p0 p1 : Value) (cs : List Value) (h0 : a.eval x0 = p0) (h1 : a.eval x1 = p1)
    (hrun : (Instr.buildSlice s 2 #[(0, p0), (1, p1)]).run P w = .ok (.slice (some ⟨w.heap.size, 0, none⟩) 2 2) (w.alloc (.cells cs.toArray e)))
    (h : ∀ g w', Blk w' g e cs → Below w.heap.size w w' → wpList P ops Q rest (a.put o.dst (.slice (some ⟨g, 0, none⟩) 2 2)) w') : wpList P ops Q (o :: rest) a w :=
  wpList_plain hgd fun K hK => by
    unfold Oper.wp execOp
    simp only [ho, Sem.run_bind, List.map_toArray, List.map_cons, List.map_nil, h0, h1, hrun, Result.andThen_ok]
    exact hK _ _ (h _ _ (Blk.fresh rfl rfl) ((Below.refl _ w).alloc (Nat.le_refl _) _))

theorem Try.run_bpfs2 (A : Option Addr) (n c : Nat) (B : Option Addr) (m d : Nat) (w : World) : (Instr.buildSlice 56 2 #[(0, .slice A n c), (1, .slice B m d)]).run Try.prog w = .ok (.slice (some ⟨w.heap.size, 0, none⟩) 2 2) (w.alloc (.cells [.slice A n c, .slice B m d].toArray 23)) := by kernel_rfl
theorem Try.ix_pfss0 (W : World) (g : Nat) : (Instr.indexAt 56 (.slice (some ⟨g, 0, none⟩) 2 2) (.int .i64 0)).run Try.prog W = .ok (.pointer (some ⟨g, 0, none⟩)) W := by kernel_rfl
theorem Try.ix_pfss1 (W : World) (g : Nat) : (Instr.indexAt 56 (.slice (some ⟨g, 0, none⟩) 2 2) (.int .i64 1)).run Try.prog W = .ok (.pointer (some ⟨g, 1, none⟩)) W := by kernel_rfl
/-- the rows of which the law asks -/
def rowsOf (c : Ch) (Q R : Pl) : List (Pl × List Pf) := [(Q, c.pp), (R, c.pd)]
def fewRs (l : List (Pl × List Pf)) : Bool := l.all (fun x => fewPs x.2)

set_option maxHeartbeats 32000000 in
set_option maxRecDepth 100000 in
theorem few18_any (c : Ch) (P Q R : Pl) (w : World) (h : ChIn w P Q R c) :
    Calls Try.prog 9 #[.agg (Ch.cells c P Q R).toArray] w fun e w' => e = .returned (.bool (fewCh c)) ∧ Below w.heap.size w w' := by
  obtain ⟨bb, hbb⟩ : ∃ b, fewCh c = b := ⟨_, rfl⟩
  rw [hbb]
  have HB1 : Hid (bb = (fewRs ((rowsOf c Q R).drop 0) && decide (P.2.1 ≤ 20))) := Lib.hid (by rw [← hbb, ← h.1.1.len]; unfold fewCh fewRs rowsOf; simp)
  have HK : Hid (Blk (w.alloc (.cells (Ch.cells c P Q R).toArray 25)) w.heap.size 25 (Ch.cells c P Q R)) := Lib.hid (Blk.fresh rfl rfl)
  have HX0 : Hid (Below w.heap.size w (w.alloc (.cells (Ch.cells c P Q R).toArray 25))) := Lib.hid (below1_ w _)
  have HRow : Hid (∀ x ∈ rowsOf c Q R, PfsIn w x.1.1 x.1.2.1 x.2) := Lib.hid (fun x hx => by
    unfold rowsOf at hx
    simp only [List.mem_cons, List.not_mem_nil, or_false] at hx
    rcases hx with rfl | rfl
    · exact h.2.1.1
    · exact h.2.2.1)
  have HMx : Hid (∀ x ∈ rowsOf c Q R, x.1.2.1 ≤ 9223372036854775807) := Lib.hid (fun x hx => by
    unfold rowsOf at hx
    simp only [List.mem_cons, List.not_mem_nil, or_false] at hx
    rcases hx with rfl | rfl
    · have h9 := h.2.1.2; simp only [maxLen] at h9; simp only; omega
    · have h9 := h.2.2.2; simp only [maxLen] at h9; simp only; omega)
  have HEs : Hid (∀ x ∈ rowsOf c Q R, ∀ p ∈ x.2, p.es.length ≤ 9223372036854775807) := Lib.hid (fun x hx => (HRow.out x hx).es_len)
  have k3 := HK.out.cellAt (i := 3) rfl
  have k4 := HK.out.cellAt (i := 4) rfl
  clear h hbb
  go_enter Try.func9, Try.ntmps9
  go_wp2_with (first
    | (refine wpList_build_two rfl 56 23 (.tmp 10) (.tmp 12) rfl (.slice Q.1 Q.2.1 Q.2.2) (.slice R.1 R.2.1 R.2.2) [.slice Q.1 Q.2.1 Q.2.2, .slice R.1 R.2.1 R.2.2] rfl rfl (Try.run_bpfs2 _ _ _ _ _ _ _) ?_; intro gS w1 hbS hb1; have HS1 := Lib.hid hbS; have HK1 := Lib.hid (HK.out.through hb1); have HX1 := Lib.hid (below_step HX0.out hb1); clear hbS hb1))
  clear k3 k4
  go_loopw [15] (fun iv wr => ∃ i : Nat, i ≤ 2 ∧ iv = .int .i64 (i : Int) ∧ bb = (fewRs ((rowsOf c Q R).drop i) && decide (P.2.1 ≤ 20)) ∧ Blk wr w.heap.size 25 (Ch.cells c P Q R) ∧ Blk wr gS 23 [.slice Q.1 Q.2.1 Q.2.2, .slice R.1 R.2.1 R.2.2] ∧ Below w.heap.size w wr) (fun iv _ => 2 - (intOf iv).toNat)
  case atStart => exact ⟨0, by omega, rfl, HB1.out, HK1.out, HS1.out, HX1.out⟩
  case round =>
    obtain ⟨i, hi, rfl, hq, hkk, hss, hx⟩ := hrel
    have HKr := Lib.hid hkk
    have HSr := Lib.hid hss
    have HXr := Lib.hid hx
    clear hkk hss hx
    by_cases hlt : i < 2
    · have dl2 : decide ((i : Int) < 2) = true := by simp; omega
      obtain ⟨S, ps, hmem, hrow, hix, hcell⟩ : ∃ (S : Pl) (ps : List Pf), (S, ps) ∈ rowsOf c Q R ∧ (rowsOf c Q R).drop i = (S, ps) :: (rowsOf c Q R).drop (i + 1) ∧ (∀ W : World, (Instr.indexAt 56 (.slice (some ⟨gS, 0, none⟩) 2 2) (.int .i64 (i : Int))).run Try.prog W = .ok (.pointer (some ⟨gS, i, none⟩)) W) ∧ wr.cell? ⟨gS, i, none⟩ = some (.slice S.1 S.2.1 S.2.2) := by
        match i, hlt with
        | 0, _ => exact ⟨Q, c.pp, by simp [rowsOf], rfl, fun W => Try.ix_pfss0 W gS, HSr.out.cellAt (i := 0) rfl⟩
        | 1, _ => exact ⟨R, c.pd, by simp [rowsOf], rfl, fun W => Try.ix_pfss1 W gS, HSr.out.cellAt (i := 1) rfl⟩
      have HPs := Lib.hid (HRow.out _ hmem)
      have hsm : S.2.1 ≤ 9223372036854775807 := HMx.out _ hmem
      have HEp := Lib.hid (HEs.out _ hmem)
      have HLn : Hid (ps.length = S.2.1) := Lib.hid HPs.out.len
      rw [hrow] at hq
      have hq2 : bb = (fewPs ps && (fewRs ((rowsOf c Q R).drop (i + 1)) && decide (P.2.1 ≤ 20))) := by rw [hq]; simp [fewRs, Bool.and_assoc]
      have Hlt := Lib.hid hlt
      clear hq hrow hmem
      by_cases s8 : 80 < S.2.1
      · have d8 : decide ((80 : Int) < (S.2.1 : Int)) = true := by simp; omega
        have HF : Hid (bb = false) := Lib.hid (by rw [hq2]; have h9 : decide (ps.length ≤ 80) = false := (by rw [HLn.out]; simpa using s8); simp [fewPs, h9])
        clear hq2 s8 hlt
        go_wp2
        go_ret
        exact ⟨ret_bo HF.out.symm, HXr.out⟩
      have d8 : decide ((80 : Int) < (S.2.1 : Int)) = false := by simp; omega
      obtain ⟨TT, hTT⟩ : ∃ T, (fewRs ((rowsOf c Q R).drop (i + 1)) && decide (P.2.1 ≤ 20)) = T := ⟨_, rfl⟩
      have HT := Lib.hid hTT
      rw [hTT] at hq2
      have HQ2 : Hid (bb = ((ps.drop 0).all fewP && TT)) := Lib.hid (by rw [hq2]; have h9 : decide (ps.length ≤ 80) = true := (by rw [HLn.out]; simp; omega); simp [fewPs, h9])
      clear hq2 hTT s8 hlt
      go_wp2
      clear hcell hix d8 dl2
      go_loopw [24] (fun jv wr => ∃ j : Nat, j ≤ S.2.1 ∧ jv = .int .i64 (j : Int) ∧ bb = ((ps.drop j).all fewP && TT) ∧ Blk wr w.heap.size 25 (Ch.cells c P Q R) ∧ Blk wr gS 23 [.slice Q.1 Q.2.1 Q.2.2, .slice R.1 R.2.1 R.2.2] ∧ Below w.heap.size w wr) (fun jv _ => S.2.1 - (intOf jv).toNat)
      case atStart => exact ⟨0, Nat.zero_le _, rfl, HQ2.out, HKr.out, HSr.out, HXr.out⟩
      case round =>
        obtain ⟨j, hj, rfl, hq, hkk, hss, hx⟩ := hrel
        have HKs := Lib.hid hkk
        have HSs := Lib.hid hss
        have HXs := Lib.hid hx
        clear hkk hss hx
        by_cases hltj : j < S.2.1
        · obtain ⟨g, o, p, B, m, dd, hS1, hpj, hpm, hd, hrx, hex, hmd, hdm⟩ := (HPs.out.through HXs.out).at hltj
          rw [hd] at hq
          have HRx := Lib.hid hrx
          have HEx := Lib.hid hex
          have hix : ∀ W, (Instr.indexAt 23 (.slice S.1 S.2.1 S.2.2) (.int .i64 (j : Int))).run Try.prog W = .ok (.pointer (some ⟨g, o + j * 3, none⟩)) W := fun W => by rw [hS1]; exact Try.ix_pf W g o S.2.1 S.2.2 j hltj
          have HBx : Hid (Blk (wr.alloc (.cells #[.int .i64 p.sq, .int .i64 p.vw, .slice B m dd] 55)) wr.heap.size 55 [.int .i64 p.sq, .int .i64 p.vw, .slice B m dd]) := Lib.hid (Blk.fresh rfl rfl)
          have b2 := HBx.out.cellAt (i := 2) rfl
          have HLm : Hid (p.es.length = m) := Lib.hid hex.len
          have hmx : m ≤ 9223372036854775807 := by rw [← hex.len]; exact HEp.out p hpm
          have HXa : Hid (Below w.heap.size w (wr.alloc (.cells #[.int .i64 p.sq, .int .i64 p.vw, .slice B m dd] 55))) := Lib.hid (HXs.out.alloc HXs.out.size _)
          have HKa : Hid (Blk (wr.alloc (.cells #[.int .i64 p.sq, .int .i64 p.vw, .slice B m dd] 55)) w.heap.size 25 (Ch.cells c P Q R)) := Lib.hid (HKs.out.alloc _)
          have HSa : Hid (Blk (wr.alloc (.cells #[.int .i64 p.sq, .int .i64 p.vw, .slice B m dd] 55)) gS 23 [.slice Q.1 Q.2.1 Q.2.2, .slice R.1 R.2.1 R.2.2]) := Lib.hid (HSs.out.alloc _)
          have HEa : Hid (EysIn (wr.alloc (.cells #[.int .i64 p.sq, .int .i64 p.vw, .slice B m dd] 55)) B m p.es) := Lib.hid (HEx.out.through (below1_ wr _))
          have hq2 : bb = (fewP p && ((ps.drop (j + 1)).all fewP && TT)) := by rw [hq]; simp [Bool.and_assoc]
          have Hltj := Lib.hid hltj
          clear hq hd hrx hex hpj hpm hS1 hmd hdm
          by_cases s10 : 10 < m
          · have d10 : decide ((10 : Int) < (m : Int)) = true := by simp; omega
            have HF : Hid (bb = false) := Lib.hid (by rw [hq2]; have h9 : decide (p.es.length ≤ 10) = false := (by rw [HLm.out]; simpa using s10); simp [fewP, h9])
            clear hq2 s10 hltj
            go_wp2_with (first
              | (refine wpList_load_mid rfl 55 (.tmp 26) rfl g (o + j * 3) rfl [.int .i64 p.sq, .int .i64 p.vw, .slice B m dd] _ HRx.out Try.underlying55 rfl (by kernel_rfl) ?_))
            go_ret
            exact ⟨ret_bo HF.out.symm, HXa.out⟩
          have d10 : decide ((10 : Int) < (m : Int)) = false := by simp; omega
          obtain ⟨UU, hUU⟩ : ∃ U, ((ps.drop (j + 1)).all fewP && TT) = U := ⟨_, rfl⟩
          have HU := Lib.hid hUU
          rw [hUU] at hq2
          have HQ3 : Hid (bb = ((p.es.drop 0).all fewE && UU)) := Lib.hid (by rw [hq2]; have h9 : decide (p.es.length ≤ 10) = true := (by rw [HLm.out]; simp; omega); simp [fewP, h9])
          clear hq2 hUU s10 hltj
          go_wp2_with (first
            | (refine wpList_load_mid rfl 55 (.tmp 26) rfl g (o + j * 3) rfl [.int .i64 p.sq, .int .i64 p.vw, .slice B m dd] _ HRx.out Try.underlying55 rfl (by kernel_rfl) ?_))
          clear b2 hix d10
          go_loopw [35] (fun kv wr => ∃ k : Nat, k ≤ m ∧ kv = .int .i64 (k : Int) ∧ bb = ((p.es.drop k).all fewE && UU) ∧ Blk wr w.heap.size 25 (Ch.cells c P Q R) ∧ Blk wr gS 23 [.slice Q.1 Q.2.1 Q.2.2, .slice R.1 R.2.1 R.2.2] ∧ Below w.heap.size w wr ∧ EysIn wr B m p.es) (fun kv _ => m - (intOf kv).toNat)
          case atStart => exact ⟨0, Nat.zero_le _, rfl, HQ3.out, HKa.out, HSa.out, HXa.out, HEa.out⟩
          case round =>
            obtain ⟨k, hk, rfl, hq, hkk, hss, hx, hey⟩ := hrel
            have HKt := Lib.hid hkk
            have HSt := Lib.hid hss
            have HXt := Lib.hid hx
            have HEt := Lib.hid hey
            clear hkk hss hx hey
            by_cases hltk : k < m
            · obtain ⟨g2, o2, y, rfl, _, _, hd, hry⟩ := HEt.out.at hltk
              rw [hd] at hq
              have HRy := Lib.hid hry
              have hix := Try.ix_ey wr g2 o2 m dd k hltk
              have hq2 : bb = (fewE y && ((p.es.drop (k + 1)).all fewE && UU)) := by rw [hq]; simp [Bool.and_assoc]
              have HXu : Hid (Below w.heap.size w (wr.alloc (.cells #[.int .i64 y.co.cl, .int .i64 y.co.sp, .int .i64 y.co.op, .string (ba y.co.lt), .int .i64 y.co.a, .int .i64 y.co.b, .string (ba y.co.tx), .int .u32 (y.ms : Int)] 61))) := Lib.hid (HXt.out.alloc HXt.out.size _)
              clear hq hd hry
              by_cases h1 : y.co.lt.length ≤ 100
              case neg =>
                have d1 : decide ((100 : Int) < (y.co.lt.length : Int)) = true := by simp; omega
                have HF : Hid (bb = false) := Lib.hid (by rw [hq2]; simp [fewE, h1])
                have hsz := ba_size
                clear hq2 h1
                go_wp2_with (first
                  | go_big_skip
                  | (refine wpList_load_mid rfl 61 (.tmp 37) rfl g2 (o2 + k * 8) rfl [.int .i64 y.co.cl, .int .i64 y.co.sp, .int .i64 y.co.op, .string (ba y.co.lt), .int .i64 y.co.a, .int .i64 y.co.b, .string (ba y.co.tx), .int .u32 (y.ms : Int)] _ HRy.out Try.underlying61 rfl (by kernel_rfl) ?_))
                go_ret
                exact ⟨ret_bo HF.out.symm, HXu.out⟩
              have d1 : decide ((100 : Int) < (y.co.lt.length : Int)) = false := by simp; omega
              by_cases h2 : y.co.tx.length ≤ 300
              case neg =>
                have d2 : decide ((300 : Int) < (y.co.tx.length : Int)) = true := by simp; omega
                have HF : Hid (bb = false) := Lib.hid (by rw [hq2]; simp [fewE, h2])
                have hsz := ba_size
                clear hq2 h1 h2
                go_wp2_with (first
                  | go_big_skip
                  | (refine wpList_load_mid rfl 61 (.tmp 37) rfl g2 (o2 + k * 8) rfl [.int .i64 y.co.cl, .int .i64 y.co.sp, .int .i64 y.co.op, .string (ba y.co.lt), .int .i64 y.co.a, .int .i64 y.co.b, .string (ba y.co.tx), .int .u32 (y.ms : Int)] _ HRy.out Try.underlying61 rfl (by kernel_rfl) ?_))
                go_ret
                exact ⟨ret_bo HF.out.symm, HXu.out⟩
              have d2 : decide ((300 : Int) < (y.co.tx.length : Int)) = false := by simp; omega
              have HQ4 : Hid (bb = ((p.es.drop (k + 1)).all fewE && UU)) := Lib.hid (by rw [hq2]; simp [fewE, h1, h2])
              have HKu := Lib.hid (HKt.out.alloc (.cells #[.int .i64 y.co.cl, .int .i64 y.co.sp, .int .i64 y.co.op, .string (ba y.co.lt), .int .i64 y.co.a, .int .i64 y.co.b, .string (ba y.co.tx), .int .u32 (y.ms : Int)] 61))
              have HSu := Lib.hid (HSt.out.alloc (.cells #[.int .i64 y.co.cl, .int .i64 y.co.sp, .int .i64 y.co.op, .string (ba y.co.lt), .int .i64 y.co.a, .int .i64 y.co.b, .string (ba y.co.tx), .int .u32 (y.ms : Int)] 61))
              have HEu := Lib.hid (HEt.out.alloc (.cells #[.int .i64 y.co.cl, .int .i64 y.co.sp, .int .i64 y.co.op, .string (ba y.co.lt), .int .i64 y.co.a, .int .i64 y.co.b, .string (ba y.co.tx), .int .u32 (y.ms : Int)] 61))
              have hsz := ba_size
              clear hq2 h1 h2
              go_wp2_with (first
                | go_big_skip
                | (refine wpList_load_mid rfl 61 (.tmp 37) rfl g2 (o2 + k * 8) rfl [.int .i64 y.co.cl, .int .i64 y.co.sp, .int .i64 y.co.op, .string (ba y.co.lt), .int .i64 y.co.a, .int .i64 y.co.b, .string (ba y.co.tx), .int .u32 (y.ms : Int)] _ HRy.out Try.underlying61 rfl (by kernel_rfl) ?_))
              go_roundw
              case rel => exact ⟨k + 1, by omega, by go_num, HQ4.out, HKu.out, HSu.out, HXu.out, HEu.out⟩
              case measure => simp [intOf]; omega
            · have hkm : k = m := by omega
              have HQ4 : Hid (bb = ((ps.drop (j + 1)).all fewP && TT)) := Lib.hid (by rw [hq, List.drop_of_length_le (by rw [HLm.out]; omega), HU.out]; rfl)
              clear hq
              subst hkm
              have hltj := Hltj.out
              go_wp2
              go_roundw
              case rel => exact ⟨j + 1, by omega, by go_num, HQ4.out, HKt.out, HSt.out, HXt.out⟩
              case measure => simp [intOf]; omega
        · have HQ4 : Hid (bb = (fewRs ((rowsOf c Q R).drop (i + 1)) && decide (P.2.1 ≤ 20))) := Lib.hid (by rw [hq, List.drop_of_length_le (by rw [HLn.out]; omega), HT.out]; rfl)
          clear hq
          have hlt := Hlt.out
          go_wp2
          go_roundw
          case rel => exact ⟨i + 1, by omega, by go_num, HQ4.out, HKs.out, HSs.out, HXs.out⟩
          case measure => simp [intOf]; omega
    · have hi2 : i = 2 := by omega
      have dl2 : decide ((i : Int) < 2) = false := by simp; omega
      have HF : Hid (bb = decide (P.2.1 ≤ 20)) := Lib.hid (by rw [hq, hi2]; rfl)
      clear hi2
      have k2 := HKr.out.cellAt (i := 2) rfl
      clear hq
      go_wp2
      go_ret
      exact ⟨ret_bo (by rw [HF.out, Bool.eq_iff_iff]; simp; omega), HXr.out⟩

end Go.Proofs.Ytheecifgbkdecaa
