/-
  ChW ClF
-/
import Derived.Test.YtheecifgbkdecaaSD22
import Derived.Test.YtheecifgbkdecaaSD26
namespace Go.Proofs.Ytheecifgbkdecaa
open Go.RowKit
section
variable {w w' : World} {B B' : Nat}
theorem ChOwn.off {P Q R : Pl} {C : Ch} {g : Nat} (h : ChOwn w B P Q R C) (hg : w.grownBy w' (some g)) (hl : g < B) : ChOwn w' B P Q R C := ⟨h.1.off hg hl, h.2.1.off hg hl, h.2.2.off hg hl⟩
theorem ChOwn.through {P Q R : Pl} {C : Ch} (h : ChOwn w B P Q R C) (hb : Below w.heap.size w w') : ChOwn w' B P Q R C := ⟨h.1.through hb, h.2.1.through hb, h.2.2.through hb⟩
theorem ChOwn.weak {P Q R : Pl} {C : Ch} (h : ChOwn w B P Q R C) (hB : B' ≤ B) : ChOwn w B' P Q R C := ⟨h.1.weak hB, h.2.1.weak hB, h.2.2.weak hB⟩
end

end Go.Proofs.Ytheecifgbkdecaa

namespace Go.Proofs.Ytheecifgbkdecaa
open Go.RowKit
theorem Sl.one_ {w : World} {k g : Nat} {e : TypeId} {q : List Value} (h : Blk w g e q) : Sl w k (some ⟨g, 0, none⟩) 1 [q] :=
  ⟨rfl, fun _ => ⟨g, 0, rfl, fun i cs hi => by
    cases i with
    | zero =>
      simp at hi
      subst hi
      intro j u hu
      have := h.cellAt hu
      simpa using this
    | succ i => simp at hi⟩⟩

theorem wpList_build_one {P : Program} {ops : Array Oper} {rest : List Oper} {o : Oper} {a : Act} {w : World} {Q : Exit → Act → World → Prop} (hgd : o.guard = none) (s e : TypeId) (x0 : Operand) (ho : o.op = .buildSlice s 1 #[(0, x0)])
    (p0 : Value) (cs : List Value) (h0 : a.eval x0 = p0)
    (hrun : (Instr.buildSlice s 1 #[(0, p0)]).run P w = .ok (.slice (some ⟨w.heap.size, 0, none⟩) 1 1) (w.alloc (.cells cs.toArray e)))
    (h : ∀ g w', g = w.heap.size → Blk w' g e cs → Below w.heap.size w w' → wpList P ops Q rest (a.put o.dst (.slice (some ⟨g, 0, none⟩) 1 1)) w') : wpList P ops Q (o :: rest) a w :=
  wpList_plain hgd fun K hK => by
    unfold Oper.wp execOp
    simp only [ho, Sem.run_bind, List.map_toArray, List.map_cons, List.map_nil, h0, hrun, Result.andThen_ok]
    exact hK _ _ (h _ _ rfl (Blk.fresh rfl rfl) ((Below.refl _ w).alloc (Nat.le_refl _) _))
def po0 : Po := ⟨0, List.replicate 32 0⟩
def pf9 : Pf := ⟨9, 0, []⟩
def c0 : Ch := ⟨1, 0, [po0], [], []⟩
def c1 : Ch := ⟨1, 0, [po0], [pf9], []⟩
theorem few_c0 : fewCh c0 = true := by kernel_rfl
theorem few_c1 : fewCh c1 = true := by kernel_rfl
theorem chk_c0 : chkCh c0 4 = 0 := by kernel_rfl
theorem chk_c1 : chkCh c1 4 = 2 := by kernel_rfl
theorem enc_c0 : (encCh c0).length = 62 := by kernel_rfl
theorem par_c0 : parseCh (encCh c0) 4 = (c0, 0) := parse18_back few_c0 ⟨by simp [c0, In64], by simp [c0, In64], fun p hp => by simp [c0, po0] at hp; subst hp; simp [In64], fun p hp => by simp [c0] at hp, fun p hp => by simp [c0] at hp⟩ (fun p hp => by simp [c0, po0] at hp; subst hp; rfl) chk_c0
theorem c0_in {W : World} {gp : Nat} (h : Blk W gp 52 (Po.cells po0)) : ChIn W (some ⟨gp, 0, none⟩, 1, 1) (none, 0, 0) (none, 0, 0) c0 :=
  ⟨⟨⟨Sl.one_ h, fun p hp => by simp [c0, po0] at hp; subst hp; rfl⟩, Nat.le_refl _, by simp [maxLen]⟩, ⟨PfsIn.none_, Nat.le_refl _, by simp [maxLen]⟩, ⟨PfsIn.none_, Nat.le_refl _, by simp [maxLen]⟩⟩
theorem c1_in {W : World} {gp gq : Nat} (h : Blk W gp 52 (Po.cells po0)) (hq : Blk W gq 55 (pfC pf9 (none, 0, 0))) : ChIn W (some ⟨gp, 0, none⟩, 1, 1) (some ⟨gq, 0, none⟩, 1, 1) (none, 0, 0) c1 :=
  ⟨(c0_in h).1, ⟨⟨[(none, 0, 0)], Sl.one_ hq, ⟨⟨EysIn.none_, Nat.le_refl _, by simp [maxLen]⟩, trivial⟩⟩, Nat.le_refl _, by simp [maxLen]⟩, ⟨PfsIn.none_, Nat.le_refl _, by simp [maxLen]⟩⟩
theorem Try.build_po0 (w : World) : (Instr.build 52 #[]).run Try.prog w = .ok (.agg (Po.cells po0).toArray) w := by kernel_rfl
theorem Try.bs_po0 (w : World) : (Instr.buildSlice 22 1 #[(0, .agg (Po.cells po0).toArray)]).run Try.prog w = .ok (.slice (some ⟨w.heap.size, 0, none⟩) 1 1) (w.alloc (.cells (Po.cells po0).toArray 52)) := by kernel_rfl
theorem Try.build_c0 (gp : Nat) (w : World) : (Instr.build 25 #[(0, .int .i64 1), (2, .slice (some ⟨gp, 0, none⟩) 1 1)]).run Try.prog w = .ok (.agg (Ch.cells c0 (some ⟨gp, 0, none⟩, 1, 1) (none, 0, 0) (none, 0, 0)).toArray) w := by kernel_rfl
theorem Try.build_pf9 (w : World) : (Instr.build 55 #[(0, .int .i64 9)]).run Try.prog w = .ok (.agg (pfC pf9 (none, 0, 0)).toArray) w := by kernel_rfl
theorem Try.bs_pf9 (w : World) : (Instr.buildSlice 23 1 #[(0, .agg (pfC pf9 (none, 0, 0)).toArray)]).run Try.prog w = .ok (.slice (some ⟨w.heap.size, 0, none⟩) 1 1) (w.alloc (.cells (pfC pf9 (none, 0, 0)).toArray 55)) := by kernel_rfl
theorem Try.sz_pfs (w : World) : (sizeOf 23).run Try.prog w = .ok 1 w := by kernel_rfl
theorem ChOwn.inn {w : World} {B : Nat} {P Q R : Pl} {C : Ch} (h : ChOwn w B P Q R C) : ChIn w P Q R C := chin_of h.1 h.2.1 h.2.2
/-- the program's Parse tells rows of its own -/
def ParseCO : Prop := ∀ (xs : List UInt8) (N : Int) (A : Option Addr) (n c : Nat) (w : World), By w (fun _ => True) A n xs → n ≤ c → c ≤ maxLen → n ≤ 1000000 → Calls Try.prog 14 #[.slice A n c, .int .i64 N] w (ChOutO w (parseCh xs N).1 (parseCh xs N).2)

set_option maxHeartbeats 32000000 in
set_option maxRecDepth 100000 in
theorem fixed18_of (h1 : ParseCO) (h2 : BytesCW) (h3 : CheckCW) : FixedC := by
  intro w
  obtain ⟨EB, hEB⟩ : ∃ E, encCh c0 = E := ⟨_, rfl⟩
  have HEL : Hid (EB.length = 62) := Lib.hid (by rw [← hEB]; exact enc_c0)
  have HB0 : Hid (∀ (P Q R : Pl) (W : World), ChIn W P Q R c0 → Calls Try.prog 10 #[.agg (Ch.cells c0 P Q R).toArray] W (Byt W EB)) := Lib.hid (fun P Q R W h => hEB ▸ h2 c0 P Q R W h few_c0)
  have HPp : Hid (∀ (A : Option Addr) (n c : Nat) (W : World), By W (fun _ => True) A n EB → n ≤ c → c ≤ maxLen → Calls Try.prog 14 #[.slice A n c, .int .i64 4] W (ChOutO W c0 0)) := Lib.hid (fun A n c W h7 h8 h9 => by
    have h6 := h1 EB 4 A n c W h7 h8 h9 (by rw [← h7.len, HEL.out]; omega)
    rw [← hEB, par_c0] at h6
    exact h6)
  have HK0 : Hid (∀ (P Q R : Pl) (W : World), ChIn W P Q R c0 → Calls Try.prog 11 #[.agg (Ch.cells c0 P Q R).toArray, .int .i64 4] W fun e w' => e = .returned (.int .i64 0) ∧ Below W.heap.size W w') := Lib.hid (fun P Q R W h => by have h6 := h3 c0 P Q R 4 W h few_c0; rw [chk_c0] at h6; exact h6)
  have HK1 : Hid (∀ (P Q R : Pl) (W : World), ChIn W P Q R c1 → Calls Try.prog 11 #[.agg (Ch.cells c1 P Q R).toArray, .int .i64 4] W fun e w' => e = .returned (.int .i64 2) ∧ Below W.heap.size W w') := Lib.hid (fun P Q R W h => by have h6 := h3 c1 P Q R 4 W h few_c1; rw [chk_c1] at h6; exact h6)
  have hbp := Try.build_po0
  have hbq := Try.bs_po0
  have hbc := Try.build_c0
  have hbf := Try.build_pf9
  have hbg := Try.bs_pf9
  have hsf := Try.sz_pfs
  clear h1 h2 h3 hEB
  go_enter Try.func8, Try.ntmps8
  go_wp2_with (first
    | go_big_skip
    | (refine wpList_build_to rfl 52 [] rfl [] rfl (.agg (Po.cells po0).toArray) (hbp _) ?_)
    | (refine wpList_build_one rfl 22 52 (.tmp 4) rfl (.agg (Po.cells po0).toArray) (Po.cells po0) rfl (hbq _) ?_; intro gp w1 hgp hbP hb1; have HLp : Hid (gp < w1.heap.size) := Lib.hid hbP.lt; have HP1 := Lib.hid hbP; have HX1 : Hid (Below w.heap.size w w1) := Lib.hid (below_step (Below.refl _ w) hb1); clear hgp hbP hb1)
    | (refine wpList_build_to rfl 25 _ rfl [(0, .int .i64 1), (2, .slice (some ⟨gp, 0, none⟩) 1 1)] rfl (.agg (Ch.cells c0 (some ⟨gp, 0, none⟩, 1, 1) (none, 0, 0) (none, 0, 0)).toArray) (hbc gp _) ?_)
    | (refine wpList_store_blk rfl 25 (.tmp 1) (.tmp 6) rfl w1.heap.size (Ch.cells c0 (some ⟨gp, 0, none⟩, 1, 1) (none, 0, 0) (none, 0, 0)) rfl rfl 25 [.int .i64 0, .int .i64 0, .slice none 0 0, .slice none 0 0, .slice none 0 0] (Blk.fresh rfl rfl) (by kernel_rfl) rfl (one5h _ _ _ _) ?_; intro u1 hbb1 hg1; have HG1 := Lib.hid hbb1; have HU1 := Lib.hid (below_step HX1.out (below_new hg1)); have HPu1 := Lib.hid (HP1.out.through (below_new hg1)); clear hbb1 hg1)
    | (refine wpList_load_blk rfl 25 (.tmp 1) rfl w1.heap.size rfl 25 (Ch.cells c0 (some ⟨gp, 0, none⟩, 1, 1) (none, 0, 0) (none, 0, 0)) _ HG1.out Try.underlying25 rfl (by kernel_rfl) ?_)
    | (go_at_call 10; (with_reducible refine (HB0.out _ _ _ _ (c0_in HPu1.out)).mono ?_); rintro e w2 ⟨T2, m2, d2, rfl, hy2, hn2, hc2, hb2⟩; have HY2 := Lib.hid hy2; have HN2 := Lib.hid (And.intro hn2 hc2); have HX2 := Lib.hid (below_step HU1.out hb2); have HG2 := Lib.hid (HG1.out.through hb2); have HP2 := Lib.hid (HPu1.out.through hb2); clear hy2 hn2 hc2 hb2)
    | (go_at_call 14; (with_reducible refine (HPp.out _ _ _ _ HY2.out HN2.out.1 HN2.out.2).mono ?_); rintro e w3 ⟨P3, Q3, R3, rfl, hi3, hb3⟩; have HI3 := Lib.hid (hi3.weak (Nat.succ_le_of_lt HG2.out.lt)); have HX3 := Lib.hid (below_step HX2.out hb3); have HG3 := Lib.hid (HG2.out.through hb3); have HP3 := Lib.hid (HP2.out.through hb3); clear hi3 hb3)
    | (refine wpList_store_blk rfl 25 (.tmp 2) (.tmp 11) rfl w3.heap.size (Ch.cells c0 P3 Q3 R3) rfl rfl 25 [.int .i64 0, .int .i64 0, .slice none 0 0, .slice none 0 0, .slice none 0 0] (Blk.fresh rfl rfl) (by kernel_rfl) rfl (one5h _ _ _ _) ?_; intro u3 hbb3 hg3; have HD3 := Lib.hid hbb3; have HU3 := Lib.hid (below_step HX3.out (below_new hg3)); have HGu3 := Lib.hid (HG3.out.through (below_new hg3)); have HPu3 := Lib.hid (HP3.out.through (below_new hg3)); have HIu3 := Lib.hid (HI3.out.through (below_new hg3)); clear hbb3 hg3)
    | (refine wpList_build_to rfl 55 [(0, _)] rfl [(0, .int .i64 9)] rfl (.agg (pfC pf9 (none, 0, 0)).toArray) (hbf _) ?_)
    | (refine wpList_build_one rfl 23 55 (.tmp 13) rfl (.agg (pfC pf9 (none, 0, 0)).toArray) (pfC pf9 (none, 0, 0)) rfl (hbg _) ?_; intro gq w4 hgq hbQ hb4; have HLq : Hid (w3.heap.size < gq) := Lib.hid (by rw [hgq]; exact HD3.out.lt); have HLd : Hid (w1.heap.size < w3.heap.size) := Lib.hid HG3.out.lt; have HQ4 := Lib.hid hbQ; have HX4 := Lib.hid (below_step HU3.out hb4); have HG4 := Lib.hid (HGu3.out.through hb4); have HP4 := Lib.hid (HPu3.out.through hb4); have HI4 := Lib.hid (HIu3.out.through hb4); have HD4 := Lib.hid (HD3.out.through hb4); clear hgq hbQ hb4)
    | (refine wpList_store_cell rfl 23 (.tmp 15) (.tmp 14) rfl w1.heap.size 3 rfl (.slice (some ⟨gq, 0, none⟩) 1 1) rfl rfl rfl hsf 25 (Ch.cells c0 (some ⟨gp, 0, none⟩, 1, 1) (none, 0, 0) (none, 0, 0)) HG4.out (by simp [Ch.cells]) ?_; intro u4 hbb4 hg4; have HG5 : Hid (Blk u4 w1.heap.size 25 (Ch.cells c1 (some ⟨gp, 0, none⟩, 1, 1) (some ⟨gq, 0, none⟩, 1, 1) (none, 0, 0))) := Lib.hid hbb4; have HX5 : Hid (Below w.heap.size w u4) := Lib.hid (HX4.out.grown hg4 HX4.out.size (fun k hk => by have h9 := Option.some.inj hk; have h8 := HX1.out.size; omega)); have HP5 := Lib.hid (HP4.out.grown hg4 (by have h8 := HLp.out; simp; omega)); have HQ5 := Lib.hid (HQ4.out.grown hg4 (by have h8 := HLq.out; have h7 := HLd.out; simp; omega)); have HD5 := Lib.hid (HD4.out.grown hg4 (by have h8 := HLd.out; simp; omega)); have HI5 := Lib.hid (HI4.out.off hg4 (by omega)); clear hbb4 hg4)
    | (refine wpList_load_blk rfl 25 (.tmp 2) rfl w3.heap.size rfl 25 (Ch.cells c0 P3 Q3 R3) _ HD5.out Try.underlying25 rfl (by kernel_rfl) ?_)
    | (go_at_call 10; (with_reducible refine (HB0.out _ _ _ _ HI5.out.inn).mono ?_); rintro e w7 ⟨T7, m7, d7, rfl, hy7, _, _, hb7⟩; obtain rfl : 62 = m7 := (by rw [← hy7.len]; exact HEL.out.symm); have HX7 := Lib.hid (below_step HX5.out hb7); have HG7 := Lib.hid (HG5.out.through hb7); have HP7 := Lib.hid (HP5.out.through hb7); have HQ7 := Lib.hid (HQ5.out.through hb7); have HI7 := Lib.hid (HI5.out.through hb7); have HD7 := Lib.hid (HD5.out.through hb7); have kv : w7.cell? ⟨w3.heap.size, 0, none⟩ = some (.int .i64 1) := (HD7.out.cellAt (i := 0) rfl); clear hy7 hb7)
    | (refine wpList_load_blk_g 25 (.tmp 2) rfl (by kernel_rfl) w3.heap.size rfl 25 (Ch.cells c0 P3 Q3 R3) _ HD7.out Try.underlying25 rfl (by kernel_rfl) ?_)
    | (go_at_call 11; (with_reducible refine (HK0.out _ _ _ _ HI7.out.inn).mono ?_); rintro e w8 ⟨rfl, hb8⟩; have HX8 := Lib.hid (below_step HX7.out hb8); have HG8 := Lib.hid (HG7.out.through hb8); have HP8 := Lib.hid (HP7.out.through hb8); have HQ8 := Lib.hid (HQ7.out.through hb8); clear hb8)
    | (refine wpList_load_blk_g 25 (.tmp 1) rfl (by kernel_rfl) w1.heap.size rfl 25 (Ch.cells c1 (some ⟨gp, 0, none⟩, 1, 1) (some ⟨gq, 0, none⟩, 1, 1) (none, 0, 0)) _ HG8.out Try.underlying25 rfl (by kernel_rfl) ?_)
    | (go_at_call 11; (with_reducible refine (HK1.out _ _ _ _ (c1_in HP8.out HQ8.out)).mono ?_); rintro e w9 ⟨rfl, hb9⟩; have HX9 := Lib.hid (below_step HX8.out hb9); clear hb9))
  go_ret
  exact ⟨rfl, HX9.out⟩
end Go.Proofs.Ytheecifgbkdecaa
