/-
  NlF NlRd
-/
import Derived.Test.YtheecifgbkdecaaSM31
namespace Go.Proofs.Ytheecifgbkdecaa
open Go.RowKit
theorem Sl.to_ {w : World} {k n i : Nat} {A : Option Addr} {xs : List (List Value)} (h : Sl w k A n xs) (hi : i ≤ n) : Sl w k A i (xs.take i) :=
 ⟨by rw [List.length_take, h.1]; omega, fun hn => by
  obtain ⟨g, o, e, hcell⟩ := h.2 (by omega)
  refine ⟨g, o, e, fun j cs hj => hcell j cs ?_⟩
  rw [List.getElem?_take] at hj
  split at hj
  ·exact hj
  ·cases hj⟩
theorem run_head {P : Program} (w : World) (t e : TypeId) (g o n c : Nat) (k : Nat) (ht : P.underlying t = some (.slice e)) (hs : ((P.info? e).map (·.size)).isSome = true) (hk : k ≤ c) :
  (Instr.slice t (.slice (some ⟨g, o, none⟩) n c) none (some (.int .i64 (k : Int))) none).run P w = .ok (.slice (some ⟨g, o, none⟩) k c) w := by
 cases hq : P.info? e with
 | none => simp [hq] at hs
 | some info => simp [Instr.slice, Sem.run_bind, run_underlying ht, Instr.sliceBounds, run_sliceBound, sizeOf, typeInfo, hq, hk, Addr.add]

theorem Os.one_ {w : World} {B k g : Nat} {e : TypeId} {q : List Value} (h : Blk w g e q) (hk : q.length = k) (hB : B ≤ g) : Os w B e k (.slice (some ⟨g, 0, none⟩) 1 1) [q] :=
 ⟨⟨by simp [hk], .inr ⟨g, 1, q.toArray, rfl, hB, h, Nat.le_refl _, by simp [maxLen], by simp [hk], by simp [← hk]⟩⟩, fun x hx => by rw [List.mem_singleton.1 hx]; exact hk⟩
def c2v : Ch := ⟨2, 0, [po0], [], []⟩
def fixL (n : Nat) : List Sg := (List.range n).map (fun (i : Nat) => (⟨(i : Int), c2v⟩ : Sg))
theorem fixL_len (n : Nat) : (fixL n).length = n := by simp [fixL]
theorem fixL_succ (n : Nat) : fixL (n + 1) = fixL n ++ [⟨(n : Int), c2v⟩] := by simp [fixL, List.range_succ]
theorem fixL_mem {n : Nat} {s : Sg} (h : s ∈ fixL n) : s.ch = c2v := by
 unfold fixL at h
 obtain ⟨i, _, rfl⟩ := List.mem_map.1 h
 rfl
theorem few_f3 : fewNv (fixL 3) = true := by kernel_rfl
theorem few_f2 : fewNv (fixL 2) = true := by kernel_rfl
theorem chk_f3 : chkNv 2 (fixL 3) 4 = 0 := by kernel_rfl
theorem chk_f2 : chkNv 2 (fixL 2) 4 = 16 := by kernel_rfl
theorem par_f3 : parseNv (encNv 2 (fixL 3)) 4 = ((2, fixL 3), 0) := parse19_back (by simp [In64]) few_f3 (fun s hs => by
 rw [fixL_mem hs]
 exact ⟨by simp [c2v, In64], by simp [c2v, In64], fun p hp => by simp [c2v, po0] at hp; subst hp; simp [In64], fun p hp => by simp [c2v] at hp, fun p hp => by simp [c2v] at hp⟩) (fun s hs p hp => by rw [fixL_mem hs] at hp; simp [c2v, po0] at hp; subst hp; rfl) chk_f3
theorem AllS.take {w : World} : ∀ (n : Nat) {l : List Sg} {ts : List (Pl × Pl × Pl)}, AllS w l ts → AllS w (l.take n) (ts.take n)
 | 0, _, _, _ => by rw [List.take_zero, List.take_zero]; exact trivial
 | _ + 1, [], [], _ => trivial
 | n + 1, _ :: _, _ :: _, h => ⟨h.1, AllS.take n h.2⟩
 | _ + 1, [], _ :: _, h => h.elim
 | _ + 1, _ :: _, [], h => h.elim
theorem SgsIn.two {w : World} {A : Option Addr} (h : SgsIn w A 3 (fixL 3)) : SgsIn w A 2 (fixL 2) := by
 obtain ⟨ts, h1, h2⟩ := h
 have e : fixL 2 = (fixL 3).take 2 := rfl
 refine ⟨ts.take 2, ?_, ?_⟩
 ·have h3 := h1.to_ (i := 2) (by omega)
  have e2 : (sgR (fixL 3) ts).take 2 = sgR (fixL 2) (ts.take 2) := by rw [e]; unfold sgR; rw [List.take_zipWith]
  rw [← e2]
  exact h3
 ·rw [e]; exact h2.take 2
theorem Try.build_c2 (gp : Nat) (w : World) : (Instr.build 25 #[(0, .int .i64 2), (2, .slice (some ⟨gp, 0, none⟩) 1 1)]).run Try.prog w = .ok (.agg (Ch.cells c2v (some ⟨gp, 0, none⟩, 1, 1) (none, 0, 0) (none, 0, 0)).toArray) w := by kernel_rfl

set_option maxHeartbeats 32000000 in
set_option maxRecDepth 100000 in
theorem fixed19_of (h1 : ParseNW) (h2 : BytesNW) (h3 : CheckNW) (h4 : FaultsNW) (h5 : QuorumNW) : FixedN := by
 intro w
 obtain ⟨EB, hEB⟩ : ∃ E, encNv 2 (fixL 3) = E := ⟨_, rfl⟩
 have hle : EB.length ≤ 9000000 := by rw [← hEB]; exact encNv_len few_f3 (fun s hs p hp => by rw [fixL_mem hs] at hp; simp [c2v, po0] at hp; subst hp; rfl)
 have HBy0 : Hid (∀ (A : Option Addr) (c : Nat) (W : World), SgsIn W A 3 (fixL 3) → Calls Try.prog 23 #[.int .i64 2, .slice A 3 c] W (Byt W EB)) := Lib.hid (fun A c W h => hEB ▸ h2 2 (fixL 3) A 3 c W h few_f3)
 have HPp : Hid (∀ (A : Option Addr) (n c : Nat) (W : World), By W (fun _ => True) A n EB → n ≤ c → c ≤ maxLen → Calls Try.prog 27 #[.slice A n c, .int .i64 4] W (NvOut W (2, fixL 3) 0)) := Lib.hid (fun A n c W h7 h8 h9 => by
  have h6 := h1 EB 4 A n c W h7 h8 h9 (by rw [← h7.len]; omega) (hEB ▸ nvLow_enc 4 few_f3 (fun s hs p hp => by rw [fixL_mem hs] at hp; simp [c2v, po0] at hp; subst hp; rfl))
  rw [← hEB, par_f3] at h6
  exact h6)
 have HF7 : Hid (∀ W : World, Calls Try.prog 30 #[.int .i64 7] W fun e w' => e = .returned (.int .i64 2) ∧ Below W.heap.size W w') := Lib.hid (fun W => h4 7 W (by omega))
 have HQ4 : Hid (∀ W : World, Calls Try.prog 32 #[.int .i64 4] W fun e w' => e = .returned (.int .i64 3) ∧ Below W.heap.size W w') := Lib.hid (fun W => h5 4 W (by omega))
 have HCk0 : Hid (∀ (A : Option Addr) (c : Nat) (W : World), 2 ≤ c → c ≤ maxLen → SgsIn W A 2 (fixL 2) → Calls Try.prog 24 #[.int .i64 2, .slice A 2 c, .int .i64 4] W fun e w' => e = .returned (.int .i64 16) ∧ Below W.heap.size W w') := Lib.hid (fun A c W h7 h8 h9 => by
  have h6 := h3 2 (fixL 2) 4 A 2 c W h9 h7 h8 few_f2
  rw [chk_f2] at h6
  exact h6)
 have hbp := Try.build_po0
 have hbq := Try.bs_po0
 have hbc := Try.build_c2
 have HX0 : Hid (Below w.heap.size w w) := Lib.hid (Below.refl _ _)
 clear h1 h2 h3 h4 h5 hEB hle
 go_enter Try.func21, Try.ntmps21
 go_wp2
 go_loopw [1, 6] (fun vv zv wr => ∃ (i : Nat) (A2 : Option Addr) (n2 c2 : Nat), i ≤ 3 ∧ zv = .int .i64 (i : Int) ∧ vv = .slice A2 n2 c2 ∧ OSg wr w.heap.size (.slice A2 n2 c2) (fixL i) ∧ Below w.heap.size w wr) (fun _ zv _ => 3 - (intOf zv).toNat)
 case atStart => exact ⟨0, none, 0, 0, by omega, rfl, rfl, OSg.nil _ _, HX0.out⟩
 case round =>
  obtain ⟨i, A2, n2, c2, hi, rfl, rfl, ho, hx⟩ := hrel
  have HOj := Lib.hid ho
  have HXj := Lib.hid hx
  clear ho hx
  by_cases hlt : i < 3
  ·have dl : decide ((i : Int) < 3) = true := by simp; omega
   go_wp2_with (first
    | (refine wpList_build_to rfl 52 [] rfl [] rfl (.agg (Po.cells po0).toArray) (hbp _) ?_)
    | (refine wpList_build_one rfl 22 52 (.tmp 11) rfl (.agg (Po.cells po0).toArray) (Po.cells po0) rfl (hbq _) ?_; intro gp w1 hgp hbP hb1; have HC1 : Hid (ChOwn w1 w.heap.size (some ⟨gp, 0, none⟩, 1, 1) (none, 0, 0) (none, 0, 0) c2v) := Lib.hid ⟨⟨Os.one_ hbP rfl (by rw [hgp]; exact HXj.out.size), fun p hp => by simp [c2v, po0] at hp; subst hp; rfl⟩, OPf.nil _ _, OPf.nil _ _⟩; obtain ⟨ts, ho1, ha1⟩ := HOj.out; have HS1 := Lib.hid (ho1.through hb1); have HA1 := Lib.hid (ha1.through hb1); have HX1 := Lib.hid (below_step HXj.out hb1); have HZ1 : Hid (w.heap.size ≤ w1.heap.size) := Lib.hid HX1.out.size; clear hgp hbP hb1 ho1 ha1)
    | (refine wpList_build_to rfl 25 _ rfl [(0, .int .i64 2), (2, .slice (some ⟨gp, 0, none⟩) 1 1)] rfl (.agg (Ch.cells c2v (some ⟨gp, 0, none⟩, 1, 1) (none, 0, 0) (none, 0, 0)).toArray) (hbc gp _) ?_)
    | (refine wpList_build_to rfl 106 _ rfl [(0, .int .i64 (i : Int)), (1, .agg (Ch.cells c2v (some ⟨gp, 0, none⟩, 1, 1) (none, 0, 0) (none, 0, 0)).toArray)] rfl (.agg (sgC ⟨(i : Int), c2v⟩ ((some ⟨gp, 0, none⟩, 1, 1), (none, 0, 0), (none, 0, 0))).toArray) (Try.build_sg _ _ _ _ _ _) ?_)
    | (refine wpList_build_el rfl Try.el_sg (.tmp 14) rfl (sgC ⟨(i : Int), c2v⟩ ((some ⟨gp, 0, none⟩, 1, 1), (none, 0, 0), (none, 0, 0))) rfl rfl ?_)
    | (at_builtin; refine wpList_append_el rfl Try.el_sg (.tmp 9) (.tmp 15) rfl w.heap.size (.slice A2 n2 c2) (sgR (fixL i) ts) rfl (HS1.out.alloc (.cells (sgC ⟨(i : Int), c2v⟩ ((some ⟨gp, 0, none⟩, 1, 1), (none, 0, 0), (none, 0, 0))).toArray 106)) w1.heap.size (sgC ⟨(i : Int), c2v⟩ ((some ⟨gp, 0, none⟩, 1, 1), (none, 0, 0), (none, 0, 0))) rfl (Blk.fresh rfl rfl) rfl (sgC_one _ _) (by rw [sgR_len HA1.out.len, fixL_len]; omega) (by have := HZ1.out; simp; omega) ?_; intro v7 w9 ho7 hg7; have HW := Lib.hid (fun b hb => (HS1.out.lt b hb).1); obtain ⟨A7, N7, c7, rfl⟩ : ∃ (A : Option Addr) (N c : Nat), v7 = .slice A N c := (by obtain ⟨A, c, h9, _⟩ := ho7.out; exact ⟨A, _, c, h9⟩); have HE9 := (HC1.out.through (below1_ w1 (.cells (sgC ⟨(i : Int), c2v⟩ ((some ⟨gp, 0, none⟩, 1, 1), (none, 0, 0), (none, 0, 0))).toArray 106))).own (HS1.out.alloc (.cells (sgC ⟨(i : Int), c2v⟩ ((some ⟨gp, 0, none⟩, 1, 1), (none, 0, 0), (none, 0, 0))).toArray 106)) hg7; have HA9 := Lib.hid (AllO.snoc (s := (⟨(i : Int), c2v⟩ : Sg)) (t := ((some ⟨gp, 0, none⟩, 1, 1), (none, 0, 0), (none, 0, 0))) ((HA1.out.through (below1_ w1 (.cells (sgC ⟨(i : Int), c2v⟩ ((some ⟨gp, 0, none⟩, 1, 1), (none, 0, 0), (none, 0, 0))).toArray 106))).own (HS1.out.alloc (.cells (sgC ⟨(i : Int), c2v⟩ ((some ⟨gp, 0, none⟩, 1, 1), (none, 0, 0), (none, 0, 0))).toArray 106)) hg7) HE9); clear HE9; have HO9 : Hid (OSg w9 w.heap.size (.slice A7 N7 c7) (fixL (i + 1))) := Lib.hid ⟨ts ++ [((some ⟨gp, 0, none⟩, 1, 1), (none, 0, 0), (none, 0, 0))], by rw [fixL_succ, sgR_snoc HA1.out.len]; exact ho7, by rw [fixL_succ]; exact HA9.out⟩; have HX9 : Hid (Below w.heap.size w w9) := Lib.hid ((HX1.out.alloc HX1.out.size (.cells (sgC ⟨(i : Int), c2v⟩ ((some ⟨gp, 0, none⟩, 1, 1), (none, 0, 0), (none, 0, 0))).toArray 106)).grown hg7 (HX1.out.alloc HX1.out.size (.cells (sgC ⟨(i : Int), c2v⟩ ((some ⟨gp, 0, none⟩, 1, 1), (none, 0, 0), (none, 0, 0))).toArray 106)).size (fun b hb => by have := HW.out b hb; omega)); clear ho7 hg7))
   go_roundw
   case rel => exact ⟨i + 1, A7, N7, c7, by omega, by go_num, rfl, HO9.out, HX9.out⟩
   case measure => simp [intOf]; omega
  ·obtain rfl : i = 3 := by omega
   obtain ⟨A, c, hv, hnc, hcm, hin⟩ := HOj.out.out
   rw [fixL_len] at hv hnc hin
   obtain ⟨rfl, rfl, rfl⟩ : A2 = A ∧ n2 = 3 ∧ c2 = c := by injection hv with a b d; exact ⟨a, b, d⟩
   obtain ⟨g, o, _, _, _, _, rfl, _⟩ := hin.at (i := 0) (by omega)
   have HI := Lib.hid hin
   have hsl : ∀ W : World, (Instr.slice 42 (.slice (some ⟨g, o, none⟩) 3 c2) none (some (.int .i64 2)) none).run Try.prog W = .ok (.slice (some ⟨g, o, none⟩) 2 c2) W := fun W => run_head W 42 106 g o 3 c2 2 Try.underlying42 (by kernel_rfl) (by omega)
   have HBy : Hid (∀ W : World, SgsIn W (some ⟨g, o, none⟩) 3 (fixL 3) → Calls Try.prog 23 #[.int .i64 2, .slice (some ⟨g, o, none⟩) 3 c2] W (Byt W EB)) := Lib.hid (fun W h => HBy0.out _ _ W h)
   have HCk : Hid (∀ (W : World), SgsIn W (some ⟨g, o, none⟩) 2 (fixL 2) → Calls Try.prog 24 #[.int .i64 2, .slice (some ⟨g, o, none⟩) 2 c2, .int .i64 4] W fun e w' => e = .returned (.int .i64 16) ∧ Below W.heap.size W w') := Lib.hid (fun W h => HCk0.out _ _ W (by omega) hcm h)
   clear hv hnc hcm hin hlt hi hbp hbq hbc
   go_wp2_with (first
    | go_big_skip
    | (go_at_call 23; (with_reducible refine (HBy.out _ HI.out).mono ?_); rintro e v1 ⟨T2, m2, d2, rfl, hy2, hn2, hc2, hb2⟩; have HY2 := Lib.hid hy2; have HN2 := Lib.hid (And.intro hn2 hc2); have HX2 := Lib.hid (below_step HXj.out hb2); have HI2 := Lib.hid (HI.out.through hb2); clear hy2 hn2 hc2 hb2)
    | (go_at_call 27; (with_reducible refine (HPp.out _ _ _ _ HY2.out HN2.out.1 HN2.out.2).mono ?_); rintro e v2 ⟨A5, n5, c5, rfl, hi5, _, _, hb5⟩; obtain rfl : 3 = n5 := hi5.len; have HX5 := Lib.hid (below_step HX2.out hb5); have HI5 := Lib.hid (HI2.out.through hb5); clear hi5 hb5)
    | (go_at_call 30; (with_reducible refine (HF7.out _).mono ?_); rintro e v3 ⟨rfl, hb6⟩; have HX6 := Lib.hid (below_step HX5.out hb6); have HI6 := Lib.hid (HI5.out.through hb6); clear hb6)
    | (go_at_call 32; (with_reducible refine (HQ4.out _).mono ?_); rintro e v4 ⟨rfl, hb7⟩; have HX7 := Lib.hid (below_step HX6.out hb7); have HI7 := Lib.hid (HI6.out.through hb7); clear hb7)
    | (go_at_call 24; (with_reducible refine (HCk.out _ (HI7.out.two)).mono ?_); rintro e v5 ⟨rfl, hb8⟩; have HX8 := Lib.hid (below_step HX7.out hb8); clear hb8))
   go_ret
   exact ⟨rfl, HX8.out⟩

end Go.Proofs.Ytheecifgbkdecaa

namespace Go.Proofs.Ytheecifgbkdecaa
open Go.RowKit

set_option maxHeartbeats 16000000 in
set_option maxRecDepth 100000 in
theorem newviewreads_of (hfx : FixedN) (h1 : ParseNW) (hfa : FaultsNW) (hqu : QuorumNW) (xs : List UInt8) (N : Int) (A : Option Addr) (n c : Nat) (w : World) (h : By w (fun _ => True) A n xs) (hnc : n ≤ c) (hc : c ≤ maxLen) :
  Calls Try.prog 7 #[.slice A n c, .int .i64 N] w fun e w' => e = .returned (.bool true) ∧ Below w.heap.size w w' := by
 have HFx : Hid (∀ w : World, Calls Try.prog 21 #[] w fun e w' => e = .returned (.bool true) ∧ Below w.heap.size w w') := Lib.hid hfx
 have HY := Lib.hid h
 clear h hfx
 by_cases s1 : 6000 < n
 ·have d1 : decide ((6000 : Int) < (n : Int)) = true := by simp; omega
  clear s1 h1 hnc hc hfa hqu
  go_enter Try.func7, Try.ntmps7
  go_wp2_with (first
   | (go_at_call 21; (with_reducible refine (HFx.out _).mono ?_); rintro e w0 ⟨rfl, hb0⟩; have HV0 := Lib.hid hb0; have HY0 := Lib.hid (HY.out.through hb0); clear hb0))
  go_ret
  exact ⟨rfl, HV0.out⟩
 have d1 : decide ((6000 : Int) < (n : Int)) = false := by simp; omega
 obtain ⟨V, L, e0, hX⟩ : ∃ V L e, parseNv xs N = ((V, L), e) := ⟨_, _, _, rfl⟩
 have HP1 : Hid (∀ W : World, By W (fun _ => True) A n xs → Calls Try.prog 27 #[.slice A n c, .int .i64 N] W (NvOut W (V, L) e0)) := Lib.hid (fun W h9 => by have h8 := h1 xs N A n c W h9 hnc hc (by omega) (nvLow_short N (by rw [h9.len]; omega)); rw [hX] at h8; exact h8)
 have HP2 : Hid (∀ W : World, By W (fun _ => True) A n xs → Calls Try.prog 29 #[.slice A n c, .int .i64 N] W (NvOut W (V, L) e0)) := Lib.hid (fun W h9 => by have h8 := rparse19_any xs N A n c W h9 hnc hc (by omega); rw [hX] at h8; exact h8)
 have HSm : Hid (∀ (A : Option Addr) (k c : Nat) (A' : Option Addr) (k' d : Nat) (W : World), k ≤ c → c ≤ maxLen → SgsIn W A k L → SgsIn W A' k' L → Calls Try.prog 28 #[.slice A k c, .slice A' k' d] W fun e w' => e = .returned (.bool true) ∧ Below W.heap.size W w') := Lib.hid (fun A k c A' k' d W h6 h7 h8 h9 => by
  have h5 := rsame19_any L L A k c A' k' d W h8 h9 (by simp only [maxLen] at h7; omega)
  rw [sameNv_self] at h5
  exact h5)
 have ev : (V == V) = true := by simp
 have ee : (e0 == e0) = true := by simp
 by_cases s3 : N ≤ 300
 ·have d3 : decide (N ≤ (300 : Int)) = true := by simpa using s3
  have d3' : decide ((300 : Int) < N) = false := by simp; omega
  have HFa : Hid (∀ W : World, Calls Try.prog 30 #[.int .i64 N] W fun e w' => e = .returned (.int .i64 (fltN N)) ∧ Below W.heap.size W w') := Lib.hid (fun W => hfa N W s3)
  have HFr : Hid (∀ W : World, Calls Try.prog 31 #[.int .i64 N] W fun e w' => e = .returned (.int .i64 (fltN N)) ∧ w' = W) := Lib.hid (fun W => rfaults_any N s3 W)
  have HFq : Hid (∀ W : World, Calls Try.prog 32 #[.int .i64 N] W fun e w' => e = .returned (.int .i64 (2 * fltN N + 1)) ∧ Below W.heap.size W w') := Lib.hid (fun W => hqu N W s3)
  have hfl : 0 ≤ fltN N ∧ fltN N ≤ 100 := by unfold fltN; split <;> omega
  have hw1 : IntKind.i64.wrap (2 * fltN N) = 2 * fltN N := IntWalk.i64_in _ (by omega)
  have hw2 : IntKind.i64.wrap (2 * fltN N + 1) = 2 * fltN N + 1 := IntWalk.i64_in _ (by omega)
  generalize fltN N = f at *
  have e1 : (f != f) = false := by simp
  have e2 : (2 * f + 1 != 2 * f + 1) = false := by simp
  clear s1 h1 hnc hc hX hfa hqu s3 hfl
  go_enter Try.func7, Try.ntmps7
  go_wp2_with (first
   | go_big_skip
   | (go_at_call 21; (with_reducible refine (HFx.out _).mono ?_); rintro e w0 ⟨rfl, hb0⟩; have HV0 := Lib.hid hb0; have HY0 := Lib.hid (HY.out.through hb0); clear hb0)
   | (go_at_call 27; (with_reducible refine (HP1.out _ HY0.out).mono ?_); rintro e w1 ⟨A1, n1, c1, rfl, hi1, hn1, hc1, hb1⟩; have HI1 := Lib.hid hi1; have HV1 := Lib.hid (below_step HV0.out hb1); have HY1 := Lib.hid (HY0.out.through hb1); have HM1 := Lib.hid (And.intro hn1 hc1); clear hi1 hb1 hn1 hc1)
   | (go_at_call 29; (with_reducible refine (HP2.out _ HY1.out).mono ?_); rintro e w2 ⟨A2, n2, c2, rfl, hi2, hn2, hc2, hb2⟩; have HI2 := Lib.hid hi2; have HV2 := Lib.hid (below_step HV1.out hb2); have HI12 := Lib.hid (HI1.out.through hb2); clear hi2 hb2 hn2 hc2)
   | (go_at_call 30; (with_reducible refine (HFa.out _).mono ?_); rintro e w3 ⟨rfl, hb3⟩; have HV3 := Lib.hid (below_step HV2.out hb3); have HI3 := Lib.hid (HI2.out.through hb3); have HI13 := Lib.hid (HI12.out.through hb3); clear hb3)
   | (go_at_call 31; (with_reducible refine (HFr.out _).mono ?_); rintro e w9 ⟨rfl, rfl⟩)
   | (go_at_call 32; (with_reducible refine (HFq.out _).mono ?_); rintro e w4 ⟨rfl, hb4⟩; have HV4 := Lib.hid (below_step HV3.out hb4); have HI4 := Lib.hid (HI3.out.through hb4); have HI14 := Lib.hid (HI13.out.through hb4); clear hb4)
   | (go_at_call 28; (with_reducible refine (HSm.out _ _ _ _ _ _ _ HM1.out.1 HM1.out.2 HI14.out HI4.out).mono ?_); rintro e w5 ⟨rfl, hb5⟩; have HV5 := Lib.hid (below_step HV4.out hb5); clear hb5))
  go_ret
  exact ⟨rfl, HV5.out⟩
 ·have d3 : decide (N ≤ (300 : Int)) = false := by simpa using s3
  have d3' : decide ((300 : Int) < N) = true := by simp; omega
  clear s1 h1 hnc hc hX hfa hqu s3
  go_enter Try.func7, Try.ntmps7
  go_wp2_with (first
   | go_big_skip
   | (go_at_call 21; (with_reducible refine (HFx.out _).mono ?_); rintro e w0 ⟨rfl, hb0⟩; have HV0 := Lib.hid hb0; have HY0 := Lib.hid (HY.out.through hb0); clear hb0)
   | (go_at_call 27; (with_reducible refine (HP1.out _ HY0.out).mono ?_); rintro e w1 ⟨A1, n1, c1, rfl, hi1, hn1, hc1, hb1⟩; have HI1 := Lib.hid hi1; have HV1 := Lib.hid (below_step HV0.out hb1); have HY1 := Lib.hid (HY0.out.through hb1); have HM1 := Lib.hid (And.intro hn1 hc1); clear hi1 hb1 hn1 hc1)
   | (go_at_call 29; (with_reducible refine (HP2.out _ HY1.out).mono ?_); rintro e w2 ⟨A2, n2, c2, rfl, hi2, hn2, hc2, hb2⟩; have HI2 := Lib.hid hi2; have HV2 := Lib.hid (below_step HV1.out hb2); have HI12 := Lib.hid (HI1.out.through hb2); clear hi2 hb2 hn2 hc2)
   | (go_at_call 28; (with_reducible refine (HSm.out _ _ _ _ _ _ _ HM1.out.1 HM1.out.2 HI12.out HI2.out).mono ?_); rintro e w5 ⟨rfl, hb5⟩; have HV5 := Lib.hid (below_step HV2.out hb5); clear hb5))
  go_ret
  exact ⟨rfl, HV5.out⟩

end Go.Proofs.Ytheecifgbkdecaa
