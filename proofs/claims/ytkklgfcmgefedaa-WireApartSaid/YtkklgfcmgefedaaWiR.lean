/-
  The document's Parse of a message, walked.
-/
import Derived.Test.YtkklgfcmgefedaaWiC
import Derived.Test.YtkklgfcmgefedaaRqDf
import Derived.Deep.CutBlock
namespace Go.Proofs.Ytkklgfcmgefedaa
open Go.RowKit

theorem wrap_sx (v : Nat) (h : v < 18446744073709551616) : IntKind.i64.wrap (v : Int) = sx 8 v := by
  have e : ∀ V, sx 8 V = if V < 9223372036854775808 then (V : Int) else V - 18446744073709551616 := fun V => by simp [sx]
  rw [e]
  simp [IntKind.wrap, IntKind.signed, IntKind.bits]
  split <;> omega
theorem sx_small {v : Nat} (h : v < 9223372036854775808) : sx 8 v = v := by simp [sx, h]
theorem conv_i64 {P : Program} (t t' : TypeId) (ht : P.underlying t = some (.int .u64)) (ht' : P.underlying t' = some (.int .i64)) (v : Nat) (h : v < 18446744073709551616) (w : World) : (convert t t' (.int .u64 (v : Int))).run P w = .ok (.int .i64 (sx 8 v)) w := by
  simp [convert, run_underlying ht, run_underlying ht', Conv.intToInt, wrap_sx v h]
theorem conv_small {P : Program} (t t' : TypeId) (ht : P.underlying t = some (.int .u64)) (ht' : P.underlying t' = some (.int .i64)) (v : Nat) (h : v < 9223372036854775808) (w : World) : (convert t t' (.int .u64 (v : Int))).run P w = .ok (.int .i64 (v : Int)) w := by
  rw [conv_i64 t t' ht ht' v (by omega), sx_small h]
def stL : Option (List UInt8) → Nat
  | some r => r.length
  | none => 0
theorem nnext_stL (k : Nat) (st : Option (List UInt8)) : stL (nnext k st) ≤ stL st := by
  cases st with
  | none => exact Nat.le_refl _
  | some xs => rw [nnext_some]; split <;> simp [stL]
theorem tval_stL (k : Nat) (st : Option (List UInt8)) : (tval k st).length ≤ stL st := by
  cases st with
  | none => simp [tval_none]
  | some xs => rw [tval_some]; split <;> simp [stL]; omega
theorem rval_stL (m : Nat) (st : Option (List UInt8)) : (rval m st).length ≤ stL st := by
  unfold rval
  split
  · exact Nat.le_trans (tval_stL _ _) (nnext_stL _ _)
  · simp
theorem results_cell_row_tmp1 {P : Program} {fn : Func} {p u : Tmp} {ty : TypeId} (h : fn.results = #[.cell p ty, .tmp u]) (tmps : Array Value) (w : World) (g : Nat) (t : TypeId) (cs : Array Value) (fr : Nat × Nat) (d : TypeDesc)
    (hp : tmps.getD p undef = .pointer (some ⟨g, 0, none⟩)) (hg : w.heap[g]? = some (.cells cs t fr))
    (hu : P.underlying ty = some d) (hd : (match d with | .struct _ | .array _ _ => true | _ => false) = true) (hi : (P.info? ty).map (·.size) = some cs.size) :
    (results fn tmps).run P w = .ok (.tuple #[.agg cs, tmps.getD u undef]) w := by
  have hp' : tmps[p]?.getD undef = .pointer (some ⟨g, 0, none⟩) := by simpa using hp
  simp [results, h, hp', asAddr, run_loadVar_row w g t ty cs fr d hg hu hd hi]
theorem By.far {w w' : World} {A : Option Addr} {n g : Nat} {xs : List UInt8} {t : TypeId} {cs : List Value} (h : By w (fun _ => True) A n xs) (hg : w.grownBy w' (some g)) (hb : Blk w g t cs) (hc : ∀ v ∈ cs, ∀ u : UInt8, v ≠ u8 u) : By w' (fun _ => True) A n xs :=
  ⟨h.1, fun hn => by
    obtain ⟨b, o, e, _, hc1⟩ := h.2 hn
    refine ⟨b, o, e, trivial, fun j u hu => hg.cell (hc1 j u hu) (fun e2 => ?_)⟩
    have e3 : b = g := Option.some.inj e2
    subst e3
    have h2 := hc1 j u hu
    rw [hb.cell] at h2
    exact hc _ (List.mem_of_getElem? h2) u rfl⟩
theorem only_own_ {a b c : World} {g : Nat} {row : Option Nat} (hab : a.grownBy b (some g)) (hbc : b.grownBy c row) (hh : ∀ h, row = some h → a.heap.size ≤ h) : a.grownBy c (some g) :=
  ⟨hbc.os.trans hab.os, hbc.tape.trans hab.tape, hbc.output.trans hab.output, Nat.le_trans hab.size hbc.size, fun i hi hne => (hbc.block i (Nat.lt_of_lt_of_le hi hab.size) (fun e => by have := hh i e.symm; omega)).trans (hab.block i hi hne)⟩
theorem cval_le_ (most : Nat) (st : Option (List UInt8)) : cval most st ≤ most := by unfold cval; split <;> omega
theorem rdMany_step {α : Type} (rd : Option (List UInt8) → α × Option (List UInt8)) (k : Nat) (xs : List UInt8) (pre : List α) : (pre ++ (rdMany rd (k + 1) (some xs)).1, (rdMany rd (k + 1) (some xs)).2) = ((pre ++ [(rd (some xs)).1]) ++ (rdMany rd k (rd (some xs)).2).1, (rdMany rd k (rd (some xs)).2).2) := by
  rw [rdMany_some]
  simp
theorem put_next {ys : List UInt8} {i : Nat} (h : i < ys.length) (h32 : i < 32) : (vs (ys.take i ++ List.replicate (32 - i) 0)).set i (u8 ys[i]) = vs (ys.take (i + 1) ++ List.replicate (32 - (i + 1)) 0) := by
  have e : List.replicate (32 - i) (0 : UInt8) = 0 :: List.replicate (32 - (i + 1)) 0 := by
    rw [← List.replicate_succ]; congr 1; omega
  have hl : (ys.take i).length = i := by rw [List.length_take]; omega
  have e2 : ys.take i ++ ys[i] :: List.replicate (32 - (i + 1)) 0 = ys.take (i + 1) ++ List.replicate (32 - (i + 1)) 0 := by
    rw [List.take_add_one, List.getElem?_eq_getElem h, List.append_assoc]
    rfl
  unfold vs
  rw [← List.map_set, List.set_append_right _ _ (by omega), hl, Nat.sub_self, e, List.set_cons_zero, e2]
theorem copied (st : Option (List UInt8)) {m : Nat} (h : (tval 32 st).length = m) : (tval 32 st).take m ++ List.replicate (32 - m) 0 = tagOf (tval 32 st) := by
  rcases tval_32 st with h9 | h9
  · rw [tagOf_32 h9, ← h, List.take_length, h9]
    simp
  · rw [h9] at h ⊢
    subst h
    rfl

theorem TsIn.far_ {w w' : World} {b : Nat} {ty : TypeId} {cs : List Value} {s : Pl} {t : List (List UInt8)} (h : TsIn w s t) (ho : w.grownBy w' (some b)) (hb : Blk w b ty cs) (hc : ∀ v ∈ cs, ∀ x : UInt8, v ≠ u8 x) : TsIn w' s t :=
  ⟨⟨h.1.1, fun hn => by
    obtain ⟨g, o, e, hc9⟩ := h.1.2 hn
    refine ⟨g, o, e, fun i cs hi => rangeAt.only (hc9 i cs hi) ho (fun e2 => ?_)⟩
    subst e2
    have hl : 0 < t.length := by have := h.1.1; rw [List.length_map] at this; omega
    have h32 := h.2.1 t[0] (List.getElem_mem hl)
    have h9 := hc9 0 (vs t[0]) (by rw [List.getElem?_map, List.getElem?_eq_getElem hl]; rfl) 0 (u8 (t[0][0]'(by omega))) (by unfold vs; rw [List.getElem?_map, List.getElem?_eq_getElem (by omega)]; rfl)
    rw [hb.cell] at h9
    exact hc _ (List.mem_of_getElem? h9) _ rfl⟩, h.2⟩
theorem no8 (a b : Int) (A : Option Addr) (n c : Nat) (B : Option Addr) (m d : Nat) : ∀ v ∈ ([.int .i64 a, .int .i64 b, .slice A n c, .slice B m d] : List Value), ∀ x : UInt8, v ≠ u8 x := fun v hv x => by
  simp at hv
  rcases hv with rfl | rfl | rfl | rfl <;> simp [u8]
theorem one4m (a b : Int) (A : Option Addr) (n c : Nat) (B : Option Addr) (m d : Nat) : ([.int .i64 a, .int .i64 b, .slice A n c, .slice B m d] : List Value).toArray.all (·.oneCell') = true := by simp [Value.oneCell']
theorem Try.zero_ms (w : World) : (zeroValue 25).run Try.prog w = .ok (.agg #[.int .i64 0, .int .i64 0, .slice none 0 0, .slice none 0 0]) w := by kernel_rfl
theorem Try.build_ms0 (w : World) : (Instr.build 25 #[]).run Try.prog w = .ok (.agg #[.int .i64 0, .int .i64 0, .slice none 0 0, .slice none 0 0]) w := by kernel_rfl
theorem Try.build_ms (a b : Int) (A : Option Addr) (n c : Nat) (w : World) : (Instr.build 25 #[(0, .int .i64 a), (1, .int .i64 b), (2, .slice A n c)]).run Try.prog w = .ok (.agg #[.int .i64 a, .int .i64 b, .slice A n c, .slice none 0 0]) w := by kernel_rfl
theorem Try.build_rdr (A : Option Addr) (n c : Nat) (w : World) : (Instr.build 52 #[(0, .slice A n c)]).run Try.prog w = .ok (.agg #[.slice A n c, .int .i64 0]) w := by kernel_rfl
theorem MsIn.no_ (w : World) : MsIn w none 0 none 0 0 Ms.no := ⟨By.none_, ⟨Sl.none_, fun t h => by simp [Ms.no] at h, Nat.le_refl _, by simp [maxLen]⟩⟩
/-- a call that answers a message and an error -/
def MsOut (w : World) (m : Ms) (er : Int) (e : Ending) (w' : World) : Prop := ∃ (B : Option Addr) (nb cb : Nat) (A : Option Addr) (nt ct : Nat), e = .returned (.tuple #[.agg #[.int .i64 m.kd, .int .i64 m.fr, .slice B nb cb, .slice A nt ct], .int .i64 er]) ∧ MsIn w' B nb A nt ct m ∧ Below w.heap.size w w'

set_option maxHeartbeats 32000000 in
set_option maxRecDepth 100000 in
theorem rmparse_any (xs : List UInt8) (A : Option Addr) (n c : Nat) (w : World) (h : By w (fun _ => True) A n xs) (hnc : n ≤ c) (hc : c ≤ maxLen) (hn : n ≤ 1099511627776) :
    Calls Try.prog 15 #[.slice A n c] w (MsOut w (parseM xs).1 (parseM xs).2) := by
  have hz := Try.zero_ms
  have hb0 := Try.build_ms0
  have hbm := Try.build_ms
  have hbr := Try.build_rdr
  have HZ0 : Hid (Blk (w.alloc (.cells #[.int .i64 0, .int .i64 0, .slice none 0 0, .slice none 0 0] 25)) w.heap.size 25 [.int .i64 0, .int .i64 0, .slice none 0 0, .slice none 0 0]) := Lib.hid (Blk.fresh rfl rfl)
  have HX0 : Hid (Below w.heap.size w (w.alloc (.cells #[.int .i64 0, .int .i64 0, .slice none 0 0, .slice none 0 0] 25))) := Lib.hid (below1_ w _)
  have hlen := h.len
  by_cases hN : 1048576 < n
  · have hP : parseM xs = (Ms.no, 3) := by unfold parseM; rw [if_pos (by omega)]
    rw [hP]
    have d1 : decide ((1048576 : Int) < (n : Int)) = true := by simp; omega
    clear hP hN hlen
    go_enter Try.func15, Try.ntmps15
    go_wp2_with (first
      | (refine wpList_store_blk rfl 25 (.tmp 2) (.tmp 13) rfl w.heap.size [.int .i64 0, .int .i64 0, .slice none 0 0, .slice none 0 0] rfl rfl 25 [.int .i64 0, .int .i64 0, .slice none 0 0, .slice none 0 0] HZ0.out (by kernel_rfl) rfl (one4m _ _ _ _ _ _ _ _) ?_; intro wy hby hgy; have HGy := Lib.hid hgy; have HBy := Lib.hid hby; have HXy : Hid (Below w.heap.size w wy) := Lib.hid (HX0.out.grown hgy HX0.out.size (fun k hk => by have := Option.some.inj hk; omega)); clear hby hgy))
    (try simp only [Exit.inBlock, Exit.then]); refine bodyPost_ret (results_cell_row_tmp1 rfl _ _ w.heap.size 25 _ (0, 0) _ rfl HBy.out Try.underlying25 rfl (by kernel_rfl)) rfl ?_
    exact ⟨none, 0, 0, none, 0, 0, rfl, MsIn.no_ _, HXy.out⟩
  have d1 : decide ((1048576 : Int) < (n : Int)) = false := by simp; omega
  obtain ⟨kd, hkd⟩ : ∃ kd, nval 1 (some xs) = kd := ⟨_, rfl⟩
  obtain ⟨fr, hfr⟩ : ∃ fr, nval 1 (nnext 1 (some xs)) = fr := ⟨_, rfl⟩
  obtain ⟨bd, hbd⟩ : ∃ bd, rval 1048576 (nnext 1 (nnext 1 (some xs))) = bd := ⟨_, rfl⟩
  obtain ⟨s1, hs1⟩ : ∃ s1, rnext 1048576 (nnext 1 (nnext 1 (some xs))) = s1 := ⟨_, rfl⟩
  obtain ⟨L, hL⟩ : ∃ L, rdMany rdTg (cval 7 s1) (cnext 7 s1) = L := ⟨_, rfl⟩
  have hP : parseM xs = if L.2 = some [] ∧ chkM ⟨(kd : Int), (fr : Int), bd, L.1⟩ = 0 then (⟨(kd : Int), (fr : Int), bd, L.1⟩, 0) else (Ms.no, 2) := by
    unfold parseM rdM
    rw [if_neg (by omega), hkd, hfr, hbd, hs1, hL]
  obtain ⟨P, hPP⟩ : ∃ P, parseM xs = P := ⟨_, rfl⟩
  rw [hPP] at hP ⊢
  have hbl : bd.length ≤ 1048576 := by
    rw [← hbd]
    refine Nat.le_trans (rval_stL _ _) ?_
    have h8 : ∀ st : Option (List UInt8), stL (nnext 1 st) ≤ stL st := fun st => by
      cases st with
      | none => simp [nnext_none, stL]
      | some y => rw [nnext_some]; split <;> simp [stL]
    refine Nat.le_trans (h8 _) (Nat.le_trans (h8 _) ?_)
    simp only [stL]
    omega
  have hck := cval_le_ 7 s1
  have HLl : Hid (L.1.length ≤ 7) := Lib.hid (by rw [← hL]; exact Nat.le_trans (rdMany_len _ _) hck)
  have HR2 : Hid (Rs (fun b => b < w.heap.size) ((w.alloc (.cells #[.int .i64 0, .int .i64 0, .slice none 0 0, .slice none 0 0] 25)).alloc (.cells #[.slice A n c, .int .i64 0] 52)) (w.heap.size + 1) 52 (some xs)) := Lib.hid (by
    have h1 := rs_built (Q := (fun b => b < w.heap.size)) (((h.lt.weak fun _ h => h.2).alloc (.cells #[.int .i64 0, .int .i64 0, .slice none 0 0, .slice none 0 0] 25))) hnc hc hn
    simpa using h1)
  have HX2 : Hid (Below w.heap.size w ((w.alloc (.cells #[.int .i64 0, .int .i64 0, .slice none 0 0, .slice none 0 0] 25)).alloc (.cells #[.slice A n c, .int .i64 0] 52))) := Lib.hid (below2_ w _ _)
  have HZ2 : Hid (Blk ((w.alloc (.cells #[.int .i64 0, .int .i64 0, .slice none 0 0, .slice none 0 0] 25)).alloc (.cells #[.slice A n c, .int .i64 0] 52)) w.heap.size 25 [.int .i64 0, .int .i64 0, .slice none 0 0, .slice none 0 0]) := Lib.hid ((Blk.fresh rfl rfl).alloc _)
  have hs2 : w.heap.size + 2 ≤ ((w.alloc (.cells #[.int .i64 0, .int .i64 0, .slice none 0 0, .slice none 0 0] 25)).alloc (.cells #[.slice A n c, .int .i64 0] 52)).heap.size := by simp
  have HNum1 : Hid (∀ W : World, Rs (fun b => b < w.heap.size) W (w.heap.size + 1) tQ (some xs) → Calls Try.prog 28 #[.pointer (some ⟨w.heap.size + 1, 0, none⟩), .int .i64 1] W fun e w' => e = .returned (.int .u64 (kd : Int)) ∧ Rs (fun b => b < w.heap.size) w' (w.heap.size + 1) tQ (nnext 1 (some xs)) ∧ W.grownBy w' (some (w.heap.size + 1))) := Lib.hid (fun W hR => hkd ▸ rnumber_rs hR 1 rfl)
  have HNum2 : Hid (∀ W : World, Rs (fun b => b < w.heap.size) W (w.heap.size + 1) tQ (nnext 1 (some xs)) → Calls Try.prog 28 #[.pointer (some ⟨w.heap.size + 1, 0, none⟩), .int .i64 1] W fun e w' => e = .returned (.int .u64 (fr : Int)) ∧ Rs (fun b => b < w.heap.size) w' (w.heap.size + 1) tQ (nnext 1 (nnext 1 (some xs))) ∧ W.grownBy w' (some (w.heap.size + 1))) := Lib.hid (fun W hR => hfr ▸ rnumber_rs hR 1 rfl)
  have HRow : Hid (∀ W, Rs (fun b => b < w.heap.size) W (w.heap.size + 1) tQ (nnext 1 (nnext 1 (some xs))) → Calls Try.prog 29 #[.pointer (some ⟨w.heap.size + 1, 0, none⟩), .int .i64 1048576] W fun e w' => ∃ B m cX, e = .returned (.slice B m cX) ∧ (m ≤ cX ∧ cX ≤ maxLen) ∧ By w' (fun b => W.heap.size ≤ b) B m bd ∧ Rs (fun b => b < w.heap.size) w' (w.heap.size + 1) tQ s1 ∧ W.grownBy w' (some (w.heap.size + 1))) := Lib.hid (fun W hR => by
    have h9 := rrow_rsF hR 1048576 (by omega)
    rw [hbd, hs1, show ((1048576 : Nat) : Int) = 1048576 from rfl] at h9
    exact h9)
  have HCnt : Hid (∀ W, Rs (fun b => b < w.heap.size) W (w.heap.size + 1) tQ s1 → Calls Try.prog 30 #[.pointer (some ⟨w.heap.size + 1, 0, none⟩), .int .i64 7] W fun e w' => e = .returned (.int .i64 (cval 7 s1)) ∧ Rs (fun b => b < w.heap.size) w' (w.heap.size + 1) tQ (cnext 7 s1) ∧ W.grownBy w' (some (w.heap.size + 1))) := Lib.hid (fun W hR => rcount_rs hR 7)
  have hcv1 := fun (W : World) => conv_small 37 3 Try.underlying37 Try.underlying3 (nval 1 (some xs)) (by have := nval_lt 1 (some xs); simp only [e1] at this; omega) W
  have hcv2 := fun (W : World) => conv_small 37 3 Try.underlying37 Try.underlying3 (nval 1 (nnext 1 (some xs))) (by have := nval_lt 1 (nnext 1 (some xs)); simp only [e1] at this; omega) W
  rw [hkd] at hcv1
  rw [hfr] at hcv2
  have HPP := Lib.hid hP
  have HLL := Lib.hid hL
  have HCL := Lib.hid hbl
  have HCK := Lib.hid hck
  have HKd := Lib.hid hkd
  have HFr := Lib.hid hfr
  clear h hN hkd hfr hbd hs1 hP hPP hbl hL hck hlen
  go_enter Try.func15, Try.ntmps15
  go_upto_block 0 with (first
    | (go_at_call 28; (refine (HNum1.out _ HR2.out).mono ?_); rintro e w3 ⟨rfl, hr3, hg3⟩; have HR3 := Lib.hid hr3; have HX3 : Hid (Below w.heap.size w w3) := Lib.hid (HX2.out.grown hg3 HX2.out.size (fun k hk => by have := Option.some.inj hk; omega)); have HZ3 := Lib.hid (HZ2.out.grown hg3 (by simp)); have hs3 : w.heap.size + 2 ≤ w3.heap.size := Nat.le_trans hs2 hg3.size; clear hr3 hg3)
    | (go_at_call 28; (refine (HNum2.out _ HR3.out).mono ?_); rintro e w4 ⟨rfl, hr4, hg4⟩; have HR4 := Lib.hid hr4; have HX4 : Hid (Below w.heap.size w w4) := Lib.hid (HX3.out.grown hg4 HX3.out.size (fun k hk => by have := Option.some.inj hk; omega)); have HZ4 := Lib.hid (HZ3.out.grown hg4 (by simp)); have hs4 : w.heap.size + 2 ≤ w4.heap.size := Nat.le_trans hs3 hg4.size; clear hr4 hg4)
    | (go_at_call 29; (refine (HRow.out _ HR4.out).mono ?_); rintro e w5 ⟨Bc, mc, cc, rfl, hcc, hyc, hr5, hg5⟩; have HCC := Lib.hid hcc; have HR5 := Lib.hid hr5; have HY5 := Lib.hid (hyc.weak (Q' := fun _ => True) fun _ _ => trivial); have HX5 : Hid (Below w.heap.size w w5) := Lib.hid (HX4.out.grown hg5 HX4.out.size (fun k hk => by have := Option.some.inj hk; omega)); have HZ5 := Lib.hid (HZ4.out.grown hg5 (by simp)); have hs5 : w.heap.size + 2 ≤ w5.heap.size := Nat.le_trans hs4 hg5.size; clear hr5 hg5 hyc hcc)
    | (go_at_call 30; (refine (HCnt.out _ (HR5.out.alloc (.cells #[.int .i64 (kd : Int), .int .i64 (fr : Int), .slice Bc mc cc, .slice none 0 0] 25))).mono ?_); rintro e w6 ⟨rfl, hr6, hg6⟩; have HR6 := Lib.hid hr6; have HG6 : Hid (w5.grownBy w6 (some (w.heap.size + 1))) := Lib.hid (only_trans (only_below (below1_ w5 (.cells #[.int .i64 (kd : Int), .int .i64 (fr : Int), .slice Bc mc cc, .slice none 0 0] 25))) hg6); have HB6 : Hid (Blk w6 w5.heap.size 25 [.int .i64 (kd : Int), .int .i64 (fr : Int), .slice Bc mc cc, .slice none 0 0]) := Lib.hid ((Blk.fresh rfl rfl : Blk (w5.alloc (.cells #[.int .i64 (kd : Int), .int .i64 (fr : Int), .slice Bc mc cc, .slice none 0 0] 25)) w5.heap.size 25 [.int .i64 (kd : Int), .int .i64 (fr : Int), .slice Bc mc cc, .slice none 0 0]).grown hg6 (by simp; omega)); have hs6 : (w5.heap.size + 1) ≤ w6.heap.size := (by have := hg6.size; simpa using this); clear hr6 hg6))
  go_cut [6, 7, 8, 9] from 28 to 56 (fun _ _ _ _ wx => ∃ (pre : List (List UInt8)) (Av : Option Addr) (nv cv : Nat) (s : Option (List UInt8)), L = (pre, s) ∧ Rs (fun b => b < w.heap.size) wx (w.heap.size + 1) tQ s ∧ OTs wx (w5.heap.size + 1) (Av, nv, cv) pre ∧ Blk wx w5.heap.size 25 [.int .i64 (kd : Int), .int .i64 (fr : Int), .slice Bc mc cc, .slice Av nv cv] ∧ w5.grownBy wx (some (w.heap.size + 1)) ∧ (w5.heap.size + 1) ≤ wx.heap.size)
  case first =>
    clear hcv1 hcv2
    go_wp2_with fail
    go_loopw [6] (fun iv wr => ∃ (r : Nat), ∃ (pre : List (List UInt8)) (Av : Option Addr) (nv cv : Nat) (s : Option (List UInt8)), r + pre.length ≤ 7 ∧ iv = .int .i64 (r : Int) ∧ (pre ++ (rdMany rdTg r s).1, (rdMany rdTg r s).2) = L ∧ Rs (fun b => b < w.heap.size) wr (w.heap.size + 1) tQ s ∧ OTs wr (w5.heap.size + 1) (Av, nv, cv) pre ∧ Blk wr w5.heap.size 25 [.int .i64 (kd : Int), .int .i64 (fr : Int), .slice Bc mc cc, .slice Av nv cv] ∧ w5.grownBy wr (some (w.heap.size + 1)) ∧ (w5.heap.size + 1) ≤ wr.heap.size) (fun iv _ => (intOf iv).toNat)
    case atStart => exact ⟨_, [], none, 0, 0, _, by have := HCK.out; simp; omega, rfl, by simpa using HLL.out, HR6.out, ⟨Os.nil _ _ _ _, fun t h => by cases h⟩, HB6.out, HG6.out, hs6⟩
    case round =>
      obtain ⟨r, pre, Av, nv, cv, s, hk, rfl, hL, hr, ho, hb, hg, hs⟩ := hrel
      obtain ⟨wj, hwj⟩ : ∃ wj, wj = wr := ⟨_, rfl⟩
      subst hwj
      have HRj := Lib.hid hr; have HOj := Lib.hid ho; have HEj := Lib.hid hb; have HGj := Lib.hid hg; have HSj := Lib.hid hs; have HKb := Lib.hid hk
      obtain ⟨er, hcell, her⟩ := HRj.out.err
      clear hr ho hb hg hs
      cases r with
      | zero =>
        rw [rdMany_zero] at hL
        have HL2 := Lib.hid hL
        clear hL her hcell
        go_wp2
        go_meet
        case rel => exact ⟨pre, Av, nv, cv, s, (by have := HL2.out; simpa using this.symm), HRj.out, HOj.out, HEj.out, HGj.out, HSj.out⟩
      | succ r =>
        have hkd : decide ((0 : Int) < (r : Int) + 1) = true := decide_eq_true (by omega)
        have hwr : IntKind.i64.wrap ((r : Int) + 1 - 1) = (r : Int) := by rw [IntWalk.i64_in _ (by omega)]; omega
        have hwr2 : (r : Int) + 1 - 1 = (r : Int) := by omega
        cases s with
        | none =>
          rw [rdMany_none] at hL
          have HL2 := Lib.hid hL
          have hne : (er == 0) = false := by simpa using her
          clear hL her
          go_wp2
          go_meet
          case rel => exact ⟨pre, Av, nv, cv, none, (by have := HL2.out; simpa using this.symm), HRj.out, HOj.out, HEj.out, HGj.out, HSj.out⟩
        | some x =>
          have he0 : er = 0 := her.2 (by simp)
          subst he0
          have HLn : Hid ((pre ++ [tagOf (tval 32 (some x))] ++ (rdMany rdTg r (nnext 32 (some x))).1, (rdMany rdTg r (nnext 32 (some x))).2) = L) := Lib.hid (by
            have h9 := (rdMany_step rdTg r x pre).symm.trans hL
            unfold rdTg at h9
            exact h9)
          clear hL her
          go_wp2_with (first
            | (go_at_call 31; (refine (rfixed_rsF (HRj.out.alloc (.cells #[.int .u8 0, .int .u8 0, .int .u8 0, .int .u8 0, .int .u8 0, .int .u8 0, .int .u8 0, .int .u8 0, .int .u8 0, .int .u8 0, .int .u8 0, .int .u8 0, .int .u8 0, .int .u8 0, .int .u8 0, .int .u8 0, .int .u8 0, .int .u8 0, .int .u8 0, .int .u8 0, .int .u8 0, .int .u8 0, .int .u8 0, .int .u8 0, .int .u8 0, .int .u8 0, .int .u8 0, .int .u8 0, .int .u8 0, .int .u8 0, .int .u8 0, .int .u8 0] 40)) 32).mono ?_); rintro e wd ⟨Bf, mf, cf, rfl, hyf, hrf, hgf⟩; have HRd := Lib.hid hrf; have HYd := Lib.hid hyf; have HTd : Hid (Blk wd wj.heap.size 40 (vs (List.replicate 32 0))) := Lib.hid ((Blk.fresh rfl rfl : Blk (wj.alloc (.cells #[.int .u8 0, .int .u8 0, .int .u8 0, .int .u8 0, .int .u8 0, .int .u8 0, .int .u8 0, .int .u8 0, .int .u8 0, .int .u8 0, .int .u8 0, .int .u8 0, .int .u8 0, .int .u8 0, .int .u8 0, .int .u8 0, .int .u8 0, .int .u8 0, .int .u8 0, .int .u8 0, .int .u8 0, .int .u8 0, .int .u8 0, .int .u8 0, .int .u8 0, .int .u8 0, .int .u8 0, .int .u8 0, .int .u8 0, .int .u8 0, .int .u8 0, .int .u8 0] 40)) wj.heap.size 40 (vs (List.replicate 32 0))).grown hgf (by have := HSj.out; simp; omega)); have HGd : Hid (wj.grownBy wd (some (w.heap.size + 1))) := Lib.hid (only_trans (only_below (below1_ wj (.cells #[.int .u8 0, .int .u8 0, .int .u8 0, .int .u8 0, .int .u8 0, .int .u8 0, .int .u8 0, .int .u8 0, .int .u8 0, .int .u8 0, .int .u8 0, .int .u8 0, .int .u8 0, .int .u8 0, .int .u8 0, .int .u8 0, .int .u8 0, .int .u8 0, .int .u8 0, .int .u8 0, .int .u8 0, .int .u8 0, .int .u8 0, .int .u8 0, .int .u8 0, .int .u8 0, .int .u8 0, .int .u8 0, .int .u8 0, .int .u8 0, .int .u8 0, .int .u8 0] 40))) hgf); have HSd : Hid (wj.heap.size + 1 ≤ wd.heap.size) := Lib.hid (by have := hgf.size; simpa using this); clear hyf hrf hgf))
          clear hcell hkd
          go_loopw [42] (fun iv wr => ∃ i : Nat, i ≤ mf ∧ iv = .int .i64 (i : Int) ∧ Blk wr wj.heap.size 40 (vs ((tval 32 (some x)).take i ++ List.replicate (32 - i) 0)) ∧ wd.grownBy wr (some wj.heap.size)) (fun iv _ => mf - (intOf iv).toNat)
          case atStart => exact ⟨0, Nat.zero_le _, rfl, HTd.out, only_refl _ _⟩
          case round =>
            obtain ⟨i, hi, rfl, hb3, hg3⟩ := hrel
            have H3 := Lib.hid hb3
            have HG3 := Lib.hid hg3
            have hml : (tval 32 (some x)).length = mf := HYd.out.len
            have h32 : mf ≤ 32 := by rcases tval_32 (some x) with h9 | h9 <;> rw [h9] at hml <;> (try simp at hml) <;> omega
            have hy3 : By wr (fun b => (wj.alloc (.cells #[.int .u8 0, .int .u8 0, .int .u8 0, .int .u8 0, .int .u8 0, .int .u8 0, .int .u8 0, .int .u8 0, .int .u8 0, .int .u8 0, .int .u8 0, .int .u8 0, .int .u8 0, .int .u8 0, .int .u8 0, .int .u8 0, .int .u8 0, .int .u8 0, .int .u8 0, .int .u8 0, .int .u8 0, .int .u8 0, .int .u8 0, .int .u8 0, .int .u8 0, .int .u8 0, .int .u8 0, .int .u8 0, .int .u8 0, .int .u8 0, .int .u8 0, .int .u8 0] 40)).heap.size ≤ b) Bf mf (tval 32 (some x)) := (HYd.out.lt.keep fun b hb => hg3.block b hb.2 (fun e => by have := Option.some.inj e; have h7 : wj.heap.size + 1 ≤ b := (by simpa using hb.1); omega)).weak fun _ h => h.1
            clear hb3 hg3
            by_cases hli : i < mf
            · have hil : i < (tval 32 (some x)).length := by omega
              have hi32 : i < 32 := by omega
              obtain ⟨gb, ob, rfl, hc3⟩ := hy3.cell i hil
              unfold _root_.Go.Proofs.Ytkklgfcmgefedaa.u8 at hc3
              have HPN := Lib.hid (put_next hil hi32)
              clear hy3 hml
              go_wp2_with (first
                | (refine wpList_store_cell rfl 5 (.tmp 49) (.tmp 48) rfl wj.heap.size i (by simp [Act.eval]) (_root_.Go.Proofs.Ytkklgfcmgefedaa.u8 (tval 32 (some x))[i]) (by simp [Act.eval, _root_.Go.Proofs.Ytkklgfcmgefedaa.u8]) rfl rfl (fun w => by kernel_rfl) 40 (vs ((tval 32 (some x)).take i ++ List.replicate (32 - i) 0)) H3.out (by rw [vs_length]; simp; omega) ?_; intro w8 hb8 hg8; have H8 := Lib.hid hb8; have HG8 := Lib.hid (only_trans HG3.out hg8); clear hb8 hg8))
              go_roundw
              case rel => exact ⟨i + 1, by omega, by go_num, (by have h9 := H8.out; rw [HPN.out] at h9; exact h9), HG8.out⟩
              case measure => simp [intOf]; omega
            · have hie : i = mf := by omega
              subst hie
              obtain ⟨tg, htg⟩ : ∃ tg, tagOf (tval 32 (some x)) = tg := ⟨_, rfl⟩
              have htl : tg.length = 32 := by rw [← htg]; exact tagOf_len _
              have HTL := Lib.hid htl
              have HT3 : Hid (Blk wr wj.heap.size 40 (vs tg)) := Lib.hid (by rw [← htg, ← copied (some x) hml]; exact H3.out)
              have HGw : Hid (wj.grownBy wr (some (w.heap.size + 1))) := Lib.hid (only_own_ HGd.out HG3.out (fun h e => by have := Option.some.inj e; omega))
              have HOw := Lib.hid (HOj.out.1.far HGw.out (by omega))
              have HEw := Lib.hid (HEj.out.grown HGw.out (by simp; omega))
              have HRw := Lib.hid (HRd.out.other HG3.out (fun b hb => ⟨fun e => by have := Option.some.inj hb; have := HSj.out; omega, fun h9 => by have := Option.some.inj hb; have := HSj.out; omega⟩))
              have hsw : (w5.heap.size + 1) ≤ wr.heap.size := Nat.le_trans HSj.out HGw.out.size
              have HSw := Lib.hid hsw
              have le3 := HEw.out.cellAt (i := 3) rfl
              have HLm : Hid ((pre ++ [tg] ++ (rdMany rdTg r (nnext 32 (some x))).1, (rdMany rdTg r (nnext 32 (some x))).2) = L) := Lib.hid (by have h9 := HLn.out; rw [htg] at h9; exact h9)
              clear htg htl hy3 hml h32
              go_wp2_with (first
                | (refine wpList_load_mid rfl 40 (.tmp 7) rfl wj.heap.size 0 rfl (vs tg) _ HT3.out.whole Try.underlying40 rfl (by rw [vs_length, HTL.out]; kernel_rfl) ?_)
                | (refine wpList_build_el rfl Try.el_tg (.tmp 53) rfl (vs tg) rfl (by rw [vs_length, HTL.out]) ?_)
                | (at_builtin; refine wpList_append_el rfl Try.el_tg (.tmp 52) (.tmp 54) rfl (w5.heap.size + 1) (.slice Av nv cv) (pre.map vs) rfl (HOw.out.alloc (.cells (vs tg).toArray 40)) wr.heap.size (vs tg) rfl (Blk.fresh rfl rfl) (by rw [vs_length, HTL.out]) vs_one (by rw [List.length_map]; have := HKb.out; omega) (by (try simp); have := HSw.out; omega) ?_; intro v4 w9 ho4 hg4; have HW := Lib.hid (fun b hb => (HOw.out.lt b hb).1); obtain ⟨A7, c7, rfl, _, _, _⟩ := ho4.out; have HO9 : Hid (Os w9 (w5.heap.size + 1) 40 32 (.slice A7 (pre.length + 1) c7) (pre.map vs ++ [vs tg])) := Lib.hid (by rw [show (pre.map vs ++ [vs tg]).length = pre.length + 1 by simp] at ho4; exact ho4); have HE9 := Lib.hid ((HEw.out.alloc (.cells (vs tg).toArray 40)).grown hg4 (fun e => by have := HW.out _ e.symm; omega)); have HR9 := Lib.hid ((HRw.out.alloc (.cells (vs tg).toArray 40)).other hg4 (fun b hb => ⟨fun e => by have := HW.out b hb; omega, fun h9 => by have := HW.out b hb; exact absurd (show b < w.heap.size from h9) (by omega)⟩)); have HG9 : Hid (w5.grownBy w9 (some (w.heap.size + 1))) := Lib.hid (only_own_ (only_trans (only_trans HGj.out HGw.out) (only_below (below1_ wr (.cells (vs tg).toArray 40)))) hg4 (fun h e => by have := HW.out h e; omega)); have HS9 : Hid ((w5.heap.size + 1) ≤ w9.heap.size) := Lib.hid (Nat.le_trans (Nat.le_trans HSw.out (below1_ wr (.cells (vs tg).toArray 40)).size) hg4.size); clear ho4 hg4)
                | (refine wpList_store_cell rfl 23 (.tmp 56) (.tmp 55) rfl w5.heap.size 3 rfl (.slice A7 (pre.length + 1) c7) rfl rfl rfl (fun w => by kernel_rfl) 25 [.int .i64 (kd : Int), .int .i64 (fr : Int), .slice Bc mc cc, .slice Av nv cv] HE9.out (by simp) ?_; intro w7 hb5 hg5; have HE7 := Lib.hid hb5; have HR7 := Lib.hid (HR9.out.other hg5 (fun b hb => ⟨fun e => by have := Option.some.inj hb; omega, fun h9 => by have := Option.some.inj hb; exact absurd (show b < w.heap.size from h9) (by omega)⟩)); have HO7 : Hid (OTs w7 (w5.heap.size + 1) (A7, pre.length + 1, c7) (pre ++ [tg])) := Lib.hid ⟨by (have h9 := HO9.out.far hg5 (by omega); rw [List.map_append]; exact h9), fun t ht => (List.mem_append.1 ht).elim (HOj.out.2 t) (fun h => by rw [List.mem_singleton.1 h]; exact HTL.out)⟩; have HG7 : Hid (w5.grownBy w7 (some (w.heap.size + 1))) := Lib.hid (only_own_ HG9.out hg5 (fun h e => by have := Option.some.inj e; omega)); have HS7 : Hid ((w5.heap.size + 1) ≤ w7.heap.size) := Lib.hid (Nat.le_trans HS9.out hg5.size); clear hb5 hg5))
              go_roundw
              case rel => exact ⟨r, pre ++ [tg], A7, pre.length + 1, c7, nnext 32 (some x), by have := HKb.out; simp; omega, by go_num, HLm.out, HR7.out, HO7.out, HE7.out, HG7.out, HS7.out⟩
              case measure => simp [intOf]
  case rest =>
    obtain ⟨pre, Av, nv, cv, s, hLe, hr, ho, hb, hg, hs⟩ := hcut
    have hL1 : L.1 = pre := by rw [hLe]
    have hL2 : L.2 = s := by rw [hLe]
    have hpl : pre.length ≤ 7 := by rw [← hL1]; exact HLl.out
    have HPQ : Hid (P = if s = some [] ∧ chkM ⟨(kd : Int), (fr : Int), bd, pre⟩ = 0 then (⟨(kd : Int), (fr : Int), bd, pre⟩, 0) else (Ms.no, 2)) := Lib.hid (by rw [HPP.out, hL1, hL2])
    have HRz := Lib.hid hr; have HBz := Lib.hid hb; have HTz := Lib.hid ho.out
    have HXz : Hid (Below w.heap.size w wc) := Lib.hid (HX5.out.grown hg HX5.out.size (fun k hk => by have := Option.some.inj hk; omega))
    have HZz := Lib.hid (HZ5.out.grown hg (by simp))
    have HYz := Lib.hid (HR5.out.by_keep HY5.out hg)
    have hnv : pre.length = nv := ho.out.len
    have hck : Calls Try.prog 10 #[.agg #[.int .i64 (kd : Int), .int .i64 (fr : Int), .slice Bc mc cc, .slice Av nv cv]] wc fun e w' => e = .returned (.int .i64 (chkM ⟨(kd : Int), (fr : Int), bd, pre⟩)) ∧ Below wc.heap.size wc w' := rmcheck_any ⟨(kd : Int), (fr : Int), bd, pre⟩ Bc mc cc Av nv cv wc ⟨HYz.out, HTz.out⟩ (by rw [encM_len _ ho.out.2.1]; have := HCL.out; simp only; omega) (by omega)
    clear hr ho hb hg hs hLe hL1 hL2 hpl hnv hcv1 hcv2
    by_cases hst : s = some []
    case neg =>
      have HST := Lib.hid hst
      have hpe : P = (Ms.no, 2) := by rw [HPQ.out, if_neg (fun h => hst h.1)]
      subst hpe
      clear hst hck
      go_wp2_with (first
        | (go_at_call 32; (refine (rend_rs HRz.out).mono ?_); rintro e wE ⟨x, rfl, hx, rfl⟩; have hx0 : ¬ x = 0 := (fun h9 => HST.out (hx.1 h9)); have hxb : (x == 0) = false := (by simpa using hx0); have hxd : (x != 0) = true := (by simpa using hx0); clear hx hx0)
        | (refine wpList_store_blk rfl 25 (.tmp 2) (.tmp 65) rfl w.heap.size [.int .i64 0, .int .i64 0, .slice none 0 0, .slice none 0 0] rfl rfl 25 [.int .i64 0, .int .i64 0, .slice none 0 0, .slice none 0 0] HZz.out (by kernel_rfl) rfl (one4m _ _ _ _ _ _ _ _) ?_; intro wy hby hgy; have HGy := Lib.hid hgy; have HBy := Lib.hid hby; have HXy : Hid (Below w.heap.size w wy) := Lib.hid (HXz.out.grown hgy HXz.out.size (fun k hk => by have := Option.some.inj hk; omega)); clear hby hgy))
      (try simp only [Exit.inBlock, Exit.then]); refine bodyPost_ret (results_cell_row_tmp1 rfl _ _ w.heap.size 25 _ (0, 0) _ rfl HBy.out Try.underlying25 rfl (by kernel_rfl)) rfl ?_
      exact ⟨none, 0, 0, none, 0, 0, rfl, MsIn.no_ _, HXy.out⟩
    have HST := Lib.hid hst
    by_cases her : chkM ⟨(kd : Int), (fr : Int), bd, pre⟩ = 0
    case pos =>
      have hpe : P = (⟨(kd : Int), (fr : Int), bd, pre⟩, 0) := by rw [HPQ.out, if_pos ⟨hst, her⟩]
      subst hpe
      rw [her] at hck
      have HCk := Lib.hid hck
      clear hst hck her
      go_wp2_with (first
        | (go_at_call 32; (refine (rend_rs HRz.out).mono ?_); rintro e wE ⟨x, rfl, hx, rfl⟩; have hx0 : x = 0 := hx.2 HST.out; subst hx0; clear hx)
        | (refine wpList_load_blk_g 25 (.tmp 5) rfl (by kernel_rfl) w5.heap.size rfl 25 [.int .i64 (kd : Int), .int .i64 (fr : Int), .slice Bc mc cc, .slice Av nv cv] _ HBz.out Try.underlying25 rfl (by kernel_rfl) ?_)
        | (go_at_call 10; (with_reducible refine (HCk.out).mono ?_); rintro e wk ⟨rfl, hbk⟩; have HXk := Lib.hid (below_step HXz.out hbk); have HZk := Lib.hid (HZz.out.through hbk); have HTk := Lib.hid (HTz.out.through hbk); have HYk := Lib.hid (HYz.out.through hbk); have HBk := Lib.hid (HBz.out.through hbk); clear hbk)
        | (refine wpList_load_blk rfl 25 (.tmp 5) rfl w5.heap.size rfl 25 [.int .i64 (kd : Int), .int .i64 (fr : Int), .slice Bc mc cc, .slice Av nv cv] _ HBk.out Try.underlying25 rfl (by kernel_rfl) ?_)
        | (refine wpList_store_blk rfl 25 (.tmp 2) (.tmp 66) rfl w.heap.size [.int .i64 (kd : Int), .int .i64 (fr : Int), .slice Bc mc cc, .slice Av nv cv] rfl rfl 25 [.int .i64 0, .int .i64 0, .slice none 0 0, .slice none 0 0] HZk.out (by kernel_rfl) rfl (one4m _ _ _ _ _ _ _ _) ?_; intro wy hby hgy; have HGy := Lib.hid hgy; have HBy := Lib.hid hby; have HXy : Hid (Below w.heap.size w wy) := Lib.hid (HXk.out.grown hgy HXk.out.size (fun k hk => by have := Option.some.inj hk; omega)); clear hby hgy))
      (try simp only [Exit.inBlock, Exit.then]); refine bodyPost_ret (results_cell_row_tmp1 rfl _ _ w.heap.size 25 _ (0, 0) _ rfl HBy.out Try.underlying25 rfl (by kernel_rfl)) rfl ?_
      exact ⟨Bc, mc, cc, Av, nv, cv, rfl, ⟨HYk.out.far HGy.out HZk.out (no8 _ _ _ _ _ _ _ _), HTk.out.far_ HGy.out HZk.out (no8 _ _ _ _ _ _ _ _)⟩, HXy.out⟩
    case neg =>
      obtain ⟨er, her2⟩ : ∃ er, chkM ⟨(kd : Int), (fr : Int), bd, pre⟩ = er := ⟨_, rfl⟩
      have hpe : P = (Ms.no, 2) := by rw [HPQ.out, if_neg (fun h => her h.2)]
      subst hpe
      rw [her2] at hck her
      have HCk := Lib.hid hck
      have hkb : (er == 0) = false := by simpa using her
      have hkd : (er != 0) = true := by simpa using her
      clear hst hck her her2
      go_wp2_with (first
        | (go_at_call 32; (refine (rend_rs HRz.out).mono ?_); rintro e wE ⟨x, rfl, hx, rfl⟩; have hx0 : x = 0 := hx.2 HST.out; subst hx0; clear hx)
        | (refine wpList_load_blk_g 25 (.tmp 5) rfl (by kernel_rfl) w5.heap.size rfl 25 [.int .i64 (kd : Int), .int .i64 (fr : Int), .slice Bc mc cc, .slice Av nv cv] _ HBz.out Try.underlying25 rfl (by kernel_rfl) ?_)
        | (go_at_call 10; (with_reducible refine (HCk.out).mono ?_); rintro e wk ⟨rfl, hbk⟩; have HXk := Lib.hid (below_step HXz.out hbk); have HZk := Lib.hid (HZz.out.through hbk); have HTk := Lib.hid (HTz.out.through hbk); have HYk := Lib.hid (HYz.out.through hbk); have HBk := Lib.hid (HBz.out.through hbk); clear hbk)
        | (refine wpList_store_blk rfl 25 (.tmp 2) (.tmp 65) rfl w.heap.size [.int .i64 0, .int .i64 0, .slice none 0 0, .slice none 0 0] rfl rfl 25 [.int .i64 0, .int .i64 0, .slice none 0 0, .slice none 0 0] HZk.out (by kernel_rfl) rfl (one4m _ _ _ _ _ _ _ _) ?_; intro wy hby hgy; have HGy := Lib.hid hgy; have HBy := Lib.hid hby; have HXy : Hid (Below w.heap.size w wy) := Lib.hid (HXk.out.grown hgy HXk.out.size (fun k hk => by have := Option.some.inj hk; omega)); clear hby hgy))
      (try simp only [Exit.inBlock, Exit.then]); refine bodyPost_ret (results_cell_row_tmp1 rfl _ _ w.heap.size 25 _ (0, 0) _ rfl HBy.out Try.underlying25 rfl (by kernel_rfl)) rfl ?_
      exact ⟨none, 0, 0, none, 0, 0, rfl, MsIn.no_ _, HXy.out⟩

end Go.Proofs.Ytkklgfcmgefedaa
