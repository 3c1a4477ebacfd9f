/-
  The document's ParseCore, walked.
-/
import Derived.Test.YtfonkdcpghbaoaaRqC
import Derived.Test.YtfonkdcpghbaoaaCoR
import Derived.Test.YtfonkdcpghbaoaaEl2
import Derived.Deep.CutRange
namespace Go.Proofs.Ytfonkdcpghbaoaa
open Go.RowKit

theorem wrap_sx (v : Nat) (h : v < 18446744073709551616) : IntKind.i64.wrap (v : Int) = sx 8 v := by
  have e : ∀ V, sx 8 V = if V < 9223372036854775808 then (V : Int) else V - 18446744073709551616 := fun V => by simp [sx]
  rw [e]
  simp [IntKind.wrap, IntKind.signed, IntKind.bits]
  split <;> omega
theorem sx_small {v : Nat} (h : v < 9223372036854775808) : sx 8 v = v := by simp [sx, h]
theorem conv_i64 {P : Program} (t t' : TypeId) (ht : P.underlying t = some (.int .u64)) (ht' : P.underlying t' = some (.int .i64)) (v : Nat) (h : v < 18446744073709551616) (w : World) : (convert t t' (.int .u64 (v : Int))).run P w = .ok (.int .i64 (sx 8 v)) w := by
  simp [convert, run_underlying ht, run_underlying ht', Conv.intToInt, wrap_sx v h]
theorem conv_small {P : Program} (t t' : TypeId) (ht : P.underlying t = some (.int .u64)) (ht' : P.underlying t' = some (.int .i64)) (v : Nat) (h : v < 9223372036854775808) (w : World) : (convert t t' (.int .u64 (v : Int))).run P w = .ok (.int .i64 (v : Int)) w := by
  rw [conv_i64 t t' ht ht' v (by omega), sx_small h]

theorem only_new {a b c : World} {g h : Nat} (hab : a.grownBy b (some g)) (hbc : b.grownBy c (some h)) (hh : a.heap.size ≤ h) : a.grownBy c (some g) :=
  ⟨hbc.os.trans hab.os, hbc.tape.trans hab.tape, hbc.output.trans hab.output, Nat.le_trans hab.size hbc.size, fun i hi hne => (hbc.block i (Nat.lt_of_lt_of_le hi hab.size) (fun e => by have := Option.some.inj e; omega)).trans (hab.block i hi hne)⟩
/-- A block of cells that are no bytes is turned. -/
theorem By.far {w w' : World} {A : Option Addr} {n g : Nat} {xs : List UInt8} {t : TypeId} {cs : List Value} (h : By w (fun _ => True) A n xs) (hg : w.grownBy w' (some g)) (hb : Blk w g t cs) (hc : ∀ v ∈ cs, ∀ u : UInt8, v ≠ u8 u) : By w' (fun _ => True) A n xs :=
  ⟨h.1, fun hn => by
    obtain ⟨b, o, e, _, hc1⟩ := h.2 hn
    refine ⟨b, o, e, trivial, fun j u hu => hg.cell (hc1 j u hu) (fun e2 => ?_)⟩
    have e3 : b = g := Option.some.inj e2
    subst e3
    have h2 := hc1 j u hu
    rw [hb.cell] at h2
    exact hc _ (List.mem_of_getElem? h2) u rfl⟩

theorem results_cell_row_tmp1 {P : Program} {fn : Func} {p u : Tmp} {ty : TypeId} (h : fn.results = #[.cell p ty, .tmp u]) (tmps : Array Value) (w : World) (g : Nat) (t : TypeId) (cs : Array Value) (fr : Nat × Nat) (d : TypeDesc)
    (hp : tmps.getD p undef = .pointer (some ⟨g, 0, none⟩)) (hg : w.heap[g]? = some (.cells cs t fr))
    (hu : P.underlying ty = some d) (hd : (match d with | .struct _ | .array _ _ => true | _ => false) = true) (hi : (P.info? ty).map (·.size) = some cs.size) :
    (results fn tmps).run P w = .ok (.tuple #[.agg cs, tmps.getD u undef]) w := by
  have hp' : tmps[p]?.getD undef = .pointer (some ⟨g, 0, none⟩) := by simpa using hp
  simp [results, h, hp', asAddr, run_loadVar_row w g t ty cs fr d hg hu hd hi]
def stL : Option (List UInt8) → Nat
  | some r => r.length
  | none => 0
theorem nnext_stL (k : Nat) (st : Option (List UInt8)) : stL (nnext k st) ≤ stL st := by
  cases st with
  | none => exact Nat.le_refl _
  | some xs => rw [nnext_some]; split <;> simp [stL]
theorem tval_stL (k : Nat) (st : Option (List UInt8)) : (tval k st).length ≤ stL st := by
  cases st with
  | none => simp [tval_none]
  | some xs => rw [tval_some]; split <;> simp [stL]; omega
theorem rval_stL (m : Nat) (st : Option (List UInt8)) : (rval m st).length ≤ stL st := by
  unfold rval
  split
  · exact Nat.le_trans (tval_stL _ _) (nnext_stL _ _)
  · simp
theorem Try.alloc_cr (g : Nat) (w : World) (hg : w.heap.size = g) : (Instr.alloc 23 true (.tuple #[])).run Try.prog w = .ok (.pointer (some ⟨g, 0, none⟩)) (w.alloc (.cells #[.int .i64 0, .int .i64 0, .int .i64 0, .string (ba []), .int .i64 0, .int .i64 0, .string (ba [])] 23)) := by
  subst hg
  kernel_rfl
theorem Try.zero_cr (w : World) : (zeroValue 23).run Try.prog w = .ok (.agg #[.int .i64 0, .int .i64 0, .int .i64 0, .string (ba []), .int .i64 0, .int .i64 0, .string (ba [])]) w := by kernel_rfl
theorem Try.build_cr (w : World) : (Instr.build 23 #[]).run Try.prog w = .ok (.agg #[.int .i64 0, .int .i64 0, .int .i64 0, .string (ba []), .int .i64 0, .int .i64 0, .string (ba [])]) w := by kernel_rfl
theorem Try.build_rdr (A : Option Addr) (n c : Nat) (w : World) : (Instr.build 76 #[(0, .slice A n c)]).run Try.prog w = .ok (.agg #[.slice A n c, .int .i64 0]) w := by kernel_rfl
theorem Try.build_c7 (a b : ByteArray) (i j k p q : Int) (w : World) : (Instr.build 23 #[(0, .int .i64 i), (1, .int .i64 j), (2, .int .i64 k), (3, .string a), (4, .int .i64 p), (5, .int .i64 q), (6, .string b)]).run Try.prog w = .ok (.agg #[.int .i64 i, .int .i64 j, .int .i64 k, .string a, .int .i64 p, .int .i64 q, .string b]) w := by kernel_rfl
theorem no_u8c (a b : ByteArray) (i j k p q : Int) : ∀ v ∈ ([.int .i64 i, .int .i64 j, .int .i64 k, .string a, .int .i64 p, .int .i64 q, .string b] : List Value), ∀ u : UInt8, v ≠ u8 u := by
  intro v hv u
  simp at hv
  rcases hv with rfl | rfl | rfl | rfl | rfl | rfl | rfl <;> simp [u8]
theorem one7 (a b : ByteArray) (i j k p q : Int) : ([.int .i64 i, .int .i64 j, .int .i64 k, .string a, .int .i64 p, .int .i64 q, .string b] : List Value).toArray.all (·.oneCell') = true := by simp [Value.oneCell']

set_option maxHeartbeats 16000000 in
set_option maxRecDepth 100000 in
theorem rparseCr_any (xs : List UInt8) (N : Int) (A : Option Addr) (n c : Nat) (w : World) (h : By w (fun _ => True) A n xs) (hnc : n ≤ c) (hc : c ≤ maxLen) (hn : n ≤ 1000000) :
    Calls Try.prog 14 #[.slice A n c, .int .i64 N] w fun e w' => e = .returned (.tuple #[.agg #[.int .i64 (parseCr 1048576 xs N).1.cl, .int .i64 (parseCr 1048576 xs N).1.sp, .int .i64 (parseCr 1048576 xs N).1.op, .string (ba (parseCr 1048576 xs N).1.lt), .int .i64 (parseCr 1048576 xs N).1.a, .int .i64 (parseCr 1048576 xs N).1.b, .string (ba (parseCr 1048576 xs N).1.tx)], .int .i64 (parseCr 1048576 xs N).2]) ∧ Below w.heap.size w w' := by
  have hbr := Try.build_rdr
  have hz := Try.zero_cr
  have hb0 := Try.build_cr
  have HR2 : Hid (Rs (fun b => b < w.heap.size) ((w.alloc (.cells #[.int .i64 0, .int .i64 0, .int .i64 0, .string (ba []), .int .i64 0, .int .i64 0, .string (ba [])] 23)).alloc (.cells #[.slice A n c, .int .i64 0] 76)) (w.heap.size + 1) 76 (some xs)) := Lib.hid (by
    have h1 := rs_built (Q := (fun b => b < w.heap.size)) (((h.lt.weak fun _ h => h.2).alloc (.cells #[.int .i64 0, .int .i64 0, .int .i64 0, .string (ba []), .int .i64 0, .int .i64 0, .string (ba [])] 23))) hnc hc (by omega)
    simpa using h1)
  have HX2 : Hid (Below w.heap.size w ((w.alloc (.cells #[.int .i64 0, .int .i64 0, .int .i64 0, .string (ba []), .int .i64 0, .int .i64 0, .string (ba [])] 23)).alloc (.cells #[.slice A n c, .int .i64 0] 76))) := Lib.hid (((Below.refl _ w).alloc (Nat.le_refl _) _).alloc (by simp) _)
  have HZ2 : Hid (Blk ((w.alloc (.cells #[.int .i64 0, .int .i64 0, .int .i64 0, .string (ba []), .int .i64 0, .int .i64 0, .string (ba [])] 23)).alloc (.cells #[.slice A n c, .int .i64 0] 76)) w.heap.size 23 [.int .i64 0, .int .i64 0, .int .i64 0, .string (ba []), .int .i64 0, .int .i64 0, .string (ba [])]) := Lib.hid ((Blk.fresh rfl rfl).alloc _)
  have hs2 : w.heap.size + 2 ≤ ((w.alloc (.cells #[.int .i64 0, .int .i64 0, .int .i64 0, .string (ba []), .int .i64 0, .int .i64 0, .string (ba [])] 23)).alloc (.cells #[.slice A n c, .int .i64 0] 76)).heap.size := by simp
  have HSZ := Lib.hid hs2
  have hxl : xs.length ≤ 1000000 := by rw [h.len]; exact hn
  obtain ⟨P, hP⟩ : ∃ P, parseCr 1048576 xs N = P := ⟨_, rfl⟩
  rw [hP]
  obtain ⟨c0, hc0⟩ : ∃ c0, (rdCr 1048576 (some xs)).1 = c0 := ⟨_, rfl⟩
  obtain ⟨st, hst0⟩ : ∃ st, (rdCr 1048576 (some xs)).2 = st := ⟨_, rfl⟩
  have hlt : c0.lt.length ≤ 1000000 := by rw [← hc0]; exact Nat.le_trans (rval_stL _ _) (Nat.le_trans (nnext_stL _ _) (Nat.le_trans (nnext_stL _ _) (Nat.le_trans (nnext_stL _ _) hxl)))
  have hpp : P = if st = some [] then (if chkC c0 N = 0 then (c0, 0) else (Cr.no, chkC c0 N)) else (Cr.no, 2) := by
    rw [← hP]
    unfold parseCr
    rw [hc0, hst0]
  have HPP := Lib.hid hpp
  have HC0 := Lib.hid hc0
  have HST0 := Lib.hid hst0
  have hck := fun W : World => rchkC_any c0 N W hlt
  have HCk0 := Lib.hid hck
  clear h hs2 hP hc0 hst0 hpp hck hlt hxl
  go_enter Try.func14, Try.ntmps14
  go_upto_region 2 with fail
  generalize hwr : (w.alloc (.cells #[.int .i64 0, .int .i64 0, .int .i64 0, .string (ba []), .int .i64 0, .int .i64 0, .string (ba [])] 23)).alloc (.cells #[.slice A n c, .int .i64 0] 76) = wr at *
  have HR := HR2
  clear hwr
  go_cut [7] from 12 to 33 (fun v wx => ∃ gz : Nat, v = .pointer (some ⟨gz, 0, none⟩) ∧ Blk wx gz 23 [.int .i64 c0.cl, .int .i64 c0.sp, .int .i64 c0.op, .string (ba c0.lt), .int .i64 c0.a, .int .i64 c0.b, .string (ba c0.tx)] ∧ Rs (fun b => b < w.heap.size) wx (w.heap.size + 1) tQ st ∧ wr.heap.size ≤ gz ∧ Blk wx w.heap.size 23 [.int .i64 0, .int .i64 0, .int .i64 0, .string (ba []), .int .i64 0, .int .i64 0, .string (ba [])] ∧ Below w.heap.size w wx)
  case first =>
    refine wp_region_held_drew (S := fun W => wr.grownBy W (some (w.heap.size + 1))) (by kernel_rfl) (only_below (Below.refl _ _).drew) (fun hHeld => ?_)
    change wpAnyH _ _ _ _ _ _ #[false, false, false, false, false, false, false, false, false, false, false, false, false, false, false, false, false, false, false, false, false, false, false, false] _ _
    refine wpAnyH_take (i := 0) (v := (.pointer (some ⟨(w.heap.size + 1), 0, none⟩))) rfl (by kernel_rfl) (by kernel_rfl) (by kernel_rfl) (fun _ _ _ h => h) (Or.inl ⟨by kernel_rfl, fun w hSw => ?_⟩) (by assumption) ?_
    · (try dsimp only at hSw); go_simp <;> (try rfl)
    change wpAnyH _ _ _ _ _ _ _ (Act.put _ (some (12 : Nat)) (.pointer (some ⟨(w.heap.size + 1), 0, none⟩))) _
    simp only [Act.put, List.setIfInBounds_toArray, List.set_cons_zero, List.set_cons_succ]
    refine wpAnyH_take (i := 3) (v := (.pointer (some ⟨(w.heap.size + 1), 0, none⟩))) rfl (by kernel_rfl) (by kernel_rfl) (by kernel_rfl) (fun _ _ _ h => h) (Or.inl ⟨by kernel_rfl, fun w hSw => ?_⟩) (by assumption) ?_
    · (try dsimp only at hSw); go_simp <;> (try rfl)
    change wpAnyH _ _ _ _ _ _ _ (Act.put _ (some (15 : Nat)) (.pointer (some ⟨(w.heap.size + 1), 0, none⟩))) _
    simp only [Act.put, List.setIfInBounds_toArray, List.set_cons_zero, List.set_cons_succ]
    refine wpAnyH_take (i := 6) (v := (.pointer (some ⟨(w.heap.size + 1), 0, none⟩))) rfl (by kernel_rfl) (by kernel_rfl) (by kernel_rfl) (fun _ _ _ h => h) (Or.inl ⟨by kernel_rfl, fun w hSw => ?_⟩) (by assumption) ?_
    · (try dsimp only at hSw); go_simp <;> (try rfl)
    change wpAnyH _ _ _ _ _ _ _ (Act.put _ (some (18 : Nat)) (.pointer (some ⟨(w.heap.size + 1), 0, none⟩))) _
    simp only [Act.put, List.setIfInBounds_toArray, List.set_cons_zero, List.set_cons_succ]
    refine wpAnyH_take (i := 9) (v := (.pointer (some ⟨(w.heap.size + 1), 0, none⟩))) rfl (by kernel_rfl) (by kernel_rfl) (by kernel_rfl) (fun _ _ _ h => h) (Or.inl ⟨by kernel_rfl, fun w hSw => ?_⟩) (by assumption) ?_
    · (try dsimp only at hSw); go_simp <;> (try rfl)
    change wpAnyH _ _ _ _ _ _ _ (Act.put _ (some (21 : Nat)) (.pointer (some ⟨(w.heap.size + 1), 0, none⟩))) _
    simp only [Act.put, List.setIfInBounds_toArray, List.set_cons_zero, List.set_cons_succ]
    refine wpAnyH_take (i := 12) (v := (.pointer (some ⟨(w.heap.size + 1), 0, none⟩))) rfl (by kernel_rfl) (by kernel_rfl) (by kernel_rfl) (fun _ _ _ h => h) (Or.inl ⟨by kernel_rfl, fun w hSw => ?_⟩) (by assumption) ?_
    · (try dsimp only at hSw); go_simp <;> (try rfl)
    change wpAnyH _ _ _ _ _ _ _ (Act.put _ (some (24 : Nat)) (.pointer (some ⟨(w.heap.size + 1), 0, none⟩))) _
    simp only [Act.put, List.setIfInBounds_toArray, List.set_cons_zero, List.set_cons_succ]
    refine wpAnyH_take (i := 15) (v := (.pointer (some ⟨(w.heap.size + 1), 0, none⟩))) rfl (by kernel_rfl) (by kernel_rfl) (by kernel_rfl) (fun _ _ _ h => h) (Or.inl ⟨by kernel_rfl, fun w hSw => ?_⟩) (by assumption) ?_
    · (try dsimp only at hSw); go_simp <;> (try rfl)
    change wpAnyH _ _ _ _ _ _ _ (Act.put _ (some (27 : Nat)) (.pointer (some ⟨(w.heap.size + 1), 0, none⟩))) _
    simp only [Act.put, List.setIfInBounds_toArray, List.set_cons_zero, List.set_cons_succ]
    refine wpAnyH_take (i := 18) (v := (.pointer (some ⟨(w.heap.size + 1), 0, none⟩))) rfl (by kernel_rfl) (by kernel_rfl) (by kernel_rfl) (fun _ _ _ h => h) (Or.inl ⟨by kernel_rfl, fun w hSw => ?_⟩) (by assumption) ?_
    · (try dsimp only at hSw); go_simp <;> (try rfl)
    change wpAnyH _ _ _ _ _ _ _ (Act.put _ (some (30 : Nat)) (.pointer (some ⟨(w.heap.size + 1), 0, none⟩))) _
    simp only [Act.put, List.setIfInBounds_toArray, List.set_cons_zero, List.set_cons_succ]
    refine wpAnyH_ready (rs := [1, 22]) (by kernel_rfl) (by simp) ?_
    refine AllReadyH.cons rfl (fun K hK => ?_) (AllReadyH.cons (o := ⟨some 7, .alloc 23, _, _, _, none⟩) rfl (fun K hK => ?_) AllReadyH.nil)
    · as_aux_lemma =>
      go_simp
      refine (rnumber_rs (HR.out.drew) 1 rfl).mono ?_
      rintro e wa0 ⟨rfl, hr0, hg0⟩; have HRa0 := Lib.hid hr0; have HGa0 := Lib.hid hg0; clear hr0 hg0
      go_wp2_with fail
      refine hK.out _ _ (only_trans hHeld HGa0.out) (fun hHeld1 => ?_)
      clear hHeld hK K
      have hHeld := hHeld1
      clear hHeld1
      refine wpAnyH_take (i := 2) (v := (.int .i64 ((nval 1 (some xs) : Nat) : Int))) rfl (by kernel_rfl) (by kernel_rfl) (by kernel_rfl) (fun _ _ _ h => h) (yields_conv (by kernel_rfl) 65 3 (.tmp 13) rfl (.int .u64 ((nval 1 (some xs) : Nat) : Int)) (by simp [Act.eval]) (.int .i64 ((nval 1 (some xs) : Nat) : Int)) (fun W _ => conv_small 65 3 Try.underlying65 Try.underlying3 _ (by have := nval_lt 1 (some xs); simp only [e1] at this; omega) W)) (by assumption) ?_
      change wpAnyH _ _ _ _ _ _ _ (Act.put _ (some (14 : Nat)) (.int .i64 ((nval 1 (some xs) : Nat) : Int))) _
      simp only [Act.put, List.setIfInBounds_toArray, List.set_cons_zero, List.set_cons_succ]
      refine wpAnyH_ready (rs := [4, 22]) (by kernel_rfl) (by simp) ?_
      refine AllReadyH.cons rfl (fun K hK => ?_) (AllReadyH.cons (o := ⟨some 7, .alloc 23, _, _, _, none⟩) rfl (fun K hK => ?_) AllReadyH.nil)
      · as_aux_lemma =>
        go_simp
        refine (rnumber_rs (HRa0.out) 8 rfl).mono ?_
        rintro e wa1 ⟨rfl, hr1, hg1⟩; have HRa1 := Lib.hid hr1; have HGa1 := Lib.hid hg1; clear hr1 hg1
        go_wp2_with fail
        refine hK.out _ _ (only_trans hHeld HGa1.out) (fun hHeld1 => ?_)
        clear hHeld hK K
        have hHeld := hHeld1
        clear hHeld1
        refine wpAnyH_take (i := 5) (v := (.int .i64 (sx 8 (nval 8 (nnext 1 (some xs)))))) rfl (by kernel_rfl) (by kernel_rfl) (by kernel_rfl) (fun _ _ _ h => h) (yields_conv (by kernel_rfl) 65 2 (.tmp 16) rfl (.int .u64 ((nval 8 (nnext 1 (some xs)) : Nat) : Int)) (by simp [Act.eval]) (.int .i64 (sx 8 (nval 8 (nnext 1 (some xs))))) (fun W _ => conv_i64 65 2 Try.underlying65 Try.underlying2 _ (by have := nval_lt 8 (nnext 1 (some xs)); simp only [e8] at this; omega) W)) (by assumption) ?_
        change wpAnyH _ _ _ _ _ _ _ (Act.put _ (some (17 : Nat)) (.int .i64 (sx 8 (nval 8 (nnext 1 (some xs)))))) _
        simp only [Act.put, List.setIfInBounds_toArray, List.set_cons_zero, List.set_cons_succ]
        refine wpAnyH_ready (rs := [7, 22]) (by kernel_rfl) (by simp) ?_
        refine AllReadyH.cons rfl (fun K hK => ?_) (AllReadyH.cons (o := ⟨some 7, .alloc 23, _, _, _, none⟩) rfl (fun K hK => ?_) AllReadyH.nil)
        · as_aux_lemma =>
          go_simp
          refine (rnumber_rs (HRa1.out) 1 rfl).mono ?_
          rintro e wa2 ⟨rfl, hr2, hg2⟩; have HRa2 := Lib.hid hr2; have HGa2 := Lib.hid hg2; clear hr2 hg2
          go_wp2_with fail
          refine hK.out _ _ (only_trans hHeld HGa2.out) (fun hHeld1 => ?_)
          clear hHeld hK K
          have hHeld := hHeld1
          clear hHeld1
          refine wpAnyH_take (i := 8) (v := (.int .i64 ((nval 1 (nnext 8 (nnext 1 (some xs))) : Nat) : Int))) rfl (by kernel_rfl) (by kernel_rfl) (by kernel_rfl) (fun _ _ _ h => h) (yields_conv (by kernel_rfl) 65 3 (.tmp 19) rfl (.int .u64 ((nval 1 (nnext 8 (nnext 1 (some xs))) : Nat) : Int)) (by simp [Act.eval]) (.int .i64 ((nval 1 (nnext 8 (nnext 1 (some xs))) : Nat) : Int)) (fun W _ => conv_small 65 3 Try.underlying65 Try.underlying3 _ (by have := nval_lt 1 (nnext 8 (nnext 1 (some xs))); simp only [e1] at this; omega) W)) (by assumption) ?_
          change wpAnyH _ _ _ _ _ _ _ (Act.put _ (some (20 : Nat)) (.int .i64 ((nval 1 (nnext 8 (nnext 1 (some xs))) : Nat) : Int))) _
          simp only [Act.put, List.setIfInBounds_toArray, List.set_cons_zero, List.set_cons_succ]
          refine wpAnyH_ready (rs := [10, 22]) (by kernel_rfl) (by simp) ?_
          refine AllReadyH.cons rfl (fun K hK => ?_) (AllReadyH.cons (o := ⟨some 7, .alloc 23, _, _, _, none⟩) rfl (fun K hK => ?_) AllReadyH.nil)
          · as_aux_lemma =>
            go_simp
            refine (rrow_rs (HRa2.out) 1048576 (by omega)).mono ?_
            rintro e wa3 ⟨Ba3, ma3, ca3, rfl, hy3, hr3, hg3⟩; have HRa3 := Lib.hid hr3; have HGa3 := Lib.hid hg3; have HYa3 := Lib.hid hy3; clear hr3 hg3 hy3
            go_wp2_with fail
            refine hK.out _ _ (only_trans hHeld HGa3.out) (fun hHeld1 => ?_)
            clear hHeld hK K
            have hHeld := hHeld1
            clear hHeld1
            refine wpAnyH_weaken (S' := fun W => (wr.grownBy W (some (w.heap.size + 1))) ∧ By W (fun _ => True) Ba3 ma3 (rval 1048576 (nnext 1 (nnext 8 (nnext 1 (some xs)))))) (fun W h => h.1) _ _ _ _ ?_
            have hHeld2 := And.intro hHeld HYa3.out
            clear hHeld
            have hHeld := hHeld2
            clear hHeld2
            refine wpAnyH_take (i := 11) (v := (.string (ba (rval 1048576 (nnext 1 (nnext 8 (nnext 1 (some xs)))))))) rfl (by kernel_rfl) (by kernel_rfl) (by kernel_rfl) (fun _ _ _ h => h) (yields_conv (by kernel_rfl) 25 9 (.tmp 22) rfl (.slice Ba3 ma3 ca3) (by simp [Act.eval]) (.string (ba (rval 1048576 (nnext 1 (nnext 8 (nnext 1 (some xs))))))) (fun W hW => run_string_by W 25 9 5 Try.underlying25 Try.underlying5 Try.underlying9 _ _ _ _ _ hW.2)) (by assumption) ?_
            change wpAnyH _ _ _ _ _ _ _ (Act.put _ (some (23 : Nat)) (.string (ba (rval 1048576 (nnext 1 (nnext 8 (nnext 1 (some xs)))))))) _
            simp only [Act.put, List.setIfInBounds_toArray, List.set_cons_zero, List.set_cons_succ]
            refine wpAnyH_ready (rs := [13, 22]) (by kernel_rfl) (by simp) ?_
            refine AllReadyH.cons rfl (fun K hK => ?_) (AllReadyH.cons (o := ⟨some 7, .alloc 23, _, _, _, none⟩) rfl (fun K hK => ?_) AllReadyH.nil)
            · as_aux_lemma =>
              go_simp
              refine (rnumber_rs (HRa3.out) 8 rfl).mono ?_
              rintro e wa4 ⟨rfl, hr4, hg4⟩; have HRa4 := Lib.hid hr4; have HGa4 := Lib.hid hg4; clear hr4 hg4
              go_wp2_with fail
              refine hK.out _ _ ⟨(only_trans hHeld.1 HGa4.out), (HRa3.out).by_keep hHeld.2 HGa4.out⟩ (fun hHeld1 => ?_)
              clear hHeld hK K
              have hHeld := hHeld1
              clear hHeld1
              refine wpAnyH_take (i := 14) (v := (.int .i64 (sx 8 (nval 8 (rnext 1048576 (nnext 1 (nnext 8 (nnext 1 (some xs))))))))) rfl (by kernel_rfl) (by kernel_rfl) (by kernel_rfl) (fun _ _ _ h => h) (yields_conv (by kernel_rfl) 65 2 (.tmp 25) rfl (.int .u64 ((nval 8 (rnext 1048576 (nnext 1 (nnext 8 (nnext 1 (some xs))))) : Nat) : Int)) (by simp [Act.eval]) (.int .i64 (sx 8 (nval 8 (rnext 1048576 (nnext 1 (nnext 8 (nnext 1 (some xs)))))))) (fun W _ => conv_i64 65 2 Try.underlying65 Try.underlying2 _ (by have := nval_lt 8 (rnext 1048576 (nnext 1 (nnext 8 (nnext 1 (some xs))))); simp only [e8] at this; omega) W)) (by assumption) ?_
              change wpAnyH _ _ _ _ _ _ _ (Act.put _ (some (26 : Nat)) (.int .i64 (sx 8 (nval 8 (rnext 1048576 (nnext 1 (nnext 8 (nnext 1 (some xs))))))))) _
              simp only [Act.put, List.setIfInBounds_toArray, List.set_cons_zero, List.set_cons_succ]
              refine wpAnyH_ready (rs := [16, 22]) (by kernel_rfl) (by simp) ?_
              refine AllReadyH.cons rfl (fun K hK => ?_) (AllReadyH.cons (o := ⟨some 7, .alloc 23, _, _, _, none⟩) rfl (fun K hK => ?_) AllReadyH.nil)
              · as_aux_lemma =>
                go_simp
                refine (rnumber_rs (HRa4.out) 8 rfl).mono ?_
                rintro e wa5 ⟨rfl, hr5, hg5⟩; have HRa5 := Lib.hid hr5; have HGa5 := Lib.hid hg5; clear hr5 hg5
                go_wp2_with fail
                refine hK.out _ _ ⟨(only_trans hHeld.1 HGa5.out), (HRa4.out).by_keep hHeld.2 HGa5.out⟩ (fun hHeld1 => ?_)
                clear hHeld hK K
                have hHeld := hHeld1
                clear hHeld1
                refine wpAnyH_take (i := 17) (v := (.int .i64 (sx 8 (nval 8 (nnext 8 (rnext 1048576 (nnext 1 (nnext 8 (nnext 1 (some xs)))))))))) rfl (by kernel_rfl) (by kernel_rfl) (by kernel_rfl) (fun _ _ _ h => h) (yields_conv (by kernel_rfl) 65 2 (.tmp 28) rfl (.int .u64 ((nval 8 (nnext 8 (rnext 1048576 (nnext 1 (nnext 8 (nnext 1 (some xs)))))) : Nat) : Int)) (by simp [Act.eval]) (.int .i64 (sx 8 (nval 8 (nnext 8 (rnext 1048576 (nnext 1 (nnext 8 (nnext 1 (some xs))))))))) (fun W _ => conv_i64 65 2 Try.underlying65 Try.underlying2 _ (by have := nval_lt 8 (nnext 8 (rnext 1048576 (nnext 1 (nnext 8 (nnext 1 (some xs)))))); simp only [e8] at this; omega) W)) (by assumption) ?_
                change wpAnyH _ _ _ _ _ _ _ (Act.put _ (some (29 : Nat)) (.int .i64 (sx 8 (nval 8 (nnext 8 (rnext 1048576 (nnext 1 (nnext 8 (nnext 1 (some xs)))))))))) _
                simp only [Act.put, List.setIfInBounds_toArray, List.set_cons_zero, List.set_cons_succ]
                refine wpAnyH_ready (rs := [19, 22]) (by kernel_rfl) (by simp) ?_
                refine AllReadyH.cons rfl (fun K hK => ?_) (AllReadyH.cons (o := ⟨some 7, .alloc 23, _, _, _, none⟩) rfl (fun K hK => ?_) AllReadyH.nil)
                · as_aux_lemma =>
                  go_simp
                  refine (rrow_rs (HRa5.out) 1048576 (by omega)).mono ?_
                  rintro e wa6 ⟨Ba6, ma6, ca6, rfl, hy6, hr6, hg6⟩; have HRa6 := Lib.hid hr6; have HGa6 := Lib.hid hg6; have HYa6 := Lib.hid hy6; clear hr6 hg6 hy6
                  go_wp2_with fail
                  refine hK.out _ _ ⟨(only_trans hHeld.1 HGa6.out), (HRa5.out).by_keep hHeld.2 HGa6.out⟩ (fun hHeld1 => ?_)
                  clear hHeld hK K
                  have hHeld := hHeld1
                  clear hHeld1
                  refine wpAnyH_weaken (S' := fun W => ((wr.grownBy W (some (w.heap.size + 1))) ∧ By W (fun _ => True) Ba3 ma3 (rval 1048576 (nnext 1 (nnext 8 (nnext 1 (some xs)))))) ∧ By W (fun _ => True) Ba6 ma6 (rval 1048576 (nnext 8 (nnext 8 (rnext 1048576 (nnext 1 (nnext 8 (nnext 1 (some xs))))))))) (fun W h => h.1) _ _ _ _ ?_
                  have hHeld2 := And.intro hHeld HYa6.out
                  clear hHeld
                  have hHeld := hHeld2
                  clear hHeld2
                  refine wpAnyH_take (i := 20) (v := (.string (ba (rval 1048576 (nnext 8 (nnext 8 (rnext 1048576 (nnext 1 (nnext 8 (nnext 1 (some xs))))))))))) rfl (by kernel_rfl) (by kernel_rfl) (by kernel_rfl) (fun _ _ _ h => h) (yields_conv (by kernel_rfl) 25 9 (.tmp 31) rfl (.slice Ba6 ma6 ca6) (by simp [Act.eval]) (.string (ba (rval 1048576 (nnext 8 (nnext 8 (rnext 1048576 (nnext 1 (nnext 8 (nnext 1 (some xs)))))))))) (fun W hW => run_string_by W 25 9 5 Try.underlying25 Try.underlying5 Try.underlying9 _ _ _ _ _ hW.2)) (by assumption) ?_
                  change wpAnyH _ _ _ _ _ _ _ (Act.put _ (some (32 : Nat)) (.string (ba (rval 1048576 (nnext 8 (nnext 8 (rnext 1048576 (nnext 1 (nnext 8 (nnext 1 (some xs))))))))))) _
                  simp only [Act.put, List.setIfInBounds_toArray, List.set_cons_zero, List.set_cons_succ]
                  obtain ⟨V, hV⟩ : ∃ V : Value, V = .agg #[.int .i64 ((nval 1 (some xs) : Nat) : Int), .int .i64 (sx 8 (nval 8 (nnext 1 (some xs)))), .int .i64 ((nval 1 (nnext 8 (nnext 1 (some xs))) : Nat) : Int), .string (ba (rval 1048576 (nnext 1 (nnext 8 (nnext 1 (some xs)))))), .int .i64 (sx 8 (nval 8 (rnext 1048576 (nnext 1 (nnext 8 (nnext 1 (some xs))))))), .int .i64 (sx 8 (nval 8 (nnext 8 (rnext 1048576 (nnext 1 (nnext 8 (nnext 1 (some xs)))))))), .string (ba (rval 1048576 (nnext 8 (nnext 8 (rnext 1048576 (nnext 1 (nnext 8 (nnext 1 (some xs)))))))))] := ⟨_, rfl⟩
                  have HV := Lib.hid hV
                  clear hV
                  refine wpAnyH_take (i := 21) (v := V) rfl (by kernel_rfl) (by kernel_rfl) (by kernel_rfl) (fun _ _ _ h => h) (yields_build (by kernel_rfl) 23 _ rfl _ (by simp only [List.map_toArray, List.map_cons, List.map_nil, Act.eval]; rfl) V (fun w _ => by rw [HV.out]; exact Try.build_c7 _ _ _ _ _ _ _ w)) (by assumption) ?_
                  change wpAnyH _ _ _ _ _ _ _ (Act.put _ (some (33 : Nat)) V) _
                  simp only [Act.put, List.setIfInBounds_toArray, List.set_cons_zero, List.set_cons_succ]
                  refine wpAnyH_ready (rs := [22]) (by kernel_rfl) (by simp) ?_
                  refine AllReadyH.cons (o := ⟨some 7, .alloc 23, _, _, _, none⟩) rfl (fun K hK => ?_) AllReadyH.nil
                  obtain ⟨gz, hgz⟩ : ∃ gz, wa6.heap.size = gz := ⟨_, rfl⟩; refine step_alloc (by simp [Region.wanted]) 23 rfl (.pointer (some ⟨gz, 0, none⟩)) (wa6.alloc (.cells #[.int .i64 0, .int .i64 0, .int .i64 0, .string (ba []), .int .i64 0, .int .i64 0, .string (ba [])] 23)) (Try.alloc_cr gz wa6 hgz) ?_; have HBz : Hid (Blk (wa6.alloc (.cells #[.int .i64 0, .int .i64 0, .int .i64 0, .string (ba []), .int .i64 0, .int .i64 0, .string (ba [])] 23)) gz 23 [.int .i64 0, .int .i64 0, .int .i64 0, .string (ba []), .int .i64 0, .int .i64 0, .string (ba [])]) := Lib.hid (Blk.fresh hgz.symm rfl); have HRz := Lib.hid ((HRa6.out).alloc (.cells #[.int .i64 0, .int .i64 0, .int .i64 0, .string (ba []), .int .i64 0, .int .i64 0, .string (ba [])] 23)); have HNE : Hid (gz ≠ (w.heap.size + 1)) := Lib.hid (fun e => by have h9 := (HRa6.out).lt; rw [← e, ← hgz] at h9; exact Nat.lt_irrefl _ h9); have HZ : Hid (wr.heap.size ≤ gz) := Lib.hid (hgz ▸ (hHeld.1.1).size); clear hgz
                  refine hK.out _ _ ⟨⟨(only_trans hHeld.1.1 (only_below ((Below.refl _ _).alloc (Nat.le_refl _) _))), hHeld.1.2.alloc _⟩, hHeld.2.alloc _⟩ (fun hHeld1 => ?_)
                  clear hHeld hK K
                  have hHeld := hHeld1
                  clear hHeld1
                  change wpAnyH _ _ _ _ _ _ _ (Act.put _ (some (7 : Nat)) (.pointer (some ⟨gz, 0, none⟩))) _
                  simp only [Act.put, List.setIfInBounds_toArray, List.set_cons_zero, List.set_cons_succ]
                  refine wpAnyH_ready (rs := [23]) (by kernel_rfl) (by simp) ?_
                  refine AllReadyH.cons (o := ⟨none, .store 23 (.tmp 7) (.tmp 33), _, _, _, none⟩) rfl (fun K hK => ?_) AllReadyH.nil
                  have HBp := Lib.hid (HBz.out); refine step_store_blk rfl 23 (.tmp 7) (.tmp 33) rfl gz [.int .i64 ((nval 1 (some xs) : Nat) : Int), .int .i64 (sx 8 (nval 8 (nnext 1 (some xs)))), .int .i64 ((nval 1 (nnext 8 (nnext 1 (some xs))) : Nat) : Int), .string (ba (rval 1048576 (nnext 1 (nnext 8 (nnext 1 (some xs)))))), .int .i64 (sx 8 (nval 8 (rnext 1048576 (nnext 1 (nnext 8 (nnext 1 (some xs))))))), .int .i64 (sx 8 (nval 8 (nnext 8 (rnext 1048576 (nnext 1 (nnext 8 (nnext 1 (some xs)))))))), .string (ba (rval 1048576 (nnext 8 (nnext 8 (rnext 1048576 (nnext 1 (nnext 8 (nnext 1 (some xs)))))))))] (by simp [Act.eval]) (by simp only [Act.eval]; exact HV.out) 23 [.int .i64 0, .int .i64 0, .int .i64 0, .string (ba []), .int .i64 0, .int .i64 0, .string (ba [])] (HBz.out) (by kernel_rfl) rfl (one7 _ _ _ _ _ _ _) ?_; intro we hbe hge; have HBe := Lib.hid hbe; have HGe := Lib.hid hge; have HRe := Lib.hid ((HRz.out).other hge (fun b hb => ⟨fun e => HNE.out (by rw [Option.some.inj hb]; exact e), by have := Option.some.inj hb; have := HZ.out; have := HSZ.out; omega⟩)); clear hbe hge
                  refine hK.out _ _ ⟨⟨(only_new hHeld.1.1 HGe.out HZ.out), By.far hHeld.1.2 HGe.out HBp.out (no_u8c _ _ _ _ _ _ _)⟩, By.far hHeld.2 HGe.out HBp.out (no_u8c _ _ _ _ _ _ _)⟩ (fun hHeld1 => ?_)
                  clear hHeld hK K
                  have hHeld := hHeld1
                  clear hHeld1
                  change wpAnyH _ _ _ _ _ _ _ (Act.put _ none undef) _
                  simp only [Act.put]
                  refine wpAnyH_done (by kernel_rfl) ?_ _
                  have HG6 := Lib.hid hHeld.1.1
                  clear hHeld
                  go_wp2
                  go_meet
                  case rel => exact ⟨gz, rfl, (by rw [← HC0.out]; exact HBe.out), (by rw [← HST0.out]; exact HRe.out), HZ.out, HZ2.out.grown HG6.out (by simp), HX2.out.grown HG6.out HX2.out.size (fun k hk => by have := Option.some.inj hk; omega)⟩
                · as_aux_lemma =>
                  obtain ⟨gz, hgz⟩ : ∃ gz, wa5.heap.size = gz := ⟨_, rfl⟩; refine step_alloc (by simp [Region.wanted]) 23 rfl (.pointer (some ⟨gz, 0, none⟩)) (wa5.alloc (.cells #[.int .i64 0, .int .i64 0, .int .i64 0, .string (ba []), .int .i64 0, .int .i64 0, .string (ba [])] 23)) (Try.alloc_cr gz wa5 hgz) ?_; have HBz : Hid (Blk (wa5.alloc (.cells #[.int .i64 0, .int .i64 0, .int .i64 0, .string (ba []), .int .i64 0, .int .i64 0, .string (ba [])] 23)) gz 23 [.int .i64 0, .int .i64 0, .int .i64 0, .string (ba []), .int .i64 0, .int .i64 0, .string (ba [])]) := Lib.hid (Blk.fresh hgz.symm rfl); have HRz := Lib.hid ((HRa5.out).alloc (.cells #[.int .i64 0, .int .i64 0, .int .i64 0, .string (ba []), .int .i64 0, .int .i64 0, .string (ba [])] 23)); have HNE : Hid (gz ≠ (w.heap.size + 1)) := Lib.hid (fun e => by have h9 := (HRa5.out).lt; rw [← e, ← hgz] at h9; exact Nat.lt_irrefl _ h9); have HZ : Hid (wr.heap.size ≤ gz) := Lib.hid (hgz ▸ (hHeld.1).size); clear hgz
                  refine hK.out _ _ ⟨(only_trans hHeld.1 (only_below ((Below.refl _ _).alloc (Nat.le_refl _) _))), hHeld.2.alloc _⟩ (fun hHeld1 => ?_)
                  clear hHeld hK K
                  have hHeld := hHeld1
                  clear hHeld1
                  change wpAnyH _ _ _ _ _ _ _ (Act.put _ (some (7 : Nat)) (.pointer (some ⟨gz, 0, none⟩))) _
                  simp only [Act.put, List.setIfInBounds_toArray, List.set_cons_zero, List.set_cons_succ]
                  refine wpAnyH_ready (rs := [19]) (by kernel_rfl) (by simp) ?_
                  refine AllReadyH.cons rfl (fun K hK => ?_) AllReadyH.nil
                  go_simp
                  refine (rrow_rs (HRz.out) 1048576 (by omega)).mono ?_
                  rintro e wa6 ⟨Ba6, ma6, ca6, rfl, hy6, hr6, hg6⟩; have HRa6 := Lib.hid hr6; have HGa6 := Lib.hid hg6; have HBa6 := Lib.hid ((HBz.out).grown hg6 (fun e => HNE.out (Option.some.inj e))); have HYa6 := Lib.hid hy6; clear hr6 hg6 hy6
                  go_wp2_with fail
                  refine hK.out _ _ ⟨(only_trans hHeld.1 HGa6.out), (HRz.out).by_keep hHeld.2 HGa6.out⟩ (fun hHeld1 => ?_)
                  clear hHeld hK K
                  have hHeld := hHeld1
                  clear hHeld1
                  refine wpAnyH_weaken (S' := fun W => ((wr.grownBy W (some (w.heap.size + 1))) ∧ By W (fun _ => True) Ba3 ma3 (rval 1048576 (nnext 1 (nnext 8 (nnext 1 (some xs)))))) ∧ By W (fun _ => True) Ba6 ma6 (rval 1048576 (nnext 8 (nnext 8 (rnext 1048576 (nnext 1 (nnext 8 (nnext 1 (some xs))))))))) (fun W h => h.1) _ _ _ _ ?_
                  have hHeld2 := And.intro hHeld HYa6.out
                  clear hHeld
                  have hHeld := hHeld2
                  clear hHeld2
                  refine wpAnyH_take (i := 20) (v := (.string (ba (rval 1048576 (nnext 8 (nnext 8 (rnext 1048576 (nnext 1 (nnext 8 (nnext 1 (some xs))))))))))) rfl (by kernel_rfl) (by kernel_rfl) (by kernel_rfl) (fun _ _ _ h => h) (yields_conv (by kernel_rfl) 25 9 (.tmp 31) rfl (.slice Ba6 ma6 ca6) (by simp [Act.eval]) (.string (ba (rval 1048576 (nnext 8 (nnext 8 (rnext 1048576 (nnext 1 (nnext 8 (nnext 1 (some xs)))))))))) (fun W hW => run_string_by W 25 9 5 Try.underlying25 Try.underlying5 Try.underlying9 _ _ _ _ _ hW.2)) (by assumption) ?_
                  change wpAnyH _ _ _ _ _ _ _ (Act.put _ (some (32 : Nat)) (.string (ba (rval 1048576 (nnext 8 (nnext 8 (rnext 1048576 (nnext 1 (nnext 8 (nnext 1 (some xs))))))))))) _
                  simp only [Act.put, List.setIfInBounds_toArray, List.set_cons_zero, List.set_cons_succ]
                  obtain ⟨V, hV⟩ : ∃ V : Value, V = .agg #[.int .i64 ((nval 1 (some xs) : Nat) : Int), .int .i64 (sx 8 (nval 8 (nnext 1 (some xs)))), .int .i64 ((nval 1 (nnext 8 (nnext 1 (some xs))) : Nat) : Int), .string (ba (rval 1048576 (nnext 1 (nnext 8 (nnext 1 (some xs)))))), .int .i64 (sx 8 (nval 8 (rnext 1048576 (nnext 1 (nnext 8 (nnext 1 (some xs))))))), .int .i64 (sx 8 (nval 8 (nnext 8 (rnext 1048576 (nnext 1 (nnext 8 (nnext 1 (some xs)))))))), .string (ba (rval 1048576 (nnext 8 (nnext 8 (rnext 1048576 (nnext 1 (nnext 8 (nnext 1 (some xs)))))))))] := ⟨_, rfl⟩
                  have HV := Lib.hid hV
                  clear hV
                  refine wpAnyH_take (i := 21) (v := V) rfl (by kernel_rfl) (by kernel_rfl) (by kernel_rfl) (fun _ _ _ h => h) (yields_build (by kernel_rfl) 23 _ rfl _ (by simp only [List.map_toArray, List.map_cons, List.map_nil, Act.eval]; rfl) V (fun w _ => by rw [HV.out]; exact Try.build_c7 _ _ _ _ _ _ _ w)) (by assumption) ?_
                  change wpAnyH _ _ _ _ _ _ _ (Act.put _ (some (33 : Nat)) V) _
                  simp only [Act.put, List.setIfInBounds_toArray, List.set_cons_zero, List.set_cons_succ]
                  refine wpAnyH_ready (rs := [23]) (by kernel_rfl) (by simp) ?_
                  refine AllReadyH.cons (o := ⟨none, .store 23 (.tmp 7) (.tmp 33), _, _, _, none⟩) rfl (fun K hK => ?_) AllReadyH.nil
                  have HBp := Lib.hid (HBa6.out); refine step_store_blk rfl 23 (.tmp 7) (.tmp 33) rfl gz [.int .i64 ((nval 1 (some xs) : Nat) : Int), .int .i64 (sx 8 (nval 8 (nnext 1 (some xs)))), .int .i64 ((nval 1 (nnext 8 (nnext 1 (some xs))) : Nat) : Int), .string (ba (rval 1048576 (nnext 1 (nnext 8 (nnext 1 (some xs)))))), .int .i64 (sx 8 (nval 8 (rnext 1048576 (nnext 1 (nnext 8 (nnext 1 (some xs))))))), .int .i64 (sx 8 (nval 8 (nnext 8 (rnext 1048576 (nnext 1 (nnext 8 (nnext 1 (some xs)))))))), .string (ba (rval 1048576 (nnext 8 (nnext 8 (rnext 1048576 (nnext 1 (nnext 8 (nnext 1 (some xs)))))))))] (by simp [Act.eval]) (by simp only [Act.eval]; exact HV.out) 23 [.int .i64 0, .int .i64 0, .int .i64 0, .string (ba []), .int .i64 0, .int .i64 0, .string (ba [])] (HBa6.out) (by kernel_rfl) rfl (one7 _ _ _ _ _ _ _) ?_; intro we hbe hge; have HBe := Lib.hid hbe; have HGe := Lib.hid hge; have HRe := Lib.hid ((HRa6.out).other hge (fun b hb => ⟨fun e => HNE.out (by rw [Option.some.inj hb]; exact e), by have := Option.some.inj hb; have := HZ.out; have := HSZ.out; omega⟩)); clear hbe hge
                  refine hK.out _ _ ⟨⟨(only_new hHeld.1.1 HGe.out HZ.out), By.far hHeld.1.2 HGe.out HBp.out (no_u8c _ _ _ _ _ _ _)⟩, By.far hHeld.2 HGe.out HBp.out (no_u8c _ _ _ _ _ _ _)⟩ (fun hHeld1 => ?_)
                  clear hHeld hK K
                  have hHeld := hHeld1
                  clear hHeld1
                  change wpAnyH _ _ _ _ _ _ _ (Act.put _ none undef) _
                  simp only [Act.put]
                  refine wpAnyH_done (by kernel_rfl) ?_ _
                  have HG6 := Lib.hid hHeld.1.1
                  clear hHeld
                  go_wp2
                  go_meet
                  case rel => exact ⟨gz, rfl, (by rw [← HC0.out]; exact HBe.out), (by rw [← HST0.out]; exact HRe.out), HZ.out, HZ2.out.grown HG6.out (by simp), HX2.out.grown HG6.out HX2.out.size (fun k hk => by have := Option.some.inj hk; omega)⟩
              · as_aux_lemma =>
                obtain ⟨gz, hgz⟩ : ∃ gz, wa4.heap.size = gz := ⟨_, rfl⟩; refine step_alloc (by simp [Region.wanted]) 23 rfl (.pointer (some ⟨gz, 0, none⟩)) (wa4.alloc (.cells #[.int .i64 0, .int .i64 0, .int .i64 0, .string (ba []), .int .i64 0, .int .i64 0, .string (ba [])] 23)) (Try.alloc_cr gz wa4 hgz) ?_; have HBz : Hid (Blk (wa4.alloc (.cells #[.int .i64 0, .int .i64 0, .int .i64 0, .string (ba []), .int .i64 0, .int .i64 0, .string (ba [])] 23)) gz 23 [.int .i64 0, .int .i64 0, .int .i64 0, .string (ba []), .int .i64 0, .int .i64 0, .string (ba [])]) := Lib.hid (Blk.fresh hgz.symm rfl); have HRz := Lib.hid ((HRa4.out).alloc (.cells #[.int .i64 0, .int .i64 0, .int .i64 0, .string (ba []), .int .i64 0, .int .i64 0, .string (ba [])] 23)); have HNE : Hid (gz ≠ (w.heap.size + 1)) := Lib.hid (fun e => by have h9 := (HRa4.out).lt; rw [← e, ← hgz] at h9; exact Nat.lt_irrefl _ h9); have HZ : Hid (wr.heap.size ≤ gz) := Lib.hid (hgz ▸ (hHeld.1).size); clear hgz
                refine hK.out _ _ ⟨(only_trans hHeld.1 (only_below ((Below.refl _ _).alloc (Nat.le_refl _) _))), hHeld.2.alloc _⟩ (fun hHeld1 => ?_)
                clear hHeld hK K
                have hHeld := hHeld1
                clear hHeld1
                change wpAnyH _ _ _ _ _ _ _ (Act.put _ (some (7 : Nat)) (.pointer (some ⟨gz, 0, none⟩))) _
                simp only [Act.put, List.setIfInBounds_toArray, List.set_cons_zero, List.set_cons_succ]
                refine wpAnyH_ready (rs := [16]) (by kernel_rfl) (by simp) ?_
                refine AllReadyH.cons rfl (fun K hK => ?_) AllReadyH.nil
                go_simp
                refine (rnumber_rs (HRz.out) 8 rfl).mono ?_
                rintro e wa5 ⟨rfl, hr5, hg5⟩; have HRa5 := Lib.hid hr5; have HGa5 := Lib.hid hg5; have HBa5 := Lib.hid ((HBz.out).grown hg5 (fun e => HNE.out (Option.some.inj e))); clear hr5 hg5
                go_wp2_with fail
                refine hK.out _ _ ⟨(only_trans hHeld.1 HGa5.out), (HRz.out).by_keep hHeld.2 HGa5.out⟩ (fun hHeld1 => ?_)
                clear hHeld hK K
                have hHeld := hHeld1
                clear hHeld1
                refine wpAnyH_take (i := 17) (v := (.int .i64 (sx 8 (nval 8 (nnext 8 (rnext 1048576 (nnext 1 (nnext 8 (nnext 1 (some xs)))))))))) rfl (by kernel_rfl) (by kernel_rfl) (by kernel_rfl) (fun _ _ _ h => h) (yields_conv (by kernel_rfl) 65 2 (.tmp 28) rfl (.int .u64 ((nval 8 (nnext 8 (rnext 1048576 (nnext 1 (nnext 8 (nnext 1 (some xs)))))) : Nat) : Int)) (by simp [Act.eval]) (.int .i64 (sx 8 (nval 8 (nnext 8 (rnext 1048576 (nnext 1 (nnext 8 (nnext 1 (some xs))))))))) (fun W _ => conv_i64 65 2 Try.underlying65 Try.underlying2 _ (by have := nval_lt 8 (nnext 8 (rnext 1048576 (nnext 1 (nnext 8 (nnext 1 (some xs)))))); simp only [e8] at this; omega) W)) (by assumption) ?_
                change wpAnyH _ _ _ _ _ _ _ (Act.put _ (some (29 : Nat)) (.int .i64 (sx 8 (nval 8 (nnext 8 (rnext 1048576 (nnext 1 (nnext 8 (nnext 1 (some xs)))))))))) _
                simp only [Act.put, List.setIfInBounds_toArray, List.set_cons_zero, List.set_cons_succ]
                refine wpAnyH_ready (rs := [19]) (by kernel_rfl) (by simp) ?_
                refine AllReadyH.cons rfl (fun K hK => ?_) AllReadyH.nil
                go_simp
                refine (rrow_rs (HRa5.out) 1048576 (by omega)).mono ?_
                rintro e wa6 ⟨Ba6, ma6, ca6, rfl, hy6, hr6, hg6⟩; have HRa6 := Lib.hid hr6; have HGa6 := Lib.hid hg6; have HBa6 := Lib.hid ((HBa5.out).grown hg6 (fun e => HNE.out (Option.some.inj e))); have HYa6 := Lib.hid hy6; clear hr6 hg6 hy6
                go_wp2_with fail
                refine hK.out _ _ ⟨(only_trans hHeld.1 HGa6.out), (HRa5.out).by_keep hHeld.2 HGa6.out⟩ (fun hHeld1 => ?_)
                clear hHeld hK K
                have hHeld := hHeld1
                clear hHeld1
                refine wpAnyH_weaken (S' := fun W => ((wr.grownBy W (some (w.heap.size + 1))) ∧ By W (fun _ => True) Ba3 ma3 (rval 1048576 (nnext 1 (nnext 8 (nnext 1 (some xs)))))) ∧ By W (fun _ => True) Ba6 ma6 (rval 1048576 (nnext 8 (nnext 8 (rnext 1048576 (nnext 1 (nnext 8 (nnext 1 (some xs))))))))) (fun W h => h.1) _ _ _ _ ?_
                have hHeld2 := And.intro hHeld HYa6.out
                clear hHeld
                have hHeld := hHeld2
                clear hHeld2
                refine wpAnyH_take (i := 20) (v := (.string (ba (rval 1048576 (nnext 8 (nnext 8 (rnext 1048576 (nnext 1 (nnext 8 (nnext 1 (some xs))))))))))) rfl (by kernel_rfl) (by kernel_rfl) (by kernel_rfl) (fun _ _ _ h => h) (yields_conv (by kernel_rfl) 25 9 (.tmp 31) rfl (.slice Ba6 ma6 ca6) (by simp [Act.eval]) (.string (ba (rval 1048576 (nnext 8 (nnext 8 (rnext 1048576 (nnext 1 (nnext 8 (nnext 1 (some xs)))))))))) (fun W hW => run_string_by W 25 9 5 Try.underlying25 Try.underlying5 Try.underlying9 _ _ _ _ _ hW.2)) (by assumption) ?_
                change wpAnyH _ _ _ _ _ _ _ (Act.put _ (some (32 : Nat)) (.string (ba (rval 1048576 (nnext 8 (nnext 8 (rnext 1048576 (nnext 1 (nnext 8 (nnext 1 (some xs))))))))))) _
                simp only [Act.put, List.setIfInBounds_toArray, List.set_cons_zero, List.set_cons_succ]
                obtain ⟨V, hV⟩ : ∃ V : Value, V = .agg #[.int .i64 ((nval 1 (some xs) : Nat) : Int), .int .i64 (sx 8 (nval 8 (nnext 1 (some xs)))), .int .i64 ((nval 1 (nnext 8 (nnext 1 (some xs))) : Nat) : Int), .string (ba (rval 1048576 (nnext 1 (nnext 8 (nnext 1 (some xs)))))), .int .i64 (sx 8 (nval 8 (rnext 1048576 (nnext 1 (nnext 8 (nnext 1 (some xs))))))), .int .i64 (sx 8 (nval 8 (nnext 8 (rnext 1048576 (nnext 1 (nnext 8 (nnext 1 (some xs)))))))), .string (ba (rval 1048576 (nnext 8 (nnext 8 (rnext 1048576 (nnext 1 (nnext 8 (nnext 1 (some xs)))))))))] := ⟨_, rfl⟩
                have HV := Lib.hid hV
                clear hV
                refine wpAnyH_take (i := 21) (v := V) rfl (by kernel_rfl) (by kernel_rfl) (by kernel_rfl) (fun _ _ _ h => h) (yields_build (by kernel_rfl) 23 _ rfl _ (by simp only [List.map_toArray, List.map_cons, List.map_nil, Act.eval]; rfl) V (fun w _ => by rw [HV.out]; exact Try.build_c7 _ _ _ _ _ _ _ w)) (by assumption) ?_
                change wpAnyH _ _ _ _ _ _ _ (Act.put _ (some (33 : Nat)) V) _
                simp only [Act.put, List.setIfInBounds_toArray, List.set_cons_zero, List.set_cons_succ]
                refine wpAnyH_ready (rs := [23]) (by kernel_rfl) (by simp) ?_
                refine AllReadyH.cons (o := ⟨none, .store 23 (.tmp 7) (.tmp 33), _, _, _, none⟩) rfl (fun K hK => ?_) AllReadyH.nil
                have HBp := Lib.hid (HBa6.out); refine step_store_blk rfl 23 (.tmp 7) (.tmp 33) rfl gz [.int .i64 ((nval 1 (some xs) : Nat) : Int), .int .i64 (sx 8 (nval 8 (nnext 1 (some xs)))), .int .i64 ((nval 1 (nnext 8 (nnext 1 (some xs))) : Nat) : Int), .string (ba (rval 1048576 (nnext 1 (nnext 8 (nnext 1 (some xs)))))), .int .i64 (sx 8 (nval 8 (rnext 1048576 (nnext 1 (nnext 8 (nnext 1 (some xs))))))), .int .i64 (sx 8 (nval 8 (nnext 8 (rnext 1048576 (nnext 1 (nnext 8 (nnext 1 (some xs)))))))), .string (ba (rval 1048576 (nnext 8 (nnext 8 (rnext 1048576 (nnext 1 (nnext 8 (nnext 1 (some xs)))))))))] (by simp [Act.eval]) (by simp only [Act.eval]; exact HV.out) 23 [.int .i64 0, .int .i64 0, .int .i64 0, .string (ba []), .int .i64 0, .int .i64 0, .string (ba [])] (HBa6.out) (by kernel_rfl) rfl (one7 _ _ _ _ _ _ _) ?_; intro we hbe hge; have HBe := Lib.hid hbe; have HGe := Lib.hid hge; have HRe := Lib.hid ((HRa6.out).other hge (fun b hb => ⟨fun e => HNE.out (by rw [Option.some.inj hb]; exact e), by have := Option.some.inj hb; have := HZ.out; have := HSZ.out; omega⟩)); clear hbe hge
                refine hK.out _ _ ⟨⟨(only_new hHeld.1.1 HGe.out HZ.out), By.far hHeld.1.2 HGe.out HBp.out (no_u8c _ _ _ _ _ _ _)⟩, By.far hHeld.2 HGe.out HBp.out (no_u8c _ _ _ _ _ _ _)⟩ (fun hHeld1 => ?_)
                clear hHeld hK K
                have hHeld := hHeld1
                clear hHeld1
                change wpAnyH _ _ _ _ _ _ _ (Act.put _ none undef) _
                simp only [Act.put]
                refine wpAnyH_done (by kernel_rfl) ?_ _
                have HG6 := Lib.hid hHeld.1.1
                clear hHeld
                go_wp2
                go_meet
                case rel => exact ⟨gz, rfl, (by rw [← HC0.out]; exact HBe.out), (by rw [← HST0.out]; exact HRe.out), HZ.out, HZ2.out.grown HG6.out (by simp), HX2.out.grown HG6.out HX2.out.size (fun k hk => by have := Option.some.inj hk; omega)⟩
            · as_aux_lemma =>
              obtain ⟨gz, hgz⟩ : ∃ gz, wa3.heap.size = gz := ⟨_, rfl⟩; refine step_alloc (by simp [Region.wanted]) 23 rfl (.pointer (some ⟨gz, 0, none⟩)) (wa3.alloc (.cells #[.int .i64 0, .int .i64 0, .int .i64 0, .string (ba []), .int .i64 0, .int .i64 0, .string (ba [])] 23)) (Try.alloc_cr gz wa3 hgz) ?_; have HBz : Hid (Blk (wa3.alloc (.cells #[.int .i64 0, .int .i64 0, .int .i64 0, .string (ba []), .int .i64 0, .int .i64 0, .string (ba [])] 23)) gz 23 [.int .i64 0, .int .i64 0, .int .i64 0, .string (ba []), .int .i64 0, .int .i64 0, .string (ba [])]) := Lib.hid (Blk.fresh hgz.symm rfl); have HRz := Lib.hid ((HRa3.out).alloc (.cells #[.int .i64 0, .int .i64 0, .int .i64 0, .string (ba []), .int .i64 0, .int .i64 0, .string (ba [])] 23)); have HNE : Hid (gz ≠ (w.heap.size + 1)) := Lib.hid (fun e => by have h9 := (HRa3.out).lt; rw [← e, ← hgz] at h9; exact Nat.lt_irrefl _ h9); have HZ : Hid (wr.heap.size ≤ gz) := Lib.hid (hgz ▸ (hHeld.1).size); clear hgz
              refine hK.out _ _ ⟨(only_trans hHeld.1 (only_below ((Below.refl _ _).alloc (Nat.le_refl _) _))), hHeld.2.alloc _⟩ (fun hHeld1 => ?_)
              clear hHeld hK K
              have hHeld := hHeld1
              clear hHeld1
              change wpAnyH _ _ _ _ _ _ _ (Act.put _ (some (7 : Nat)) (.pointer (some ⟨gz, 0, none⟩))) _
              simp only [Act.put, List.setIfInBounds_toArray, List.set_cons_zero, List.set_cons_succ]
              refine wpAnyH_ready (rs := [13]) (by kernel_rfl) (by simp) ?_
              refine AllReadyH.cons rfl (fun K hK => ?_) AllReadyH.nil
              go_simp
              refine (rnumber_rs (HRz.out) 8 rfl).mono ?_
              rintro e wa4 ⟨rfl, hr4, hg4⟩; have HRa4 := Lib.hid hr4; have HGa4 := Lib.hid hg4; have HBa4 := Lib.hid ((HBz.out).grown hg4 (fun e => HNE.out (Option.some.inj e))); clear hr4 hg4
              go_wp2_with fail
              refine hK.out _ _ ⟨(only_trans hHeld.1 HGa4.out), (HRz.out).by_keep hHeld.2 HGa4.out⟩ (fun hHeld1 => ?_)
              clear hHeld hK K
              have hHeld := hHeld1
              clear hHeld1
              refine wpAnyH_take (i := 14) (v := (.int .i64 (sx 8 (nval 8 (rnext 1048576 (nnext 1 (nnext 8 (nnext 1 (some xs))))))))) rfl (by kernel_rfl) (by kernel_rfl) (by kernel_rfl) (fun _ _ _ h => h) (yields_conv (by kernel_rfl) 65 2 (.tmp 25) rfl (.int .u64 ((nval 8 (rnext 1048576 (nnext 1 (nnext 8 (nnext 1 (some xs))))) : Nat) : Int)) (by simp [Act.eval]) (.int .i64 (sx 8 (nval 8 (rnext 1048576 (nnext 1 (nnext 8 (nnext 1 (some xs)))))))) (fun W _ => conv_i64 65 2 Try.underlying65 Try.underlying2 _ (by have := nval_lt 8 (rnext 1048576 (nnext 1 (nnext 8 (nnext 1 (some xs))))); simp only [e8] at this; omega) W)) (by assumption) ?_
              change wpAnyH _ _ _ _ _ _ _ (Act.put _ (some (26 : Nat)) (.int .i64 (sx 8 (nval 8 (rnext 1048576 (nnext 1 (nnext 8 (nnext 1 (some xs))))))))) _
              simp only [Act.put, List.setIfInBounds_toArray, List.set_cons_zero, List.set_cons_succ]
              refine wpAnyH_ready (rs := [16]) (by kernel_rfl) (by simp) ?_
              refine AllReadyH.cons rfl (fun K hK => ?_) AllReadyH.nil
              go_simp
              refine (rnumber_rs (HRa4.out) 8 rfl).mono ?_
              rintro e wa5 ⟨rfl, hr5, hg5⟩; have HRa5 := Lib.hid hr5; have HGa5 := Lib.hid hg5; have HBa5 := Lib.hid ((HBa4.out).grown hg5 (fun e => HNE.out (Option.some.inj e))); clear hr5 hg5
              go_wp2_with fail
              refine hK.out _ _ ⟨(only_trans hHeld.1 HGa5.out), (HRa4.out).by_keep hHeld.2 HGa5.out⟩ (fun hHeld1 => ?_)
              clear hHeld hK K
              have hHeld := hHeld1
              clear hHeld1
              refine wpAnyH_take (i := 17) (v := (.int .i64 (sx 8 (nval 8 (nnext 8 (rnext 1048576 (nnext 1 (nnext 8 (nnext 1 (some xs)))))))))) rfl (by kernel_rfl) (by kernel_rfl) (by kernel_rfl) (fun _ _ _ h => h) (yields_conv (by kernel_rfl) 65 2 (.tmp 28) rfl (.int .u64 ((nval 8 (nnext 8 (rnext 1048576 (nnext 1 (nnext 8 (nnext 1 (some xs)))))) : Nat) : Int)) (by simp [Act.eval]) (.int .i64 (sx 8 (nval 8 (nnext 8 (rnext 1048576 (nnext 1 (nnext 8 (nnext 1 (some xs))))))))) (fun W _ => conv_i64 65 2 Try.underlying65 Try.underlying2 _ (by have := nval_lt 8 (nnext 8 (rnext 1048576 (nnext 1 (nnext 8 (nnext 1 (some xs)))))); simp only [e8] at this; omega) W)) (by assumption) ?_
              change wpAnyH _ _ _ _ _ _ _ (Act.put _ (some (29 : Nat)) (.int .i64 (sx 8 (nval 8 (nnext 8 (rnext 1048576 (nnext 1 (nnext 8 (nnext 1 (some xs)))))))))) _
              simp only [Act.put, List.setIfInBounds_toArray, List.set_cons_zero, List.set_cons_succ]
              refine wpAnyH_ready (rs := [19]) (by kernel_rfl) (by simp) ?_
              refine AllReadyH.cons rfl (fun K hK => ?_) AllReadyH.nil
              go_simp
              refine (rrow_rs (HRa5.out) 1048576 (by omega)).mono ?_
              rintro e wa6 ⟨Ba6, ma6, ca6, rfl, hy6, hr6, hg6⟩; have HRa6 := Lib.hid hr6; have HGa6 := Lib.hid hg6; have HBa6 := Lib.hid ((HBa5.out).grown hg6 (fun e => HNE.out (Option.some.inj e))); have HYa6 := Lib.hid hy6; clear hr6 hg6 hy6
              go_wp2_with fail
              refine hK.out _ _ ⟨(only_trans hHeld.1 HGa6.out), (HRa5.out).by_keep hHeld.2 HGa6.out⟩ (fun hHeld1 => ?_)
              clear hHeld hK K
              have hHeld := hHeld1
              clear hHeld1
              refine wpAnyH_weaken (S' := fun W => ((wr.grownBy W (some (w.heap.size + 1))) ∧ By W (fun _ => True) Ba3 ma3 (rval 1048576 (nnext 1 (nnext 8 (nnext 1 (some xs)))))) ∧ By W (fun _ => True) Ba6 ma6 (rval 1048576 (nnext 8 (nnext 8 (rnext 1048576 (nnext 1 (nnext 8 (nnext 1 (some xs))))))))) (fun W h => h.1) _ _ _ _ ?_
              have hHeld2 := And.intro hHeld HYa6.out
              clear hHeld
              have hHeld := hHeld2
              clear hHeld2
              refine wpAnyH_take (i := 20) (v := (.string (ba (rval 1048576 (nnext 8 (nnext 8 (rnext 1048576 (nnext 1 (nnext 8 (nnext 1 (some xs))))))))))) rfl (by kernel_rfl) (by kernel_rfl) (by kernel_rfl) (fun _ _ _ h => h) (yields_conv (by kernel_rfl) 25 9 (.tmp 31) rfl (.slice Ba6 ma6 ca6) (by simp [Act.eval]) (.string (ba (rval 1048576 (nnext 8 (nnext 8 (rnext 1048576 (nnext 1 (nnext 8 (nnext 1 (some xs)))))))))) (fun W hW => run_string_by W 25 9 5 Try.underlying25 Try.underlying5 Try.underlying9 _ _ _ _ _ hW.2)) (by assumption) ?_
              change wpAnyH _ _ _ _ _ _ _ (Act.put _ (some (32 : Nat)) (.string (ba (rval 1048576 (nnext 8 (nnext 8 (rnext 1048576 (nnext 1 (nnext 8 (nnext 1 (some xs))))))))))) _
              simp only [Act.put, List.setIfInBounds_toArray, List.set_cons_zero, List.set_cons_succ]
              obtain ⟨V, hV⟩ : ∃ V : Value, V = .agg #[.int .i64 ((nval 1 (some xs) : Nat) : Int), .int .i64 (sx 8 (nval 8 (nnext 1 (some xs)))), .int .i64 ((nval 1 (nnext 8 (nnext 1 (some xs))) : Nat) : Int), .string (ba (rval 1048576 (nnext 1 (nnext 8 (nnext 1 (some xs)))))), .int .i64 (sx 8 (nval 8 (rnext 1048576 (nnext 1 (nnext 8 (nnext 1 (some xs))))))), .int .i64 (sx 8 (nval 8 (nnext 8 (rnext 1048576 (nnext 1 (nnext 8 (nnext 1 (some xs)))))))), .string (ba (rval 1048576 (nnext 8 (nnext 8 (rnext 1048576 (nnext 1 (nnext 8 (nnext 1 (some xs)))))))))] := ⟨_, rfl⟩
              have HV := Lib.hid hV
              clear hV
              refine wpAnyH_take (i := 21) (v := V) rfl (by kernel_rfl) (by kernel_rfl) (by kernel_rfl) (fun _ _ _ h => h) (yields_build (by kernel_rfl) 23 _ rfl _ (by simp only [List.map_toArray, List.map_cons, List.map_nil, Act.eval]; rfl) V (fun w _ => by rw [HV.out]; exact Try.build_c7 _ _ _ _ _ _ _ w)) (by assumption) ?_
              change wpAnyH _ _ _ _ _ _ _ (Act.put _ (some (33 : Nat)) V) _
              simp only [Act.put, List.setIfInBounds_toArray, List.set_cons_zero, List.set_cons_succ]
              refine wpAnyH_ready (rs := [23]) (by kernel_rfl) (by simp) ?_
              refine AllReadyH.cons (o := ⟨none, .store 23 (.tmp 7) (.tmp 33), _, _, _, none⟩) rfl (fun K hK => ?_) AllReadyH.nil
              have HBp := Lib.hid (HBa6.out); refine step_store_blk rfl 23 (.tmp 7) (.tmp 33) rfl gz [.int .i64 ((nval 1 (some xs) : Nat) : Int), .int .i64 (sx 8 (nval 8 (nnext 1 (some xs)))), .int .i64 ((nval 1 (nnext 8 (nnext 1 (some xs))) : Nat) : Int), .string (ba (rval 1048576 (nnext 1 (nnext 8 (nnext 1 (some xs)))))), .int .i64 (sx 8 (nval 8 (rnext 1048576 (nnext 1 (nnext 8 (nnext 1 (some xs))))))), .int .i64 (sx 8 (nval 8 (nnext 8 (rnext 1048576 (nnext 1 (nnext 8 (nnext 1 (some xs)))))))), .string (ba (rval 1048576 (nnext 8 (nnext 8 (rnext 1048576 (nnext 1 (nnext 8 (nnext 1 (some xs)))))))))] (by simp [Act.eval]) (by simp only [Act.eval]; exact HV.out) 23 [.int .i64 0, .int .i64 0, .int .i64 0, .string (ba []), .int .i64 0, .int .i64 0, .string (ba [])] (HBa6.out) (by kernel_rfl) rfl (one7 _ _ _ _ _ _ _) ?_; intro we hbe hge; have HBe := Lib.hid hbe; have HGe := Lib.hid hge; have HRe := Lib.hid ((HRa6.out).other hge (fun b hb => ⟨fun e => HNE.out (by rw [Option.some.inj hb]; exact e), by have := Option.some.inj hb; have := HZ.out; have := HSZ.out; omega⟩)); clear hbe hge
              refine hK.out _ _ ⟨⟨(only_new hHeld.1.1 HGe.out HZ.out), By.far hHeld.1.2 HGe.out HBp.out (no_u8c _ _ _ _ _ _ _)⟩, By.far hHeld.2 HGe.out HBp.out (no_u8c _ _ _ _ _ _ _)⟩ (fun hHeld1 => ?_)
              clear hHeld hK K
              have hHeld := hHeld1
              clear hHeld1
              change wpAnyH _ _ _ _ _ _ _ (Act.put _ none undef) _
              simp only [Act.put]
              refine wpAnyH_done (by kernel_rfl) ?_ _
              have HG6 := Lib.hid hHeld.1.1
              clear hHeld
              go_wp2
              go_meet
              case rel => exact ⟨gz, rfl, (by rw [← HC0.out]; exact HBe.out), (by rw [← HST0.out]; exact HRe.out), HZ.out, HZ2.out.grown HG6.out (by simp), HX2.out.grown HG6.out HX2.out.size (fun k hk => by have := Option.some.inj hk; omega)⟩
          · as_aux_lemma =>
            obtain ⟨gz, hgz⟩ : ∃ gz, wa2.heap.size = gz := ⟨_, rfl⟩; refine step_alloc (by simp [Region.wanted]) 23 rfl (.pointer (some ⟨gz, 0, none⟩)) (wa2.alloc (.cells #[.int .i64 0, .int .i64 0, .int .i64 0, .string (ba []), .int .i64 0, .int .i64 0, .string (ba [])] 23)) (Try.alloc_cr gz wa2 hgz) ?_; have HBz : Hid (Blk (wa2.alloc (.cells #[.int .i64 0, .int .i64 0, .int .i64 0, .string (ba []), .int .i64 0, .int .i64 0, .string (ba [])] 23)) gz 23 [.int .i64 0, .int .i64 0, .int .i64 0, .string (ba []), .int .i64 0, .int .i64 0, .string (ba [])]) := Lib.hid (Blk.fresh hgz.symm rfl); have HRz := Lib.hid ((HRa2.out).alloc (.cells #[.int .i64 0, .int .i64 0, .int .i64 0, .string (ba []), .int .i64 0, .int .i64 0, .string (ba [])] 23)); have HNE : Hid (gz ≠ (w.heap.size + 1)) := Lib.hid (fun e => by have h9 := (HRa2.out).lt; rw [← e, ← hgz] at h9; exact Nat.lt_irrefl _ h9); have HZ : Hid (wr.heap.size ≤ gz) := Lib.hid (hgz ▸ (hHeld).size); clear hgz
            refine hK.out _ _ (only_trans hHeld (only_below ((Below.refl _ _).alloc (Nat.le_refl _) _))) (fun hHeld1 => ?_)
            clear hHeld hK K
            have hHeld := hHeld1
            clear hHeld1
            change wpAnyH _ _ _ _ _ _ _ (Act.put _ (some (7 : Nat)) (.pointer (some ⟨gz, 0, none⟩))) _
            simp only [Act.put, List.setIfInBounds_toArray, List.set_cons_zero, List.set_cons_succ]
            refine wpAnyH_ready (rs := [10]) (by kernel_rfl) (by simp) ?_
            refine AllReadyH.cons rfl (fun K hK => ?_) AllReadyH.nil
            go_simp
            refine (rrow_rs (HRz.out) 1048576 (by omega)).mono ?_
            rintro e wa3 ⟨Ba3, ma3, ca3, rfl, hy3, hr3, hg3⟩; have HRa3 := Lib.hid hr3; have HGa3 := Lib.hid hg3; have HBa3 := Lib.hid ((HBz.out).grown hg3 (fun e => HNE.out (Option.some.inj e))); have HYa3 := Lib.hid hy3; clear hr3 hg3 hy3
            go_wp2_with fail
            refine hK.out _ _ (only_trans hHeld HGa3.out) (fun hHeld1 => ?_)
            clear hHeld hK K
            have hHeld := hHeld1
            clear hHeld1
            refine wpAnyH_weaken (S' := fun W => (wr.grownBy W (some (w.heap.size + 1))) ∧ By W (fun _ => True) Ba3 ma3 (rval 1048576 (nnext 1 (nnext 8 (nnext 1 (some xs)))))) (fun W h => h.1) _ _ _ _ ?_
            have hHeld2 := And.intro hHeld HYa3.out
            clear hHeld
            have hHeld := hHeld2
            clear hHeld2
            refine wpAnyH_take (i := 11) (v := (.string (ba (rval 1048576 (nnext 1 (nnext 8 (nnext 1 (some xs)))))))) rfl (by kernel_rfl) (by kernel_rfl) (by kernel_rfl) (fun _ _ _ h => h) (yields_conv (by kernel_rfl) 25 9 (.tmp 22) rfl (.slice Ba3 ma3 ca3) (by simp [Act.eval]) (.string (ba (rval 1048576 (nnext 1 (nnext 8 (nnext 1 (some xs))))))) (fun W hW => run_string_by W 25 9 5 Try.underlying25 Try.underlying5 Try.underlying9 _ _ _ _ _ hW.2)) (by assumption) ?_
            change wpAnyH _ _ _ _ _ _ _ (Act.put _ (some (23 : Nat)) (.string (ba (rval 1048576 (nnext 1 (nnext 8 (nnext 1 (some xs)))))))) _
            simp only [Act.put, List.setIfInBounds_toArray, List.set_cons_zero, List.set_cons_succ]
            refine wpAnyH_ready (rs := [13]) (by kernel_rfl) (by simp) ?_
            refine AllReadyH.cons rfl (fun K hK => ?_) AllReadyH.nil
            go_simp
            refine (rnumber_rs (HRa3.out) 8 rfl).mono ?_
            rintro e wa4 ⟨rfl, hr4, hg4⟩; have HRa4 := Lib.hid hr4; have HGa4 := Lib.hid hg4; have HBa4 := Lib.hid ((HBa3.out).grown hg4 (fun e => HNE.out (Option.some.inj e))); clear hr4 hg4
            go_wp2_with fail
            refine hK.out _ _ ⟨(only_trans hHeld.1 HGa4.out), (HRa3.out).by_keep hHeld.2 HGa4.out⟩ (fun hHeld1 => ?_)
            clear hHeld hK K
            have hHeld := hHeld1
            clear hHeld1
            refine wpAnyH_take (i := 14) (v := (.int .i64 (sx 8 (nval 8 (rnext 1048576 (nnext 1 (nnext 8 (nnext 1 (some xs))))))))) rfl (by kernel_rfl) (by kernel_rfl) (by kernel_rfl) (fun _ _ _ h => h) (yields_conv (by kernel_rfl) 65 2 (.tmp 25) rfl (.int .u64 ((nval 8 (rnext 1048576 (nnext 1 (nnext 8 (nnext 1 (some xs))))) : Nat) : Int)) (by simp [Act.eval]) (.int .i64 (sx 8 (nval 8 (rnext 1048576 (nnext 1 (nnext 8 (nnext 1 (some xs)))))))) (fun W _ => conv_i64 65 2 Try.underlying65 Try.underlying2 _ (by have := nval_lt 8 (rnext 1048576 (nnext 1 (nnext 8 (nnext 1 (some xs))))); simp only [e8] at this; omega) W)) (by assumption) ?_
            change wpAnyH _ _ _ _ _ _ _ (Act.put _ (some (26 : Nat)) (.int .i64 (sx 8 (nval 8 (rnext 1048576 (nnext 1 (nnext 8 (nnext 1 (some xs))))))))) _
            simp only [Act.put, List.setIfInBounds_toArray, List.set_cons_zero, List.set_cons_succ]
            refine wpAnyH_ready (rs := [16]) (by kernel_rfl) (by simp) ?_
            refine AllReadyH.cons rfl (fun K hK => ?_) AllReadyH.nil
            go_simp
            refine (rnumber_rs (HRa4.out) 8 rfl).mono ?_
            rintro e wa5 ⟨rfl, hr5, hg5⟩; have HRa5 := Lib.hid hr5; have HGa5 := Lib.hid hg5; have HBa5 := Lib.hid ((HBa4.out).grown hg5 (fun e => HNE.out (Option.some.inj e))); clear hr5 hg5
            go_wp2_with fail
            refine hK.out _ _ ⟨(only_trans hHeld.1 HGa5.out), (HRa4.out).by_keep hHeld.2 HGa5.out⟩ (fun hHeld1 => ?_)
            clear hHeld hK K
            have hHeld := hHeld1
            clear hHeld1
            refine wpAnyH_take (i := 17) (v := (.int .i64 (sx 8 (nval 8 (nnext 8 (rnext 1048576 (nnext 1 (nnext 8 (nnext 1 (some xs)))))))))) rfl (by kernel_rfl) (by kernel_rfl) (by kernel_rfl) (fun _ _ _ h => h) (yields_conv (by kernel_rfl) 65 2 (.tmp 28) rfl (.int .u64 ((nval 8 (nnext 8 (rnext 1048576 (nnext 1 (nnext 8 (nnext 1 (some xs)))))) : Nat) : Int)) (by simp [Act.eval]) (.int .i64 (sx 8 (nval 8 (nnext 8 (rnext 1048576 (nnext 1 (nnext 8 (nnext 1 (some xs))))))))) (fun W _ => conv_i64 65 2 Try.underlying65 Try.underlying2 _ (by have := nval_lt 8 (nnext 8 (rnext 1048576 (nnext 1 (nnext 8 (nnext 1 (some xs)))))); simp only [e8] at this; omega) W)) (by assumption) ?_
            change wpAnyH _ _ _ _ _ _ _ (Act.put _ (some (29 : Nat)) (.int .i64 (sx 8 (nval 8 (nnext 8 (rnext 1048576 (nnext 1 (nnext 8 (nnext 1 (some xs)))))))))) _
            simp only [Act.put, List.setIfInBounds_toArray, List.set_cons_zero, List.set_cons_succ]
            refine wpAnyH_ready (rs := [19]) (by kernel_rfl) (by simp) ?_
            refine AllReadyH.cons rfl (fun K hK => ?_) AllReadyH.nil
            go_simp
            refine (rrow_rs (HRa5.out) 1048576 (by omega)).mono ?_
            rintro e wa6 ⟨Ba6, ma6, ca6, rfl, hy6, hr6, hg6⟩; have HRa6 := Lib.hid hr6; have HGa6 := Lib.hid hg6; have HBa6 := Lib.hid ((HBa5.out).grown hg6 (fun e => HNE.out (Option.some.inj e))); have HYa6 := Lib.hid hy6; clear hr6 hg6 hy6
            go_wp2_with fail
            refine hK.out _ _ ⟨(only_trans hHeld.1 HGa6.out), (HRa5.out).by_keep hHeld.2 HGa6.out⟩ (fun hHeld1 => ?_)
            clear hHeld hK K
            have hHeld := hHeld1
            clear hHeld1
            refine wpAnyH_weaken (S' := fun W => ((wr.grownBy W (some (w.heap.size + 1))) ∧ By W (fun _ => True) Ba3 ma3 (rval 1048576 (nnext 1 (nnext 8 (nnext 1 (some xs)))))) ∧ By W (fun _ => True) Ba6 ma6 (rval 1048576 (nnext 8 (nnext 8 (rnext 1048576 (nnext 1 (nnext 8 (nnext 1 (some xs))))))))) (fun W h => h.1) _ _ _ _ ?_
            have hHeld2 := And.intro hHeld HYa6.out
            clear hHeld
            have hHeld := hHeld2
            clear hHeld2
            refine wpAnyH_take (i := 20) (v := (.string (ba (rval 1048576 (nnext 8 (nnext 8 (rnext 1048576 (nnext 1 (nnext 8 (nnext 1 (some xs))))))))))) rfl (by kernel_rfl) (by kernel_rfl) (by kernel_rfl) (fun _ _ _ h => h) (yields_conv (by kernel_rfl) 25 9 (.tmp 31) rfl (.slice Ba6 ma6 ca6) (by simp [Act.eval]) (.string (ba (rval 1048576 (nnext 8 (nnext 8 (rnext 1048576 (nnext 1 (nnext 8 (nnext 1 (some xs)))))))))) (fun W hW => run_string_by W 25 9 5 Try.underlying25 Try.underlying5 Try.underlying9 _ _ _ _ _ hW.2)) (by assumption) ?_
            change wpAnyH _ _ _ _ _ _ _ (Act.put _ (some (32 : Nat)) (.string (ba (rval 1048576 (nnext 8 (nnext 8 (rnext 1048576 (nnext 1 (nnext 8 (nnext 1 (some xs))))))))))) _
            simp only [Act.put, List.setIfInBounds_toArray, List.set_cons_zero, List.set_cons_succ]
            obtain ⟨V, hV⟩ : ∃ V : Value, V = .agg #[.int .i64 ((nval 1 (some xs) : Nat) : Int), .int .i64 (sx 8 (nval 8 (nnext 1 (some xs)))), .int .i64 ((nval 1 (nnext 8 (nnext 1 (some xs))) : Nat) : Int), .string (ba (rval 1048576 (nnext 1 (nnext 8 (nnext 1 (some xs)))))), .int .i64 (sx 8 (nval 8 (rnext 1048576 (nnext 1 (nnext 8 (nnext 1 (some xs))))))), .int .i64 (sx 8 (nval 8 (nnext 8 (rnext 1048576 (nnext 1 (nnext 8 (nnext 1 (some xs)))))))), .string (ba (rval 1048576 (nnext 8 (nnext 8 (rnext 1048576 (nnext 1 (nnext 8 (nnext 1 (some xs)))))))))] := ⟨_, rfl⟩
            have HV := Lib.hid hV
            clear hV
            refine wpAnyH_take (i := 21) (v := V) rfl (by kernel_rfl) (by kernel_rfl) (by kernel_rfl) (fun _ _ _ h => h) (yields_build (by kernel_rfl) 23 _ rfl _ (by simp only [List.map_toArray, List.map_cons, List.map_nil, Act.eval]; rfl) V (fun w _ => by rw [HV.out]; exact Try.build_c7 _ _ _ _ _ _ _ w)) (by assumption) ?_
            change wpAnyH _ _ _ _ _ _ _ (Act.put _ (some (33 : Nat)) V) _
            simp only [Act.put, List.setIfInBounds_toArray, List.set_cons_zero, List.set_cons_succ]
            refine wpAnyH_ready (rs := [23]) (by kernel_rfl) (by simp) ?_
            refine AllReadyH.cons (o := ⟨none, .store 23 (.tmp 7) (.tmp 33), _, _, _, none⟩) rfl (fun K hK => ?_) AllReadyH.nil
            have HBp := Lib.hid (HBa6.out); refine step_store_blk rfl 23 (.tmp 7) (.tmp 33) rfl gz [.int .i64 ((nval 1 (some xs) : Nat) : Int), .int .i64 (sx 8 (nval 8 (nnext 1 (some xs)))), .int .i64 ((nval 1 (nnext 8 (nnext 1 (some xs))) : Nat) : Int), .string (ba (rval 1048576 (nnext 1 (nnext 8 (nnext 1 (some xs)))))), .int .i64 (sx 8 (nval 8 (rnext 1048576 (nnext 1 (nnext 8 (nnext 1 (some xs))))))), .int .i64 (sx 8 (nval 8 (nnext 8 (rnext 1048576 (nnext 1 (nnext 8 (nnext 1 (some xs)))))))), .string (ba (rval 1048576 (nnext 8 (nnext 8 (rnext 1048576 (nnext 1 (nnext 8 (nnext 1 (some xs)))))))))] (by simp [Act.eval]) (by simp only [Act.eval]; exact HV.out) 23 [.int .i64 0, .int .i64 0, .int .i64 0, .string (ba []), .int .i64 0, .int .i64 0, .string (ba [])] (HBa6.out) (by kernel_rfl) rfl (one7 _ _ _ _ _ _ _) ?_; intro we hbe hge; have HBe := Lib.hid hbe; have HGe := Lib.hid hge; have HRe := Lib.hid ((HRa6.out).other hge (fun b hb => ⟨fun e => HNE.out (by rw [Option.some.inj hb]; exact e), by have := Option.some.inj hb; have := HZ.out; have := HSZ.out; omega⟩)); clear hbe hge
            refine hK.out _ _ ⟨⟨(only_new hHeld.1.1 HGe.out HZ.out), By.far hHeld.1.2 HGe.out HBp.out (no_u8c _ _ _ _ _ _ _)⟩, By.far hHeld.2 HGe.out HBp.out (no_u8c _ _ _ _ _ _ _)⟩ (fun hHeld1 => ?_)
            clear hHeld hK K
            have hHeld := hHeld1
            clear hHeld1
            change wpAnyH _ _ _ _ _ _ _ (Act.put _ none undef) _
            simp only [Act.put]
            refine wpAnyH_done (by kernel_rfl) ?_ _
            have HG6 := Lib.hid hHeld.1.1
            clear hHeld
            go_wp2
            go_meet
            case rel => exact ⟨gz, rfl, (by rw [← HC0.out]; exact HBe.out), (by rw [← HST0.out]; exact HRe.out), HZ.out, HZ2.out.grown HG6.out (by simp), HX2.out.grown HG6.out HX2.out.size (fun k hk => by have := Option.some.inj hk; omega)⟩
        · as_aux_lemma =>
          obtain ⟨gz, hgz⟩ : ∃ gz, wa1.heap.size = gz := ⟨_, rfl⟩; refine step_alloc (by simp [Region.wanted]) 23 rfl (.pointer (some ⟨gz, 0, none⟩)) (wa1.alloc (.cells #[.int .i64 0, .int .i64 0, .int .i64 0, .string (ba []), .int .i64 0, .int .i64 0, .string (ba [])] 23)) (Try.alloc_cr gz wa1 hgz) ?_; have HBz : Hid (Blk (wa1.alloc (.cells #[.int .i64 0, .int .i64 0, .int .i64 0, .string (ba []), .int .i64 0, .int .i64 0, .string (ba [])] 23)) gz 23 [.int .i64 0, .int .i64 0, .int .i64 0, .string (ba []), .int .i64 0, .int .i64 0, .string (ba [])]) := Lib.hid (Blk.fresh hgz.symm rfl); have HRz := Lib.hid ((HRa1.out).alloc (.cells #[.int .i64 0, .int .i64 0, .int .i64 0, .string (ba []), .int .i64 0, .int .i64 0, .string (ba [])] 23)); have HNE : Hid (gz ≠ (w.heap.size + 1)) := Lib.hid (fun e => by have h9 := (HRa1.out).lt; rw [← e, ← hgz] at h9; exact Nat.lt_irrefl _ h9); have HZ : Hid (wr.heap.size ≤ gz) := Lib.hid (hgz ▸ (hHeld).size); clear hgz
          refine hK.out _ _ (only_trans hHeld (only_below ((Below.refl _ _).alloc (Nat.le_refl _) _))) (fun hHeld1 => ?_)
          clear hHeld hK K
          have hHeld := hHeld1
          clear hHeld1
          change wpAnyH _ _ _ _ _ _ _ (Act.put _ (some (7 : Nat)) (.pointer (some ⟨gz, 0, none⟩))) _
          simp only [Act.put, List.setIfInBounds_toArray, List.set_cons_zero, List.set_cons_succ]
          refine wpAnyH_ready (rs := [7]) (by kernel_rfl) (by simp) ?_
          refine AllReadyH.cons rfl (fun K hK => ?_) AllReadyH.nil
          go_simp
          refine (rnumber_rs (HRz.out) 1 rfl).mono ?_
          rintro e wa2 ⟨rfl, hr2, hg2⟩; have HRa2 := Lib.hid hr2; have HGa2 := Lib.hid hg2; have HBa2 := Lib.hid ((HBz.out).grown hg2 (fun e => HNE.out (Option.some.inj e))); clear hr2 hg2
          go_wp2_with fail
          refine hK.out _ _ (only_trans hHeld HGa2.out) (fun hHeld1 => ?_)
          clear hHeld hK K
          have hHeld := hHeld1
          clear hHeld1
          refine wpAnyH_take (i := 8) (v := (.int .i64 ((nval 1 (nnext 8 (nnext 1 (some xs))) : Nat) : Int))) rfl (by kernel_rfl) (by kernel_rfl) (by kernel_rfl) (fun _ _ _ h => h) (yields_conv (by kernel_rfl) 65 3 (.tmp 19) rfl (.int .u64 ((nval 1 (nnext 8 (nnext 1 (some xs))) : Nat) : Int)) (by simp [Act.eval]) (.int .i64 ((nval 1 (nnext 8 (nnext 1 (some xs))) : Nat) : Int)) (fun W _ => conv_small 65 3 Try.underlying65 Try.underlying3 _ (by have := nval_lt 1 (nnext 8 (nnext 1 (some xs))); simp only [e1] at this; omega) W)) (by assumption) ?_
          change wpAnyH _ _ _ _ _ _ _ (Act.put _ (some (20 : Nat)) (.int .i64 ((nval 1 (nnext 8 (nnext 1 (some xs))) : Nat) : Int))) _
          simp only [Act.put, List.setIfInBounds_toArray, List.set_cons_zero, List.set_cons_succ]
          refine wpAnyH_ready (rs := [10]) (by kernel_rfl) (by simp) ?_
          refine AllReadyH.cons rfl (fun K hK => ?_) AllReadyH.nil
          go_simp
          refine (rrow_rs (HRa2.out) 1048576 (by omega)).mono ?_
          rintro e wa3 ⟨Ba3, ma3, ca3, rfl, hy3, hr3, hg3⟩; have HRa3 := Lib.hid hr3; have HGa3 := Lib.hid hg3; have HBa3 := Lib.hid ((HBa2.out).grown hg3 (fun e => HNE.out (Option.some.inj e))); have HYa3 := Lib.hid hy3; clear hr3 hg3 hy3
          go_wp2_with fail
          refine hK.out _ _ (only_trans hHeld HGa3.out) (fun hHeld1 => ?_)
          clear hHeld hK K
          have hHeld := hHeld1
          clear hHeld1
          refine wpAnyH_weaken (S' := fun W => (wr.grownBy W (some (w.heap.size + 1))) ∧ By W (fun _ => True) Ba3 ma3 (rval 1048576 (nnext 1 (nnext 8 (nnext 1 (some xs)))))) (fun W h => h.1) _ _ _ _ ?_
          have hHeld2 := And.intro hHeld HYa3.out
          clear hHeld
          have hHeld := hHeld2
          clear hHeld2
          refine wpAnyH_take (i := 11) (v := (.string (ba (rval 1048576 (nnext 1 (nnext 8 (nnext 1 (some xs)))))))) rfl (by kernel_rfl) (by kernel_rfl) (by kernel_rfl) (fun _ _ _ h => h) (yields_conv (by kernel_rfl) 25 9 (.tmp 22) rfl (.slice Ba3 ma3 ca3) (by simp [Act.eval]) (.string (ba (rval 1048576 (nnext 1 (nnext 8 (nnext 1 (some xs))))))) (fun W hW => run_string_by W 25 9 5 Try.underlying25 Try.underlying5 Try.underlying9 _ _ _ _ _ hW.2)) (by assumption) ?_
          change wpAnyH _ _ _ _ _ _ _ (Act.put _ (some (23 : Nat)) (.string (ba (rval 1048576 (nnext 1 (nnext 8 (nnext 1 (some xs)))))))) _
          simp only [Act.put, List.setIfInBounds_toArray, List.set_cons_zero, List.set_cons_succ]
          refine wpAnyH_ready (rs := [13]) (by kernel_rfl) (by simp) ?_
          refine AllReadyH.cons rfl (fun K hK => ?_) AllReadyH.nil
          go_simp
          refine (rnumber_rs (HRa3.out) 8 rfl).mono ?_
          rintro e wa4 ⟨rfl, hr4, hg4⟩; have HRa4 := Lib.hid hr4; have HGa4 := Lib.hid hg4; have HBa4 := Lib.hid ((HBa3.out).grown hg4 (fun e => HNE.out (Option.some.inj e))); clear hr4 hg4
          go_wp2_with fail
          refine hK.out _ _ ⟨(only_trans hHeld.1 HGa4.out), (HRa3.out).by_keep hHeld.2 HGa4.out⟩ (fun hHeld1 => ?_)
          clear hHeld hK K
          have hHeld := hHeld1
          clear hHeld1
          refine wpAnyH_take (i := 14) (v := (.int .i64 (sx 8 (nval 8 (rnext 1048576 (nnext 1 (nnext 8 (nnext 1 (some xs))))))))) rfl (by kernel_rfl) (by kernel_rfl) (by kernel_rfl) (fun _ _ _ h => h) (yields_conv (by kernel_rfl) 65 2 (.tmp 25) rfl (.int .u64 ((nval 8 (rnext 1048576 (nnext 1 (nnext 8 (nnext 1 (some xs))))) : Nat) : Int)) (by simp [Act.eval]) (.int .i64 (sx 8 (nval 8 (rnext 1048576 (nnext 1 (nnext 8 (nnext 1 (some xs)))))))) (fun W _ => conv_i64 65 2 Try.underlying65 Try.underlying2 _ (by have := nval_lt 8 (rnext 1048576 (nnext 1 (nnext 8 (nnext 1 (some xs))))); simp only [e8] at this; omega) W)) (by assumption) ?_
          change wpAnyH _ _ _ _ _ _ _ (Act.put _ (some (26 : Nat)) (.int .i64 (sx 8 (nval 8 (rnext 1048576 (nnext 1 (nnext 8 (nnext 1 (some xs))))))))) _
          simp only [Act.put, List.setIfInBounds_toArray, List.set_cons_zero, List.set_cons_succ]
          refine wpAnyH_ready (rs := [16]) (by kernel_rfl) (by simp) ?_
          refine AllReadyH.cons rfl (fun K hK => ?_) AllReadyH.nil
          go_simp
          refine (rnumber_rs (HRa4.out) 8 rfl).mono ?_
          rintro e wa5 ⟨rfl, hr5, hg5⟩; have HRa5 := Lib.hid hr5; have HGa5 := Lib.hid hg5; have HBa5 := Lib.hid ((HBa4.out).grown hg5 (fun e => HNE.out (Option.some.inj e))); clear hr5 hg5
          go_wp2_with fail
          refine hK.out _ _ ⟨(only_trans hHeld.1 HGa5.out), (HRa4.out).by_keep hHeld.2 HGa5.out⟩ (fun hHeld1 => ?_)
          clear hHeld hK K
          have hHeld := hHeld1
          clear hHeld1
          refine wpAnyH_take (i := 17) (v := (.int .i64 (sx 8 (nval 8 (nnext 8 (rnext 1048576 (nnext 1 (nnext 8 (nnext 1 (some xs)))))))))) rfl (by kernel_rfl) (by kernel_rfl) (by kernel_rfl) (fun _ _ _ h => h) (yields_conv (by kernel_rfl) 65 2 (.tmp 28) rfl (.int .u64 ((nval 8 (nnext 8 (rnext 1048576 (nnext 1 (nnext 8 (nnext 1 (some xs)))))) : Nat) : Int)) (by simp [Act.eval]) (.int .i64 (sx 8 (nval 8 (nnext 8 (rnext 1048576 (nnext 1 (nnext 8 (nnext 1 (some xs))))))))) (fun W _ => conv_i64 65 2 Try.underlying65 Try.underlying2 _ (by have := nval_lt 8 (nnext 8 (rnext 1048576 (nnext 1 (nnext 8 (nnext 1 (some xs)))))); simp only [e8] at this; omega) W)) (by assumption) ?_
          change wpAnyH _ _ _ _ _ _ _ (Act.put _ (some (29 : Nat)) (.int .i64 (sx 8 (nval 8 (nnext 8 (rnext 1048576 (nnext 1 (nnext 8 (nnext 1 (some xs)))))))))) _
          simp only [Act.put, List.setIfInBounds_toArray, List.set_cons_zero, List.set_cons_succ]
          refine wpAnyH_ready (rs := [19]) (by kernel_rfl) (by simp) ?_
          refine AllReadyH.cons rfl (fun K hK => ?_) AllReadyH.nil
          go_simp
          refine (rrow_rs (HRa5.out) 1048576 (by omega)).mono ?_
          rintro e wa6 ⟨Ba6, ma6, ca6, rfl, hy6, hr6, hg6⟩; have HRa6 := Lib.hid hr6; have HGa6 := Lib.hid hg6; have HBa6 := Lib.hid ((HBa5.out).grown hg6 (fun e => HNE.out (Option.some.inj e))); have HYa6 := Lib.hid hy6; clear hr6 hg6 hy6
          go_wp2_with fail
          refine hK.out _ _ ⟨(only_trans hHeld.1 HGa6.out), (HRa5.out).by_keep hHeld.2 HGa6.out⟩ (fun hHeld1 => ?_)
          clear hHeld hK K
          have hHeld := hHeld1
          clear hHeld1
          refine wpAnyH_weaken (S' := fun W => ((wr.grownBy W (some (w.heap.size + 1))) ∧ By W (fun _ => True) Ba3 ma3 (rval 1048576 (nnext 1 (nnext 8 (nnext 1 (some xs)))))) ∧ By W (fun _ => True) Ba6 ma6 (rval 1048576 (nnext 8 (nnext 8 (rnext 1048576 (nnext 1 (nnext 8 (nnext 1 (some xs))))))))) (fun W h => h.1) _ _ _ _ ?_
          have hHeld2 := And.intro hHeld HYa6.out
          clear hHeld
          have hHeld := hHeld2
          clear hHeld2
          refine wpAnyH_take (i := 20) (v := (.string (ba (rval 1048576 (nnext 8 (nnext 8 (rnext 1048576 (nnext 1 (nnext 8 (nnext 1 (some xs))))))))))) rfl (by kernel_rfl) (by kernel_rfl) (by kernel_rfl) (fun _ _ _ h => h) (yields_conv (by kernel_rfl) 25 9 (.tmp 31) rfl (.slice Ba6 ma6 ca6) (by simp [Act.eval]) (.string (ba (rval 1048576 (nnext 8 (nnext 8 (rnext 1048576 (nnext 1 (nnext 8 (nnext 1 (some xs)))))))))) (fun W hW => run_string_by W 25 9 5 Try.underlying25 Try.underlying5 Try.underlying9 _ _ _ _ _ hW.2)) (by assumption) ?_
          change wpAnyH _ _ _ _ _ _ _ (Act.put _ (some (32 : Nat)) (.string (ba (rval 1048576 (nnext 8 (nnext 8 (rnext 1048576 (nnext 1 (nnext 8 (nnext 1 (some xs))))))))))) _
          simp only [Act.put, List.setIfInBounds_toArray, List.set_cons_zero, List.set_cons_succ]
          obtain ⟨V, hV⟩ : ∃ V : Value, V = .agg #[.int .i64 ((nval 1 (some xs) : Nat) : Int), .int .i64 (sx 8 (nval 8 (nnext 1 (some xs)))), .int .i64 ((nval 1 (nnext 8 (nnext 1 (some xs))) : Nat) : Int), .string (ba (rval 1048576 (nnext 1 (nnext 8 (nnext 1 (some xs)))))), .int .i64 (sx 8 (nval 8 (rnext 1048576 (nnext 1 (nnext 8 (nnext 1 (some xs))))))), .int .i64 (sx 8 (nval 8 (nnext 8 (rnext 1048576 (nnext 1 (nnext 8 (nnext 1 (some xs)))))))), .string (ba (rval 1048576 (nnext 8 (nnext 8 (rnext 1048576 (nnext 1 (nnext 8 (nnext 1 (some xs)))))))))] := ⟨_, rfl⟩
          have HV := Lib.hid hV
          clear hV
          refine wpAnyH_take (i := 21) (v := V) rfl (by kernel_rfl) (by kernel_rfl) (by kernel_rfl) (fun _ _ _ h => h) (yields_build (by kernel_rfl) 23 _ rfl _ (by simp only [List.map_toArray, List.map_cons, List.map_nil, Act.eval]; rfl) V (fun w _ => by rw [HV.out]; exact Try.build_c7 _ _ _ _ _ _ _ w)) (by assumption) ?_
          change wpAnyH _ _ _ _ _ _ _ (Act.put _ (some (33 : Nat)) V) _
          simp only [Act.put, List.setIfInBounds_toArray, List.set_cons_zero, List.set_cons_succ]
          refine wpAnyH_ready (rs := [23]) (by kernel_rfl) (by simp) ?_
          refine AllReadyH.cons (o := ⟨none, .store 23 (.tmp 7) (.tmp 33), _, _, _, none⟩) rfl (fun K hK => ?_) AllReadyH.nil
          have HBp := Lib.hid (HBa6.out); refine step_store_blk rfl 23 (.tmp 7) (.tmp 33) rfl gz [.int .i64 ((nval 1 (some xs) : Nat) : Int), .int .i64 (sx 8 (nval 8 (nnext 1 (some xs)))), .int .i64 ((nval 1 (nnext 8 (nnext 1 (some xs))) : Nat) : Int), .string (ba (rval 1048576 (nnext 1 (nnext 8 (nnext 1 (some xs)))))), .int .i64 (sx 8 (nval 8 (rnext 1048576 (nnext 1 (nnext 8 (nnext 1 (some xs))))))), .int .i64 (sx 8 (nval 8 (nnext 8 (rnext 1048576 (nnext 1 (nnext 8 (nnext 1 (some xs)))))))), .string (ba (rval 1048576 (nnext 8 (nnext 8 (rnext 1048576 (nnext 1 (nnext 8 (nnext 1 (some xs)))))))))] (by simp [Act.eval]) (by simp only [Act.eval]; exact HV.out) 23 [.int .i64 0, .int .i64 0, .int .i64 0, .string (ba []), .int .i64 0, .int .i64 0, .string (ba [])] (HBa6.out) (by kernel_rfl) rfl (one7 _ _ _ _ _ _ _) ?_; intro we hbe hge; have HBe := Lib.hid hbe; have HGe := Lib.hid hge; have HRe := Lib.hid ((HRa6.out).other hge (fun b hb => ⟨fun e => HNE.out (by rw [Option.some.inj hb]; exact e), by have := Option.some.inj hb; have := HZ.out; have := HSZ.out; omega⟩)); clear hbe hge
          refine hK.out _ _ ⟨⟨(only_new hHeld.1.1 HGe.out HZ.out), By.far hHeld.1.2 HGe.out HBp.out (no_u8c _ _ _ _ _ _ _)⟩, By.far hHeld.2 HGe.out HBp.out (no_u8c _ _ _ _ _ _ _)⟩ (fun hHeld1 => ?_)
          clear hHeld hK K
          have hHeld := hHeld1
          clear hHeld1
          change wpAnyH _ _ _ _ _ _ _ (Act.put _ none undef) _
          simp only [Act.put]
          refine wpAnyH_done (by kernel_rfl) ?_ _
          have HG6 := Lib.hid hHeld.1.1
          clear hHeld
          go_wp2
          go_meet
          case rel => exact ⟨gz, rfl, (by rw [← HC0.out]; exact HBe.out), (by rw [← HST0.out]; exact HRe.out), HZ.out, HZ2.out.grown HG6.out (by simp), HX2.out.grown HG6.out HX2.out.size (fun k hk => by have := Option.some.inj hk; omega)⟩
      · as_aux_lemma =>
        obtain ⟨gz, hgz⟩ : ∃ gz, wa0.heap.size = gz := ⟨_, rfl⟩; refine step_alloc (by simp [Region.wanted]) 23 rfl (.pointer (some ⟨gz, 0, none⟩)) (wa0.alloc (.cells #[.int .i64 0, .int .i64 0, .int .i64 0, .string (ba []), .int .i64 0, .int .i64 0, .string (ba [])] 23)) (Try.alloc_cr gz wa0 hgz) ?_; have HBz : Hid (Blk (wa0.alloc (.cells #[.int .i64 0, .int .i64 0, .int .i64 0, .string (ba []), .int .i64 0, .int .i64 0, .string (ba [])] 23)) gz 23 [.int .i64 0, .int .i64 0, .int .i64 0, .string (ba []), .int .i64 0, .int .i64 0, .string (ba [])]) := Lib.hid (Blk.fresh hgz.symm rfl); have HRz := Lib.hid ((HRa0.out).alloc (.cells #[.int .i64 0, .int .i64 0, .int .i64 0, .string (ba []), .int .i64 0, .int .i64 0, .string (ba [])] 23)); have HNE : Hid (gz ≠ (w.heap.size + 1)) := Lib.hid (fun e => by have h9 := (HRa0.out).lt; rw [← e, ← hgz] at h9; exact Nat.lt_irrefl _ h9); have HZ : Hid (wr.heap.size ≤ gz) := Lib.hid (hgz ▸ (hHeld).size); clear hgz
        refine hK.out _ _ (only_trans hHeld (only_below ((Below.refl _ _).alloc (Nat.le_refl _) _))) (fun hHeld1 => ?_)
        clear hHeld hK K
        have hHeld := hHeld1
        clear hHeld1
        change wpAnyH _ _ _ _ _ _ _ (Act.put _ (some (7 : Nat)) (.pointer (some ⟨gz, 0, none⟩))) _
        simp only [Act.put, List.setIfInBounds_toArray, List.set_cons_zero, List.set_cons_succ]
        refine wpAnyH_ready (rs := [4]) (by kernel_rfl) (by simp) ?_
        refine AllReadyH.cons rfl (fun K hK => ?_) AllReadyH.nil
        go_simp
        refine (rnumber_rs (HRz.out) 8 rfl).mono ?_
        rintro e wa1 ⟨rfl, hr1, hg1⟩; have HRa1 := Lib.hid hr1; have HGa1 := Lib.hid hg1; have HBa1 := Lib.hid ((HBz.out).grown hg1 (fun e => HNE.out (Option.some.inj e))); clear hr1 hg1
        go_wp2_with fail
        refine hK.out _ _ (only_trans hHeld HGa1.out) (fun hHeld1 => ?_)
        clear hHeld hK K
        have hHeld := hHeld1
        clear hHeld1
        refine wpAnyH_take (i := 5) (v := (.int .i64 (sx 8 (nval 8 (nnext 1 (some xs)))))) rfl (by kernel_rfl) (by kernel_rfl) (by kernel_rfl) (fun _ _ _ h => h) (yields_conv (by kernel_rfl) 65 2 (.tmp 16) rfl (.int .u64 ((nval 8 (nnext 1 (some xs)) : Nat) : Int)) (by simp [Act.eval]) (.int .i64 (sx 8 (nval 8 (nnext 1 (some xs))))) (fun W _ => conv_i64 65 2 Try.underlying65 Try.underlying2 _ (by have := nval_lt 8 (nnext 1 (some xs)); simp only [e8] at this; omega) W)) (by assumption) ?_
        change wpAnyH _ _ _ _ _ _ _ (Act.put _ (some (17 : Nat)) (.int .i64 (sx 8 (nval 8 (nnext 1 (some xs)))))) _
        simp only [Act.put, List.setIfInBounds_toArray, List.set_cons_zero, List.set_cons_succ]
        refine wpAnyH_ready (rs := [7]) (by kernel_rfl) (by simp) ?_
        refine AllReadyH.cons rfl (fun K hK => ?_) AllReadyH.nil
        go_simp
        refine (rnumber_rs (HRa1.out) 1 rfl).mono ?_
        rintro e wa2 ⟨rfl, hr2, hg2⟩; have HRa2 := Lib.hid hr2; have HGa2 := Lib.hid hg2; have HBa2 := Lib.hid ((HBa1.out).grown hg2 (fun e => HNE.out (Option.some.inj e))); clear hr2 hg2
        go_wp2_with fail
        refine hK.out _ _ (only_trans hHeld HGa2.out) (fun hHeld1 => ?_)
        clear hHeld hK K
        have hHeld := hHeld1
        clear hHeld1
        refine wpAnyH_take (i := 8) (v := (.int .i64 ((nval 1 (nnext 8 (nnext 1 (some xs))) : Nat) : Int))) rfl (by kernel_rfl) (by kernel_rfl) (by kernel_rfl) (fun _ _ _ h => h) (yields_conv (by kernel_rfl) 65 3 (.tmp 19) rfl (.int .u64 ((nval 1 (nnext 8 (nnext 1 (some xs))) : Nat) : Int)) (by simp [Act.eval]) (.int .i64 ((nval 1 (nnext 8 (nnext 1 (some xs))) : Nat) : Int)) (fun W _ => conv_small 65 3 Try.underlying65 Try.underlying3 _ (by have := nval_lt 1 (nnext 8 (nnext 1 (some xs))); simp only [e1] at this; omega) W)) (by assumption) ?_
        change wpAnyH _ _ _ _ _ _ _ (Act.put _ (some (20 : Nat)) (.int .i64 ((nval 1 (nnext 8 (nnext 1 (some xs))) : Nat) : Int))) _
        simp only [Act.put, List.setIfInBounds_toArray, List.set_cons_zero, List.set_cons_succ]
        refine wpAnyH_ready (rs := [10]) (by kernel_rfl) (by simp) ?_
        refine AllReadyH.cons rfl (fun K hK => ?_) AllReadyH.nil
        go_simp
        refine (rrow_rs (HRa2.out) 1048576 (by omega)).mono ?_
        rintro e wa3 ⟨Ba3, ma3, ca3, rfl, hy3, hr3, hg3⟩; have HRa3 := Lib.hid hr3; have HGa3 := Lib.hid hg3; have HBa3 := Lib.hid ((HBa2.out).grown hg3 (fun e => HNE.out (Option.some.inj e))); have HYa3 := Lib.hid hy3; clear hr3 hg3 hy3
        go_wp2_with fail
        refine hK.out _ _ (only_trans hHeld HGa3.out) (fun hHeld1 => ?_)
        clear hHeld hK K
        have hHeld := hHeld1
        clear hHeld1
        refine wpAnyH_weaken (S' := fun W => (wr.grownBy W (some (w.heap.size + 1))) ∧ By W (fun _ => True) Ba3 ma3 (rval 1048576 (nnext 1 (nnext 8 (nnext 1 (some xs)))))) (fun W h => h.1) _ _ _ _ ?_
        have hHeld2 := And.intro hHeld HYa3.out
        clear hHeld
        have hHeld := hHeld2
        clear hHeld2
        refine wpAnyH_take (i := 11) (v := (.string (ba (rval 1048576 (nnext 1 (nnext 8 (nnext 1 (some xs)))))))) rfl (by kernel_rfl) (by kernel_rfl) (by kernel_rfl) (fun _ _ _ h => h) (yields_conv (by kernel_rfl) 25 9 (.tmp 22) rfl (.slice Ba3 ma3 ca3) (by simp [Act.eval]) (.string (ba (rval 1048576 (nnext 1 (nnext 8 (nnext 1 (some xs))))))) (fun W hW => run_string_by W 25 9 5 Try.underlying25 Try.underlying5 Try.underlying9 _ _ _ _ _ hW.2)) (by assumption) ?_
        change wpAnyH _ _ _ _ _ _ _ (Act.put _ (some (23 : Nat)) (.string (ba (rval 1048576 (nnext 1 (nnext 8 (nnext 1 (some xs)))))))) _
        simp only [Act.put, List.setIfInBounds_toArray, List.set_cons_zero, List.set_cons_succ]
        refine wpAnyH_ready (rs := [13]) (by kernel_rfl) (by simp) ?_
        refine AllReadyH.cons rfl (fun K hK => ?_) AllReadyH.nil
        go_simp
        refine (rnumber_rs (HRa3.out) 8 rfl).mono ?_
        rintro e wa4 ⟨rfl, hr4, hg4⟩; have HRa4 := Lib.hid hr4; have HGa4 := Lib.hid hg4; have HBa4 := Lib.hid ((HBa3.out).grown hg4 (fun e => HNE.out (Option.some.inj e))); clear hr4 hg4
        go_wp2_with fail
        refine hK.out _ _ ⟨(only_trans hHeld.1 HGa4.out), (HRa3.out).by_keep hHeld.2 HGa4.out⟩ (fun hHeld1 => ?_)
        clear hHeld hK K
        have hHeld := hHeld1
        clear hHeld1
        refine wpAnyH_take (i := 14) (v := (.int .i64 (sx 8 (nval 8 (rnext 1048576 (nnext 1 (nnext 8 (nnext 1 (some xs))))))))) rfl (by kernel_rfl) (by kernel_rfl) (by kernel_rfl) (fun _ _ _ h => h) (yields_conv (by kernel_rfl) 65 2 (.tmp 25) rfl (.int .u64 ((nval 8 (rnext 1048576 (nnext 1 (nnext 8 (nnext 1 (some xs))))) : Nat) : Int)) (by simp [Act.eval]) (.int .i64 (sx 8 (nval 8 (rnext 1048576 (nnext 1 (nnext 8 (nnext 1 (some xs)))))))) (fun W _ => conv_i64 65 2 Try.underlying65 Try.underlying2 _ (by have := nval_lt 8 (rnext 1048576 (nnext 1 (nnext 8 (nnext 1 (some xs))))); simp only [e8] at this; omega) W)) (by assumption) ?_
        change wpAnyH _ _ _ _ _ _ _ (Act.put _ (some (26 : Nat)) (.int .i64 (sx 8 (nval 8 (rnext 1048576 (nnext 1 (nnext 8 (nnext 1 (some xs))))))))) _
        simp only [Act.put, List.setIfInBounds_toArray, List.set_cons_zero, List.set_cons_succ]
        refine wpAnyH_ready (rs := [16]) (by kernel_rfl) (by simp) ?_
        refine AllReadyH.cons rfl (fun K hK => ?_) AllReadyH.nil
        go_simp
        refine (rnumber_rs (HRa4.out) 8 rfl).mono ?_
        rintro e wa5 ⟨rfl, hr5, hg5⟩; have HRa5 := Lib.hid hr5; have HGa5 := Lib.hid hg5; have HBa5 := Lib.hid ((HBa4.out).grown hg5 (fun e => HNE.out (Option.some.inj e))); clear hr5 hg5
        go_wp2_with fail
        refine hK.out _ _ ⟨(only_trans hHeld.1 HGa5.out), (HRa4.out).by_keep hHeld.2 HGa5.out⟩ (fun hHeld1 => ?_)
        clear hHeld hK K
        have hHeld := hHeld1
        clear hHeld1
        refine wpAnyH_take (i := 17) (v := (.int .i64 (sx 8 (nval 8 (nnext 8 (rnext 1048576 (nnext 1 (nnext 8 (nnext 1 (some xs)))))))))) rfl (by kernel_rfl) (by kernel_rfl) (by kernel_rfl) (fun _ _ _ h => h) (yields_conv (by kernel_rfl) 65 2 (.tmp 28) rfl (.int .u64 ((nval 8 (nnext 8 (rnext 1048576 (nnext 1 (nnext 8 (nnext 1 (some xs)))))) : Nat) : Int)) (by simp [Act.eval]) (.int .i64 (sx 8 (nval 8 (nnext 8 (rnext 1048576 (nnext 1 (nnext 8 (nnext 1 (some xs))))))))) (fun W _ => conv_i64 65 2 Try.underlying65 Try.underlying2 _ (by have := nval_lt 8 (nnext 8 (rnext 1048576 (nnext 1 (nnext 8 (nnext 1 (some xs)))))); simp only [e8] at this; omega) W)) (by assumption) ?_
        change wpAnyH _ _ _ _ _ _ _ (Act.put _ (some (29 : Nat)) (.int .i64 (sx 8 (nval 8 (nnext 8 (rnext 1048576 (nnext 1 (nnext 8 (nnext 1 (some xs)))))))))) _
        simp only [Act.put, List.setIfInBounds_toArray, List.set_cons_zero, List.set_cons_succ]
        refine wpAnyH_ready (rs := [19]) (by kernel_rfl) (by simp) ?_
        refine AllReadyH.cons rfl (fun K hK => ?_) AllReadyH.nil
        go_simp
        refine (rrow_rs (HRa5.out) 1048576 (by omega)).mono ?_
        rintro e wa6 ⟨Ba6, ma6, ca6, rfl, hy6, hr6, hg6⟩; have HRa6 := Lib.hid hr6; have HGa6 := Lib.hid hg6; have HBa6 := Lib.hid ((HBa5.out).grown hg6 (fun e => HNE.out (Option.some.inj e))); have HYa6 := Lib.hid hy6; clear hr6 hg6 hy6
        go_wp2_with fail
        refine hK.out _ _ ⟨(only_trans hHeld.1 HGa6.out), (HRa5.out).by_keep hHeld.2 HGa6.out⟩ (fun hHeld1 => ?_)
        clear hHeld hK K
        have hHeld := hHeld1
        clear hHeld1
        refine wpAnyH_weaken (S' := fun W => ((wr.grownBy W (some (w.heap.size + 1))) ∧ By W (fun _ => True) Ba3 ma3 (rval 1048576 (nnext 1 (nnext 8 (nnext 1 (some xs)))))) ∧ By W (fun _ => True) Ba6 ma6 (rval 1048576 (nnext 8 (nnext 8 (rnext 1048576 (nnext 1 (nnext 8 (nnext 1 (some xs))))))))) (fun W h => h.1) _ _ _ _ ?_
        have hHeld2 := And.intro hHeld HYa6.out
        clear hHeld
        have hHeld := hHeld2
        clear hHeld2
        refine wpAnyH_take (i := 20) (v := (.string (ba (rval 1048576 (nnext 8 (nnext 8 (rnext 1048576 (nnext 1 (nnext 8 (nnext 1 (some xs))))))))))) rfl (by kernel_rfl) (by kernel_rfl) (by kernel_rfl) (fun _ _ _ h => h) (yields_conv (by kernel_rfl) 25 9 (.tmp 31) rfl (.slice Ba6 ma6 ca6) (by simp [Act.eval]) (.string (ba (rval 1048576 (nnext 8 (nnext 8 (rnext 1048576 (nnext 1 (nnext 8 (nnext 1 (some xs)))))))))) (fun W hW => run_string_by W 25 9 5 Try.underlying25 Try.underlying5 Try.underlying9 _ _ _ _ _ hW.2)) (by assumption) ?_
        change wpAnyH _ _ _ _ _ _ _ (Act.put _ (some (32 : Nat)) (.string (ba (rval 1048576 (nnext 8 (nnext 8 (rnext 1048576 (nnext 1 (nnext 8 (nnext 1 (some xs))))))))))) _
        simp only [Act.put, List.setIfInBounds_toArray, List.set_cons_zero, List.set_cons_succ]
        obtain ⟨V, hV⟩ : ∃ V : Value, V = .agg #[.int .i64 ((nval 1 (some xs) : Nat) : Int), .int .i64 (sx 8 (nval 8 (nnext 1 (some xs)))), .int .i64 ((nval 1 (nnext 8 (nnext 1 (some xs))) : Nat) : Int), .string (ba (rval 1048576 (nnext 1 (nnext 8 (nnext 1 (some xs)))))), .int .i64 (sx 8 (nval 8 (rnext 1048576 (nnext 1 (nnext 8 (nnext 1 (some xs))))))), .int .i64 (sx 8 (nval 8 (nnext 8 (rnext 1048576 (nnext 1 (nnext 8 (nnext 1 (some xs)))))))), .string (ba (rval 1048576 (nnext 8 (nnext 8 (rnext 1048576 (nnext 1 (nnext 8 (nnext 1 (some xs)))))))))] := ⟨_, rfl⟩
        have HV := Lib.hid hV
        clear hV
        refine wpAnyH_take (i := 21) (v := V) rfl (by kernel_rfl) (by kernel_rfl) (by kernel_rfl) (fun _ _ _ h => h) (yields_build (by kernel_rfl) 23 _ rfl _ (by simp only [List.map_toArray, List.map_cons, List.map_nil, Act.eval]; rfl) V (fun w _ => by rw [HV.out]; exact Try.build_c7 _ _ _ _ _ _ _ w)) (by assumption) ?_
        change wpAnyH _ _ _ _ _ _ _ (Act.put _ (some (33 : Nat)) V) _
        simp only [Act.put, List.setIfInBounds_toArray, List.set_cons_zero, List.set_cons_succ]
        refine wpAnyH_ready (rs := [23]) (by kernel_rfl) (by simp) ?_
        refine AllReadyH.cons (o := ⟨none, .store 23 (.tmp 7) (.tmp 33), _, _, _, none⟩) rfl (fun K hK => ?_) AllReadyH.nil
        have HBp := Lib.hid (HBa6.out); refine step_store_blk rfl 23 (.tmp 7) (.tmp 33) rfl gz [.int .i64 ((nval 1 (some xs) : Nat) : Int), .int .i64 (sx 8 (nval 8 (nnext 1 (some xs)))), .int .i64 ((nval 1 (nnext 8 (nnext 1 (some xs))) : Nat) : Int), .string (ba (rval 1048576 (nnext 1 (nnext 8 (nnext 1 (some xs)))))), .int .i64 (sx 8 (nval 8 (rnext 1048576 (nnext 1 (nnext 8 (nnext 1 (some xs))))))), .int .i64 (sx 8 (nval 8 (nnext 8 (rnext 1048576 (nnext 1 (nnext 8 (nnext 1 (some xs)))))))), .string (ba (rval 1048576 (nnext 8 (nnext 8 (rnext 1048576 (nnext 1 (nnext 8 (nnext 1 (some xs)))))))))] (by simp [Act.eval]) (by simp only [Act.eval]; exact HV.out) 23 [.int .i64 0, .int .i64 0, .int .i64 0, .string (ba []), .int .i64 0, .int .i64 0, .string (ba [])] (HBa6.out) (by kernel_rfl) rfl (one7 _ _ _ _ _ _ _) ?_; intro we hbe hge; have HBe := Lib.hid hbe; have HGe := Lib.hid hge; have HRe := Lib.hid ((HRa6.out).other hge (fun b hb => ⟨fun e => HNE.out (by rw [Option.some.inj hb]; exact e), by have := Option.some.inj hb; have := HZ.out; have := HSZ.out; omega⟩)); clear hbe hge
        refine hK.out _ _ ⟨⟨(only_new hHeld.1.1 HGe.out HZ.out), By.far hHeld.1.2 HGe.out HBp.out (no_u8c _ _ _ _ _ _ _)⟩, By.far hHeld.2 HGe.out HBp.out (no_u8c _ _ _ _ _ _ _)⟩ (fun hHeld1 => ?_)
        clear hHeld hK K
        have hHeld := hHeld1
        clear hHeld1
        change wpAnyH _ _ _ _ _ _ _ (Act.put _ none undef) _
        simp only [Act.put]
        refine wpAnyH_done (by kernel_rfl) ?_ _
        have HG6 := Lib.hid hHeld.1.1
        clear hHeld
        go_wp2
        go_meet
        case rel => exact ⟨gz, rfl, (by rw [← HC0.out]; exact HBe.out), (by rw [← HST0.out]; exact HRe.out), HZ.out, HZ2.out.grown HG6.out (by simp), HX2.out.grown HG6.out HX2.out.size (fun k hk => by have := Option.some.inj hk; omega)⟩
    · as_aux_lemma =>
      obtain ⟨gz, hgz⟩ : ∃ gz, wr.drew.heap.size = gz := ⟨_, rfl⟩; refine step_alloc (by simp [Region.wanted]) 23 rfl (.pointer (some ⟨gz, 0, none⟩)) (wr.drew.alloc (.cells #[.int .i64 0, .int .i64 0, .int .i64 0, .string (ba []), .int .i64 0, .int .i64 0, .string (ba [])] 23)) (Try.alloc_cr gz wr.drew hgz) ?_; have HBz : Hid (Blk (wr.drew.alloc (.cells #[.int .i64 0, .int .i64 0, .int .i64 0, .string (ba []), .int .i64 0, .int .i64 0, .string (ba [])] 23)) gz 23 [.int .i64 0, .int .i64 0, .int .i64 0, .string (ba []), .int .i64 0, .int .i64 0, .string (ba [])]) := Lib.hid (Blk.fresh hgz.symm rfl); have HRz := Lib.hid ((HR.out.drew).alloc (.cells #[.int .i64 0, .int .i64 0, .int .i64 0, .string (ba []), .int .i64 0, .int .i64 0, .string (ba [])] 23)); have HNE : Hid (gz ≠ (w.heap.size + 1)) := Lib.hid (fun e => by have h9 := (HR.out.drew).lt; rw [← e, ← hgz] at h9; exact Nat.lt_irrefl _ h9); have HZ : Hid (wr.heap.size ≤ gz) := Lib.hid (hgz ▸ (hHeld).size); clear hgz
      refine hK.out _ _ (only_trans hHeld (only_below ((Below.refl _ _).alloc (Nat.le_refl _) _))) (fun hHeld1 => ?_)
      clear hHeld hK K
      have hHeld := hHeld1
      clear hHeld1
      change wpAnyH _ _ _ _ _ _ _ (Act.put _ (some (7 : Nat)) (.pointer (some ⟨gz, 0, none⟩))) _
      simp only [Act.put, List.setIfInBounds_toArray, List.set_cons_zero, List.set_cons_succ]
      refine wpAnyH_ready (rs := [1]) (by kernel_rfl) (by simp) ?_
      refine AllReadyH.cons rfl (fun K hK => ?_) AllReadyH.nil
      go_simp
      refine (rnumber_rs (HRz.out) 1 rfl).mono ?_
      rintro e wa0 ⟨rfl, hr0, hg0⟩; have HRa0 := Lib.hid hr0; have HGa0 := Lib.hid hg0; have HBa0 := Lib.hid ((HBz.out).grown hg0 (fun e => HNE.out (Option.some.inj e))); clear hr0 hg0
      go_wp2_with fail
      refine hK.out _ _ (only_trans hHeld HGa0.out) (fun hHeld1 => ?_)
      clear hHeld hK K
      have hHeld := hHeld1
      clear hHeld1
      refine wpAnyH_take (i := 2) (v := (.int .i64 ((nval 1 (some xs) : Nat) : Int))) rfl (by kernel_rfl) (by kernel_rfl) (by kernel_rfl) (fun _ _ _ h => h) (yields_conv (by kernel_rfl) 65 3 (.tmp 13) rfl (.int .u64 ((nval 1 (some xs) : Nat) : Int)) (by simp [Act.eval]) (.int .i64 ((nval 1 (some xs) : Nat) : Int)) (fun W _ => conv_small 65 3 Try.underlying65 Try.underlying3 _ (by have := nval_lt 1 (some xs); simp only [e1] at this; omega) W)) (by assumption) ?_
      change wpAnyH _ _ _ _ _ _ _ (Act.put _ (some (14 : Nat)) (.int .i64 ((nval 1 (some xs) : Nat) : Int))) _
      simp only [Act.put, List.setIfInBounds_toArray, List.set_cons_zero, List.set_cons_succ]
      refine wpAnyH_ready (rs := [4]) (by kernel_rfl) (by simp) ?_
      refine AllReadyH.cons rfl (fun K hK => ?_) AllReadyH.nil
      go_simp
      refine (rnumber_rs (HRa0.out) 8 rfl).mono ?_
      rintro e wa1 ⟨rfl, hr1, hg1⟩; have HRa1 := Lib.hid hr1; have HGa1 := Lib.hid hg1; have HBa1 := Lib.hid ((HBa0.out).grown hg1 (fun e => HNE.out (Option.some.inj e))); clear hr1 hg1
      go_wp2_with fail
      refine hK.out _ _ (only_trans hHeld HGa1.out) (fun hHeld1 => ?_)
      clear hHeld hK K
      have hHeld := hHeld1
      clear hHeld1
      refine wpAnyH_take (i := 5) (v := (.int .i64 (sx 8 (nval 8 (nnext 1 (some xs)))))) rfl (by kernel_rfl) (by kernel_rfl) (by kernel_rfl) (fun _ _ _ h => h) (yields_conv (by kernel_rfl) 65 2 (.tmp 16) rfl (.int .u64 ((nval 8 (nnext 1 (some xs)) : Nat) : Int)) (by simp [Act.eval]) (.int .i64 (sx 8 (nval 8 (nnext 1 (some xs))))) (fun W _ => conv_i64 65 2 Try.underlying65 Try.underlying2 _ (by have := nval_lt 8 (nnext 1 (some xs)); simp only [e8] at this; omega) W)) (by assumption) ?_
      change wpAnyH _ _ _ _ _ _ _ (Act.put _ (some (17 : Nat)) (.int .i64 (sx 8 (nval 8 (nnext 1 (some xs)))))) _
      simp only [Act.put, List.setIfInBounds_toArray, List.set_cons_zero, List.set_cons_succ]
      refine wpAnyH_ready (rs := [7]) (by kernel_rfl) (by simp) ?_
      refine AllReadyH.cons rfl (fun K hK => ?_) AllReadyH.nil
      go_simp
      refine (rnumber_rs (HRa1.out) 1 rfl).mono ?_
      rintro e wa2 ⟨rfl, hr2, hg2⟩; have HRa2 := Lib.hid hr2; have HGa2 := Lib.hid hg2; have HBa2 := Lib.hid ((HBa1.out).grown hg2 (fun e => HNE.out (Option.some.inj e))); clear hr2 hg2
      go_wp2_with fail
      refine hK.out _ _ (only_trans hHeld HGa2.out) (fun hHeld1 => ?_)
      clear hHeld hK K
      have hHeld := hHeld1
      clear hHeld1
      refine wpAnyH_take (i := 8) (v := (.int .i64 ((nval 1 (nnext 8 (nnext 1 (some xs))) : Nat) : Int))) rfl (by kernel_rfl) (by kernel_rfl) (by kernel_rfl) (fun _ _ _ h => h) (yields_conv (by kernel_rfl) 65 3 (.tmp 19) rfl (.int .u64 ((nval 1 (nnext 8 (nnext 1 (some xs))) : Nat) : Int)) (by simp [Act.eval]) (.int .i64 ((nval 1 (nnext 8 (nnext 1 (some xs))) : Nat) : Int)) (fun W _ => conv_small 65 3 Try.underlying65 Try.underlying3 _ (by have := nval_lt 1 (nnext 8 (nnext 1 (some xs))); simp only [e1] at this; omega) W)) (by assumption) ?_
      change wpAnyH _ _ _ _ _ _ _ (Act.put _ (some (20 : Nat)) (.int .i64 ((nval 1 (nnext 8 (nnext 1 (some xs))) : Nat) : Int))) _
      simp only [Act.put, List.setIfInBounds_toArray, List.set_cons_zero, List.set_cons_succ]
      refine wpAnyH_ready (rs := [10]) (by kernel_rfl) (by simp) ?_
      refine AllReadyH.cons rfl (fun K hK => ?_) AllReadyH.nil
      go_simp
      refine (rrow_rs (HRa2.out) 1048576 (by omega)).mono ?_
      rintro e wa3 ⟨Ba3, ma3, ca3, rfl, hy3, hr3, hg3⟩; have HRa3 := Lib.hid hr3; have HGa3 := Lib.hid hg3; have HBa3 := Lib.hid ((HBa2.out).grown hg3 (fun e => HNE.out (Option.some.inj e))); have HYa3 := Lib.hid hy3; clear hr3 hg3 hy3
      go_wp2_with fail
      refine hK.out _ _ (only_trans hHeld HGa3.out) (fun hHeld1 => ?_)
      clear hHeld hK K
      have hHeld := hHeld1
      clear hHeld1
      refine wpAnyH_weaken (S' := fun W => (wr.grownBy W (some (w.heap.size + 1))) ∧ By W (fun _ => True) Ba3 ma3 (rval 1048576 (nnext 1 (nnext 8 (nnext 1 (some xs)))))) (fun W h => h.1) _ _ _ _ ?_
      have hHeld2 := And.intro hHeld HYa3.out
      clear hHeld
      have hHeld := hHeld2
      clear hHeld2
      refine wpAnyH_take (i := 11) (v := (.string (ba (rval 1048576 (nnext 1 (nnext 8 (nnext 1 (some xs)))))))) rfl (by kernel_rfl) (by kernel_rfl) (by kernel_rfl) (fun _ _ _ h => h) (yields_conv (by kernel_rfl) 25 9 (.tmp 22) rfl (.slice Ba3 ma3 ca3) (by simp [Act.eval]) (.string (ba (rval 1048576 (nnext 1 (nnext 8 (nnext 1 (some xs))))))) (fun W hW => run_string_by W 25 9 5 Try.underlying25 Try.underlying5 Try.underlying9 _ _ _ _ _ hW.2)) (by assumption) ?_
      change wpAnyH _ _ _ _ _ _ _ (Act.put _ (some (23 : Nat)) (.string (ba (rval 1048576 (nnext 1 (nnext 8 (nnext 1 (some xs)))))))) _
      simp only [Act.put, List.setIfInBounds_toArray, List.set_cons_zero, List.set_cons_succ]
      refine wpAnyH_ready (rs := [13]) (by kernel_rfl) (by simp) ?_
      refine AllReadyH.cons rfl (fun K hK => ?_) AllReadyH.nil
      go_simp
      refine (rnumber_rs (HRa3.out) 8 rfl).mono ?_
      rintro e wa4 ⟨rfl, hr4, hg4⟩; have HRa4 := Lib.hid hr4; have HGa4 := Lib.hid hg4; have HBa4 := Lib.hid ((HBa3.out).grown hg4 (fun e => HNE.out (Option.some.inj e))); clear hr4 hg4
      go_wp2_with fail
      refine hK.out _ _ ⟨(only_trans hHeld.1 HGa4.out), (HRa3.out).by_keep hHeld.2 HGa4.out⟩ (fun hHeld1 => ?_)
      clear hHeld hK K
      have hHeld := hHeld1
      clear hHeld1
      refine wpAnyH_take (i := 14) (v := (.int .i64 (sx 8 (nval 8 (rnext 1048576 (nnext 1 (nnext 8 (nnext 1 (some xs))))))))) rfl (by kernel_rfl) (by kernel_rfl) (by kernel_rfl) (fun _ _ _ h => h) (yields_conv (by kernel_rfl) 65 2 (.tmp 25) rfl (.int .u64 ((nval 8 (rnext 1048576 (nnext 1 (nnext 8 (nnext 1 (some xs))))) : Nat) : Int)) (by simp [Act.eval]) (.int .i64 (sx 8 (nval 8 (rnext 1048576 (nnext 1 (nnext 8 (nnext 1 (some xs)))))))) (fun W _ => conv_i64 65 2 Try.underlying65 Try.underlying2 _ (by have := nval_lt 8 (rnext 1048576 (nnext 1 (nnext 8 (nnext 1 (some xs))))); simp only [e8] at this; omega) W)) (by assumption) ?_
      change wpAnyH _ _ _ _ _ _ _ (Act.put _ (some (26 : Nat)) (.int .i64 (sx 8 (nval 8 (rnext 1048576 (nnext 1 (nnext 8 (nnext 1 (some xs))))))))) _
      simp only [Act.put, List.setIfInBounds_toArray, List.set_cons_zero, List.set_cons_succ]
      refine wpAnyH_ready (rs := [16]) (by kernel_rfl) (by simp) ?_
      refine AllReadyH.cons rfl (fun K hK => ?_) AllReadyH.nil
      go_simp
      refine (rnumber_rs (HRa4.out) 8 rfl).mono ?_
      rintro e wa5 ⟨rfl, hr5, hg5⟩; have HRa5 := Lib.hid hr5; have HGa5 := Lib.hid hg5; have HBa5 := Lib.hid ((HBa4.out).grown hg5 (fun e => HNE.out (Option.some.inj e))); clear hr5 hg5
      go_wp2_with fail
      refine hK.out _ _ ⟨(only_trans hHeld.1 HGa5.out), (HRa4.out).by_keep hHeld.2 HGa5.out⟩ (fun hHeld1 => ?_)
      clear hHeld hK K
      have hHeld := hHeld1
      clear hHeld1
      refine wpAnyH_take (i := 17) (v := (.int .i64 (sx 8 (nval 8 (nnext 8 (rnext 1048576 (nnext 1 (nnext 8 (nnext 1 (some xs)))))))))) rfl (by kernel_rfl) (by kernel_rfl) (by kernel_rfl) (fun _ _ _ h => h) (yields_conv (by kernel_rfl) 65 2 (.tmp 28) rfl (.int .u64 ((nval 8 (nnext 8 (rnext 1048576 (nnext 1 (nnext 8 (nnext 1 (some xs)))))) : Nat) : Int)) (by simp [Act.eval]) (.int .i64 (sx 8 (nval 8 (nnext 8 (rnext 1048576 (nnext 1 (nnext 8 (nnext 1 (some xs))))))))) (fun W _ => conv_i64 65 2 Try.underlying65 Try.underlying2 _ (by have := nval_lt 8 (nnext 8 (rnext 1048576 (nnext 1 (nnext 8 (nnext 1 (some xs)))))); simp only [e8] at this; omega) W)) (by assumption) ?_
      change wpAnyH _ _ _ _ _ _ _ (Act.put _ (some (29 : Nat)) (.int .i64 (sx 8 (nval 8 (nnext 8 (rnext 1048576 (nnext 1 (nnext 8 (nnext 1 (some xs)))))))))) _
      simp only [Act.put, List.setIfInBounds_toArray, List.set_cons_zero, List.set_cons_succ]
      refine wpAnyH_ready (rs := [19]) (by kernel_rfl) (by simp) ?_
      refine AllReadyH.cons rfl (fun K hK => ?_) AllReadyH.nil
      go_simp
      refine (rrow_rs (HRa5.out) 1048576 (by omega)).mono ?_
      rintro e wa6 ⟨Ba6, ma6, ca6, rfl, hy6, hr6, hg6⟩; have HRa6 := Lib.hid hr6; have HGa6 := Lib.hid hg6; have HBa6 := Lib.hid ((HBa5.out).grown hg6 (fun e => HNE.out (Option.some.inj e))); have HYa6 := Lib.hid hy6; clear hr6 hg6 hy6
      go_wp2_with fail
      refine hK.out _ _ ⟨(only_trans hHeld.1 HGa6.out), (HRa5.out).by_keep hHeld.2 HGa6.out⟩ (fun hHeld1 => ?_)
      clear hHeld hK K
      have hHeld := hHeld1
      clear hHeld1
      refine wpAnyH_weaken (S' := fun W => ((wr.grownBy W (some (w.heap.size + 1))) ∧ By W (fun _ => True) Ba3 ma3 (rval 1048576 (nnext 1 (nnext 8 (nnext 1 (some xs)))))) ∧ By W (fun _ => True) Ba6 ma6 (rval 1048576 (nnext 8 (nnext 8 (rnext 1048576 (nnext 1 (nnext 8 (nnext 1 (some xs))))))))) (fun W h => h.1) _ _ _ _ ?_
      have hHeld2 := And.intro hHeld HYa6.out
      clear hHeld
      have hHeld := hHeld2
      clear hHeld2
      refine wpAnyH_take (i := 20) (v := (.string (ba (rval 1048576 (nnext 8 (nnext 8 (rnext 1048576 (nnext 1 (nnext 8 (nnext 1 (some xs))))))))))) rfl (by kernel_rfl) (by kernel_rfl) (by kernel_rfl) (fun _ _ _ h => h) (yields_conv (by kernel_rfl) 25 9 (.tmp 31) rfl (.slice Ba6 ma6 ca6) (by simp [Act.eval]) (.string (ba (rval 1048576 (nnext 8 (nnext 8 (rnext 1048576 (nnext 1 (nnext 8 (nnext 1 (some xs)))))))))) (fun W hW => run_string_by W 25 9 5 Try.underlying25 Try.underlying5 Try.underlying9 _ _ _ _ _ hW.2)) (by assumption) ?_
      change wpAnyH _ _ _ _ _ _ _ (Act.put _ (some (32 : Nat)) (.string (ba (rval 1048576 (nnext 8 (nnext 8 (rnext 1048576 (nnext 1 (nnext 8 (nnext 1 (some xs))))))))))) _
      simp only [Act.put, List.setIfInBounds_toArray, List.set_cons_zero, List.set_cons_succ]
      obtain ⟨V, hV⟩ : ∃ V : Value, V = .agg #[.int .i64 ((nval 1 (some xs) : Nat) : Int), .int .i64 (sx 8 (nval 8 (nnext 1 (some xs)))), .int .i64 ((nval 1 (nnext 8 (nnext 1 (some xs))) : Nat) : Int), .string (ba (rval 1048576 (nnext 1 (nnext 8 (nnext 1 (some xs)))))), .int .i64 (sx 8 (nval 8 (rnext 1048576 (nnext 1 (nnext 8 (nnext 1 (some xs))))))), .int .i64 (sx 8 (nval 8 (nnext 8 (rnext 1048576 (nnext 1 (nnext 8 (nnext 1 (some xs)))))))), .string (ba (rval 1048576 (nnext 8 (nnext 8 (rnext 1048576 (nnext 1 (nnext 8 (nnext 1 (some xs)))))))))] := ⟨_, rfl⟩
      have HV := Lib.hid hV
      clear hV
      refine wpAnyH_take (i := 21) (v := V) rfl (by kernel_rfl) (by kernel_rfl) (by kernel_rfl) (fun _ _ _ h => h) (yields_build (by kernel_rfl) 23 _ rfl _ (by simp only [List.map_toArray, List.map_cons, List.map_nil, Act.eval]; rfl) V (fun w _ => by rw [HV.out]; exact Try.build_c7 _ _ _ _ _ _ _ w)) (by assumption) ?_
      change wpAnyH _ _ _ _ _ _ _ (Act.put _ (some (33 : Nat)) V) _
      simp only [Act.put, List.setIfInBounds_toArray, List.set_cons_zero, List.set_cons_succ]
      refine wpAnyH_ready (rs := [23]) (by kernel_rfl) (by simp) ?_
      refine AllReadyH.cons (o := ⟨none, .store 23 (.tmp 7) (.tmp 33), _, _, _, none⟩) rfl (fun K hK => ?_) AllReadyH.nil
      have HBp := Lib.hid (HBa6.out); refine step_store_blk rfl 23 (.tmp 7) (.tmp 33) rfl gz [.int .i64 ((nval 1 (some xs) : Nat) : Int), .int .i64 (sx 8 (nval 8 (nnext 1 (some xs)))), .int .i64 ((nval 1 (nnext 8 (nnext 1 (some xs))) : Nat) : Int), .string (ba (rval 1048576 (nnext 1 (nnext 8 (nnext 1 (some xs)))))), .int .i64 (sx 8 (nval 8 (rnext 1048576 (nnext 1 (nnext 8 (nnext 1 (some xs))))))), .int .i64 (sx 8 (nval 8 (nnext 8 (rnext 1048576 (nnext 1 (nnext 8 (nnext 1 (some xs)))))))), .string (ba (rval 1048576 (nnext 8 (nnext 8 (rnext 1048576 (nnext 1 (nnext 8 (nnext 1 (some xs)))))))))] (by simp [Act.eval]) (by simp only [Act.eval]; exact HV.out) 23 [.int .i64 0, .int .i64 0, .int .i64 0, .string (ba []), .int .i64 0, .int .i64 0, .string (ba [])] (HBa6.out) (by kernel_rfl) rfl (one7 _ _ _ _ _ _ _) ?_; intro we hbe hge; have HBe := Lib.hid hbe; have HGe := Lib.hid hge; have HRe := Lib.hid ((HRa6.out).other hge (fun b hb => ⟨fun e => HNE.out (by rw [Option.some.inj hb]; exact e), by have := Option.some.inj hb; have := HZ.out; have := HSZ.out; omega⟩)); clear hbe hge
      refine hK.out _ _ ⟨⟨(only_new hHeld.1.1 HGe.out HZ.out), By.far hHeld.1.2 HGe.out HBp.out (no_u8c _ _ _ _ _ _ _)⟩, By.far hHeld.2 HGe.out HBp.out (no_u8c _ _ _ _ _ _ _)⟩ (fun hHeld1 => ?_)
      clear hHeld hK K
      have hHeld := hHeld1
      clear hHeld1
      change wpAnyH _ _ _ _ _ _ _ (Act.put _ none undef) _
      simp only [Act.put]
      refine wpAnyH_done (by kernel_rfl) ?_ _
      have HG6 := Lib.hid hHeld.1.1
      clear hHeld
      go_wp2
      go_meet
      case rel => exact ⟨gz, rfl, (by rw [← HC0.out]; exact HBe.out), (by rw [← HST0.out]; exact HRe.out), HZ.out, HZ2.out.grown HG6.out (by simp), HX2.out.grown HG6.out HX2.out.size (fun k hk => by have := Option.some.inj hk; omega)⟩
  case rest =>
    obtain ⟨gz, rfl, hb, hr, hgz, hz2, hx⟩ := hcut
    have HBz := Lib.hid hb
    have HRz := Lib.hid hr
    have HZz := Lib.hid hz2
    have HXz := Lib.hid hx
    clear hb hr hgz hz2 hx
    by_cases hs : st = some []
    case neg =>
      have HST := Lib.hid hs
      have hpe : P = (Cr.no, 2) := by rw [HPP.out, if_neg hs]
      subst hpe
      clear hs
      go_wp2_with (first
        | (go_at_call 48; (refine (rend_rs HRz.out).mono ?_); rintro e w10 ⟨x, rfl, hx, rfl⟩; have hx0 : ¬ x = 0 := (fun h9 => HST.out (hx.1 h9)); have hxb : (x == 0) = false := (by simpa using hx0); have hxd : (x != 0) = true := (by simpa using hx0); clear hx hx0)
        | (refine wpList_store_blk rfl 23 (.tmp 4) (.tmp 37) rfl w.heap.size [.int .i64 0, .int .i64 0, .int .i64 0, .string (ba []), .int .i64 0, .int .i64 0, .string (ba [])] rfl rfl 23 [.int .i64 0, .int .i64 0, .int .i64 0, .string (ba []), .int .i64 0, .int .i64 0, .string (ba [])] HZz.out (by kernel_rfl) rfl (one7 _ _ _ _ _ _ _) ?_; intro wy hby hgy; have HBy := Lib.hid hby; have HXy : Hid (Below w.heap.size w wy) := Lib.hid (HXz.out.grown hgy HXz.out.size (fun k hk => by have := Option.some.inj hk; omega)); clear hby hgy))
      (try simp only [Exit.inBlock, Exit.then]); refine bodyPost_ret (results_cell_row_tmp1 rfl _ _ w.heap.size 23 _ (0, 0) _ rfl HBy.out Try.underlying23 rfl (by kernel_rfl)) rfl ?_
      exact ⟨rfl, HXy.out⟩
    case pos =>
      have HST := Lib.hid hs
      by_cases hk : chkC c0 N = 0
      case pos =>
        have hpe : P = (c0, 0) := by rw [HPP.out, if_pos hs, if_pos hk]
        subst hpe
        have HCk := Lib.hid (fun W : World => hk ▸ HCk0.out W)
        clear hs hk
        go_wp2_with (first
          | (go_at_call 48; (refine (rend_rs HRz.out).mono ?_); rintro e w10 ⟨x, rfl, hx, rfl⟩; have hx0 : x = 0 := hx.2 HST.out; subst hx0; clear hx)
          | (refine wpList_load_blk rfl 23 (.tmp 7) rfl gz rfl 23 [.int .i64 c0.cl, .int .i64 c0.sp, .int .i64 c0.op, .string (ba c0.lt), .int .i64 c0.a, .int .i64 c0.b, .string (ba c0.tx)] _ HBz.out Try.underlying23 rfl (by kernel_rfl) ?_)
          | (go_at_call 11; (with_reducible refine (HCk.out _).mono ?_); rintro e w11 ⟨rfl, hb⟩; have HX11 := Lib.hid (below_step HXz.out hb); have HB11 := Lib.hid (HBz.out.through hb); have HZ11 := Lib.hid (HZz.out.through hb); clear hb)
          | (refine wpList_load_blk rfl 23 (.tmp 7) rfl gz rfl 23 [.int .i64 c0.cl, .int .i64 c0.sp, .int .i64 c0.op, .string (ba c0.lt), .int .i64 c0.a, .int .i64 c0.b, .string (ba c0.tx)] _ HB11.out Try.underlying23 rfl (by kernel_rfl) ?_)
          | (refine wpList_store_blk rfl 23 (.tmp 4) (.tmp 45) rfl w.heap.size [.int .i64 c0.cl, .int .i64 c0.sp, .int .i64 c0.op, .string (ba c0.lt), .int .i64 c0.a, .int .i64 c0.b, .string (ba c0.tx)] rfl rfl 23 [.int .i64 0, .int .i64 0, .int .i64 0, .string (ba []), .int .i64 0, .int .i64 0, .string (ba [])] HZ11.out (by kernel_rfl) rfl (one7 _ _ _ _ _ _ _) ?_; intro wy hby hgy; have HBy := Lib.hid hby; have HXy : Hid (Below w.heap.size w wy) := Lib.hid (HX11.out.grown hgy HX11.out.size (fun k hk => by have := Option.some.inj hk; omega)); clear hby hgy))
        (try simp only [Exit.inBlock, Exit.then]); refine bodyPost_ret (results_cell_row_tmp1 rfl _ _ w.heap.size 23 _ (0, 0) _ rfl HBy.out Try.underlying23 rfl (by kernel_rfl)) rfl ?_
        exact ⟨rfl, HXy.out⟩
      case neg =>
        obtain ⟨er, her⟩ : ∃ er, chkC c0 N = er := ⟨_, rfl⟩
        have hpe : P = (Cr.no, er) := by rw [HPP.out, if_pos hs, if_neg hk, her]
        subst hpe
        rw [her] at hk
        have HCk := Lib.hid (fun W : World => her ▸ HCk0.out W)
        have hkb : (er == 0) = false := by simpa using hk
        have hkd : (er != 0) = true := by simpa using hk
        clear hs hk her
        go_wp2_with (first
          | (go_at_call 48; (refine (rend_rs HRz.out).mono ?_); rintro e w10 ⟨x, rfl, hx, rfl⟩; have hx0 : x = 0 := hx.2 HST.out; subst hx0; clear hx)
          | (refine wpList_load_blk rfl 23 (.tmp 7) rfl gz rfl 23 [.int .i64 c0.cl, .int .i64 c0.sp, .int .i64 c0.op, .string (ba c0.lt), .int .i64 c0.a, .int .i64 c0.b, .string (ba c0.tx)] _ HBz.out Try.underlying23 rfl (by kernel_rfl) ?_)
          | (go_at_call 11; (with_reducible refine (HCk.out _).mono ?_); rintro e w11 ⟨rfl, hb⟩; have HX11 := Lib.hid (below_step HXz.out hb); have HB11 := Lib.hid (HBz.out.through hb); have HZ11 := Lib.hid (HZz.out.through hb); clear hb)
          | (refine wpList_store_blk rfl 23 (.tmp 4) (.tmp 43) rfl w.heap.size [.int .i64 0, .int .i64 0, .int .i64 0, .string (ba []), .int .i64 0, .int .i64 0, .string (ba [])] rfl rfl 23 [.int .i64 0, .int .i64 0, .int .i64 0, .string (ba []), .int .i64 0, .int .i64 0, .string (ba [])] HZ11.out (by kernel_rfl) rfl (one7 _ _ _ _ _ _ _) ?_; intro wy hby hgy; have HBy := Lib.hid hby; have HXy : Hid (Below w.heap.size w wy) := Lib.hid (HX11.out.grown hgy HX11.out.size (fun k hk => by have := Option.some.inj hk; omega)); clear hby hgy))
        (try simp only [Exit.inBlock, Exit.then]); refine bodyPost_ret (results_cell_row_tmp1 rfl _ _ w.heap.size 23 _ (0, 0) _ rfl HBy.out Try.underlying23 rfl (by kernel_rfl)) rfl ?_
        exact ⟨rfl, HXy.out⟩

end Go.Proofs.Ytfonkdcpghbaoaa
