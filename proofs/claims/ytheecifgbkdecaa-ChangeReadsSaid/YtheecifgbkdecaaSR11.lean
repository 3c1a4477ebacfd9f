/-
  RqC RqR RqQ
-/
import Derived.Test.YtheecifgbkdecaaSR3
import Derived.Test.YtheecifgbkdecaaSR10
import Derived.Test.YtheecifgbkdecaaSR8
import Derived.Deep.CutRange
import Derived.Test.YtheecifgbkdecaaSR7
import Derived.Test.YtheecifgbkdecaaSR9
namespace Go.Proofs.Ytheecifgbkdecaa
open Go.RowKit

theorem ret_i {a b : Int} (h : a = b) : Ending.returned (Value.int .i64 a) = .returned (.int .i64 b) := by rw [h]

set_option maxHeartbeats 8000000 in
theorem rchkC_any (c : Cr) (n : Int) (w : World) (hl : c.lt.length ≤ 1000000) :
    Calls Try.prog 112 #[.agg #[.int .i64 c.cl, .int .i64 c.sp, .int .i64 c.op, .string (ba c.lt), .int .i64 c.a, .int .i64 c.b, .string (ba c.tx)], .int .i64 n] w fun e w' => e = .returned (.int .i64 (chkC c n)) ∧ Below w.heap.size w w' := by
  have hsz := ba_size
  have HX : Hid (Below w.heap.size w (w.alloc (.cells #[.int .i64 c.cl, .int .i64 c.sp, .int .i64 c.op, .string (ba c.lt), .int .i64 c.a, .int .i64 c.b, .string (ba c.tx)] 58))) := Lib.hid ((Below.refl _ w).alloc (Nat.le_refl _) _)
  have HB : Hid (Blk (w.alloc (.cells #[.int .i64 c.cl, .int .i64 c.sp, .int .i64 c.op, .string (ba c.lt), .int .i64 c.a, .int .i64 c.b, .string (ba c.tx)] 58)) w.heap.size 58 [.int .i64 c.cl, .int .i64 c.sp, .int .i64 c.op, .string (ba c.lt), .int .i64 c.a, .int .i64 c.b, .string (ba c.tx)]) := Lib.hid (Blk.fresh rfl rfl)
  have c0 := HB.out.cellAt (i := 0) rfl
  have c1 := HB.out.cellAt (i := 1) rfl
  have c2 := HB.out.cellAt (i := 2) rfl
  have c3 := HB.out.cellAt (i := 3) rfl
  have c6 := HB.out.cellAt (i := 6) rfl
  go_enter Try.func112, Try.ntmps112
  by_cases h0 : n < 1
  case pos =>
    have d0 : decide (n < 1) = true := by simpa using h0
    have hv : chkC c n = 1 := by unfold chkC; simp [h0]; try omega
    have HV := Lib.hid hv
    clear hv h0
    go_wp2
    go_ret
    exact ⟨ret_i HV.out.symm, HX.out⟩
  case neg =>
    have d0 : decide (n < 1) = false := by simpa using h0
    by_cases h1 : 7 < n
    case pos =>
      have d1 : decide (7 < n) = true := by simpa using h1
      have hv : chkC c n = 1 := by unfold chkC; simp [h0, h1]; try omega
      have HV := Lib.hid hv
      clear hv h0 h1
      go_wp2
      go_ret
      exact ⟨ret_i HV.out.symm, HX.out⟩
    case neg =>
      have d1 : decide (7 < n) = false := by simpa using h1
      by_cases h2 : c.cl < n
      case pos =>
        have d2 : decide (c.cl < n) = true := by simpa using h2
        have hv : chkC c n = 17 := by unfold chkC; simp [h0, h1, h2]; try omega
        have HV := Lib.hid hv
        clear hv h0 h1 h2
        go_wp2
        go_ret
        exact ⟨ret_i HV.out.symm, HX.out⟩
      case neg =>
        have d2 : decide (c.cl < n) = false := by simpa using h2
        have hwr : IntKind.i64.wrap (n + 3) = n + 3 := IntWalk.i64_in _ (by omega)
        by_cases h3 : n + 3 < c.cl
        case pos =>
          have d3 : decide (n + 3 < c.cl) = true := by simpa using h3
          have hv : chkC c n = 17 := by unfold chkC; simp [h0, h1, h2, h3]; try omega
          have HV := Lib.hid hv
          clear hv h0 h1 h2 h3
          go_wp2
          go_ret
          exact ⟨ret_i HV.out.symm, HX.out⟩
        case neg =>
          have d3 : decide (n + 3 < c.cl) = false := by simpa using h3
          by_cases h4 : c.sp < 1
          case pos =>
            have d4 : decide (c.sp < 1) = true := by simpa using h4
            have hv : chkC c n = 5 := by unfold chkC; simp [h0, h1, h2, h3, h4]; try omega
            have HV := Lib.hid hv
            clear hv h0 h1 h2 h3 h4
            go_wp2
            go_ret
            exact ⟨ret_i HV.out.symm, HX.out⟩
          case neg =>
            have d4 : decide (c.sp < 1) = false := by simpa using h4
            by_cases h5 : 1099511627776 < c.sp
            case pos =>
              have d5 : decide (1099511627776 < c.sp) = true := by simpa using h5
              have hv : chkC c n = 5 := by unfold chkC; simp [h0, h1, h2, h3, h4, h5]; try omega
              have HV := Lib.hid hv
              clear hv h0 h1 h2 h3 h4 h5
              go_wp2
              go_ret
              exact ⟨ret_i HV.out.symm, HX.out⟩
            case neg =>
              have d5 : decide (1099511627776 < c.sp) = false := by simpa using h5
              by_cases h6 : c.op < 1
              case pos =>
                have d6 : decide (c.op < 1) = true := by simpa using h6
                have hv : chkC c n = 5 := by unfold chkC; simp [h0, h1, h2, h3, h4, h5, h6]; try omega
                have HV := Lib.hid hv
                clear hv h0 h1 h2 h3 h4 h5 h6
                go_wp2
                go_ret
                exact ⟨ret_i HV.out.symm, HX.out⟩
              case neg =>
                have d6 : decide (c.op < 1) = false := by simpa using h6
                by_cases h7 : 9 < c.op
                case pos =>
                  have d7 : decide (9 < c.op) = true := by simpa using h7
                  have hv : chkC c n = 5 := by unfold chkC; simp [h0, h1, h2, h3, h4, h5, h6, h7]; try omega
                  have HV := Lib.hid hv
                  clear hv h0 h1 h2 h3 h4 h5 h6 h7
                  go_wp2
                  go_ret
                  exact ⟨ret_i HV.out.symm, HX.out⟩
                case neg =>
                  have d7 : decide (9 < c.op) = false := by simpa using h7
                  cases hn : isNm c.lt with
                  | false =>
                    have HNM := Lib.hid (fun W : World => hn ▸ risname_any c.lt W hl)
                    have hv : chkC c n = 7 := by unfold chkC; simp [h0, h1, h2, h3, h4, h5, h6, h7, hn]; try omega
                    have HV := Lib.hid hv
                    clear hv h0 h1 h2 h3 h4 h5 h6 h7
                    go_wp2_with (go_at_call 116; (with_reducible refine (HNM.out _).mono ?_); rintro e w2 ⟨rfl, rfl⟩)
                    go_ret
                    exact ⟨ret_i HV.out.symm, HX.out⟩
                  | true =>
                    have HNM := Lib.hid (fun W : World => hn ▸ risname_any c.lt W hl)
                    by_cases h8 : c.tx.length ≤ 200
                    case neg =>
                      have d8 : decide ((200 : Int) < (c.tx.length : Int)) = true := by simp; omega
                      have hv : chkC c n = 3 := by unfold chkC; simp [h0, h1, h2, h3, h4, h5, h6, h7, h8, hn]; try omega
                      have HV := Lib.hid hv
                      clear hv h0 h1 h2 h3 h4 h5 h6 h7 h8
                      go_wp2_with (go_at_call 116; (with_reducible refine (HNM.out _).mono ?_); rintro e w2 ⟨rfl, rfl⟩)
                      go_ret
                      exact ⟨ret_i HV.out.symm, HX.out⟩
                    case pos =>
                      have d8 : decide ((200 : Int) < (c.tx.length : Int)) = false := by simp; omega
                      have hv : chkC c n = 0 := by unfold chkC; simp [h0, h1, h2, h3, h4, h5, h6, h7, h8, hn]; try omega
                      have HV := Lib.hid hv
                      clear hv h0 h1 h2 h3 h4 h5 h6 h7 h8
                      go_wp2_with (go_at_call 116; (with_reducible refine (HNM.out _).mono ?_); rintro e w2 ⟨rfl, rfl⟩)
                      go_ret
                      exact ⟨ret_i HV.out.symm, HX.out⟩

theorem wpList_str_bytes {ops : Array Oper} {rest : List Oper} {o : Oper} {a : Act} {w : World} {Q : Exit → Act → World → Prop} (hgd : o.guard = none) (x : Operand) (ho : o.op = .convert 9 28 x)
    (l : List UInt8) (hx : a.eval x = .string (ba l)) (h : ∀ A c w', By w' (fun _ => True) A l.length l → Below w.heap.size w w' → wpList Try.prog ops Q rest (a.put o.dst (.slice A l.length c)) w') : wpList Try.prog ops Q (o :: rest) a w := by
  refine wpList_plain hgd fun K hK => ?_
  have hrun := Lib.run_convert_string_bytes (P := Try.prog) w 9 28 5 (ba l) Try.underlying9 Try.underlying28 Try.underlying5
  rw [ba_size] at hrun
  unfold Oper.wp execOp
  simp only [ho, hx, Sem.run_bind, hrun, Result.andThen_ok]
  exact hK _ _ (h _ _ _ (by_bytes w l) (below_bytes w _))

theorem u64N_lt64 (v : Int) : u64N v < 18446744073709551616 := by unfold u64N; omega
@[simp] theorem beB_len (v k : Nat) : (beB v k).length = k := beB_length v k
@[simp] theorem rowB_len (xs : List UInt8) : (rowB xs).length = 4 + xs.length := by unfold rowB; rw [List.length_append, beB_length]

end Go.Proofs.Ytheecifgbkdecaa

namespace Go.Proofs.Ytheecifgbkdecaa
open Go.RowKit

theorem wrap_sx (v : Nat) (h : v < 18446744073709551616) : IntKind.i64.wrap (v : Int) = sx 8 v := by
  have e : ∀ V, sx 8 V = if V < 9223372036854775808 then (V : Int) else V - 18446744073709551616 := fun V => by simp [sx]
  rw [e]
  simp [IntKind.wrap, IntKind.signed, IntKind.bits]
  split <;> omega
theorem sx_small {v : Nat} (h : v < 9223372036854775808) : sx 8 v = v := by simp [sx, h]
theorem conv_i64 {P : Program} (t t' : TypeId) (ht : P.underlying t = some (.int .u64)) (ht' : P.underlying t' = some (.int .i64)) (v : Nat) (h : v < 18446744073709551616) (w : World) : (convert t t' (.int .u64 (v : Int))).run P w = .ok (.int .i64 (sx 8 v)) w := by
  simp [convert, run_underlying ht, run_underlying ht', Conv.intToInt, wrap_sx v h]
theorem conv_small {P : Program} (t t' : TypeId) (ht : P.underlying t = some (.int .u64)) (ht' : P.underlying t' = some (.int .i64)) (v : Nat) (h : v < 9223372036854775808) (w : World) : (convert t t' (.int .u64 (v : Int))).run P w = .ok (.int .i64 (v : Int)) w := by
  rw [conv_i64 t t' ht ht' v (by omega), sx_small h]

theorem only_new {a b c : World} {g h : Nat} (hab : a.grownBy b (some g)) (hbc : b.grownBy c (some h)) (hh : a.heap.size ≤ h) : a.grownBy c (some g) :=
  ⟨hbc.os.trans hab.os, hbc.tape.trans hab.tape, hbc.output.trans hab.output, Nat.le_trans hab.size hbc.size, fun i hi hne => (hbc.block i (Nat.lt_of_lt_of_le hi hab.size) (fun e => by have := Option.some.inj e; omega)).trans (hab.block i hi hne)⟩
/-- A block of cells that are no bytes is turned. -/
theorem By.far {w w' : World} {A : Option Addr} {n g : Nat} {xs : List UInt8} {t : TypeId} {cs : List Value} (h : By w (fun _ => True) A n xs) (hg : w.grownBy w' (some g)) (hb : Blk w g t cs) (hc : ∀ v ∈ cs, ∀ u : UInt8, v ≠ u8 u) : By w' (fun _ => True) A n xs :=
  ⟨h.1, fun hn => by
    obtain ⟨b, o, e, _, hc1⟩ := h.2 hn
    refine ⟨b, o, e, trivial, fun j u hu => hg.cell (hc1 j u hu) (fun e2 => ?_)⟩
    have e3 : b = g := Option.some.inj e2
    subst e3
    have h2 := hc1 j u hu
    rw [hb.cell] at h2
    exact hc _ (List.mem_of_getElem? h2) u rfl⟩

theorem results_cell_row_tmp1 {P : Program} {fn : Func} {p u : Tmp} {ty : TypeId} (h : fn.results = #[.cell p ty, .tmp u]) (tmps : Array Value) (w : World) (g : Nat) (t : TypeId) (cs : Array Value) (fr : Nat × Nat) (d : TypeDesc)
    (hp : tmps.getD p undef = .pointer (some ⟨g, 0, none⟩)) (hg : w.heap[g]? = some (.cells cs t fr))
    (hu : P.underlying ty = some d) (hd : (match d with | .struct _ | .array _ _ => true | _ => false) = true) (hi : (P.info? ty).map (·.size) = some cs.size) :
    (results fn tmps).run P w = .ok (.tuple #[.agg cs, tmps.getD u undef]) w := by
  have hp' : tmps[p]?.getD undef = .pointer (some ⟨g, 0, none⟩) := by simpa using hp
  simp [results, h, hp', asAddr, run_loadVar_row w g t ty cs fr d hg hu hd hi]
def stL : Option (List UInt8) → Nat
  | some r => r.length
  | none => 0
theorem nnext_stL (k : Nat) (st : Option (List UInt8)) : stL (nnext k st) ≤ stL st := by
  cases st with
  | none => exact Nat.le_refl _
  | some xs => rw [nnext_some]; split <;> simp [stL]
theorem tval_stL (k : Nat) (st : Option (List UInt8)) : (tval k st).length ≤ stL st := by
  cases st with
  | none => simp [tval_none]
  | some xs => rw [tval_some]; split <;> simp [stL]; omega
theorem rval_stL (m : Nat) (st : Option (List UInt8)) : (rval m st).length ≤ stL st := by
  unfold rval
  split
  · exact Nat.le_trans (tval_stL _ _) (nnext_stL _ _)
  · simp
theorem Try.alloc_cr (g : Nat) (w : World) (hg : w.heap.size = g) : (Instr.alloc 58 true (.tuple #[])).run Try.prog w = .ok (.pointer (some ⟨g, 0, none⟩)) (w.alloc (.cells #[.int .i64 0, .int .i64 0, .int .i64 0, .string (ba []), .int .i64 0, .int .i64 0, .string (ba [])] 58)) := by
  subst hg
  kernel_rfl
theorem Try.zero_cr (w : World) : (zeroValue 58).run Try.prog w = .ok (.agg #[.int .i64 0, .int .i64 0, .int .i64 0, .string (ba []), .int .i64 0, .int .i64 0, .string (ba [])]) w := by kernel_rfl
theorem Try.build_cr (w : World) : (Instr.build 58 #[]).run Try.prog w = .ok (.agg #[.int .i64 0, .int .i64 0, .int .i64 0, .string (ba []), .int .i64 0, .int .i64 0, .string (ba [])]) w := by kernel_rfl
theorem Try.build_rdr (A : Option Addr) (n c : Nat) (w : World) : (Instr.build 88 #[(0, .slice A n c)]).run Try.prog w = .ok (.agg #[.slice A n c, .int .i64 0]) w := by kernel_rfl
theorem Try.build_c7 (a b : ByteArray) (i j k p q : Int) (w : World) : (Instr.build 58 #[(0, .int .i64 i), (1, .int .i64 j), (2, .int .i64 k), (3, .string a), (4, .int .i64 p), (5, .int .i64 q), (6, .string b)]).run Try.prog w = .ok (.agg #[.int .i64 i, .int .i64 j, .int .i64 k, .string a, .int .i64 p, .int .i64 q, .string b]) w := by kernel_rfl
theorem no_u8c (a b : ByteArray) (i j k p q : Int) : ∀ v ∈ ([.int .i64 i, .int .i64 j, .int .i64 k, .string a, .int .i64 p, .int .i64 q, .string b] : List Value), ∀ u : UInt8, v ≠ u8 u := by
  intro v hv u
  simp at hv
  rcases hv with rfl | rfl | rfl | rfl | rfl | rfl | rfl <;> simp [u8]
theorem one7 (a b : ByteArray) (i j k p q : Int) : ([.int .i64 i, .int .i64 j, .int .i64 k, .string a, .int .i64 p, .int .i64 q, .string b] : List Value).toArray.all (·.oneCell') = true := by simp [Value.oneCell']

end Go.Proofs.Ytheecifgbkdecaa

namespace Go.Proofs.Ytheecifgbkdecaa
open Go.RowKit

theorem rnext_stL (m : Nat) (st : Option (List UInt8)) : stL (rnext m st) ≤ stL st := by
  unfold rnext
  split
  · exact Nat.le_trans (nnext_stL _ _) (nnext_stL _ _)
  · exact Nat.zero_le _
theorem nnext_more {k : Nat} {st : Option (List UInt8)} (h : stL st < k) : nnext k st = none ∧ tval k st = [] := by
  cases st with
  | none => exact ⟨rfl, rfl⟩
  | some r =>
    have h' : ¬ k ≤ r.length := by simpa [stL] using h
    rw [nnext_some, tval_some, if_neg h', if_neg h']
    exact ⟨rfl, rfl⟩
/-- A row's bound doesn't matter where no more is left. -/
theorem row_free {m m' : Nat} {st : Option (List UInt8)} (h : stL st ≤ m) (h' : stL st ≤ m') : rval m st = rval m' st ∧ rnext m st = rnext m' st := by
  have key : ∀ k : Nat, stL st ≤ k → rval k st = tval (nval 4 st) (nnext 4 st) ∧ rnext k st = nnext (nval 4 st) (nnext 4 st) := by
    intro k hk
    unfold rval rnext
    by_cases hl : nval 4 st ≤ k
    · rw [if_pos hl, if_pos hl]; exact ⟨rfl, rfl⟩
    · rw [if_neg hl, if_neg hl]
      obtain ⟨h1, h2⟩ := nnext_more (k := nval 4 st) (st := nnext 4 st) (Nat.lt_of_le_of_lt (nnext_stL _ _) (by omega))
      exact ⟨h2.symm, h1.symm⟩
  exact ⟨(key m h).1.trans (key m' h').1.symm, (key m h).2.trans (key m' h').2.symm⟩
theorem rdCr_free {m m' : Nat} {st : Option (List UInt8)} (h : stL st ≤ m) (h' : stL st ≤ m') : rdCr m st = rdCr m' st := by
  have l1 : stL (nnext 1 (nnext 8 (nnext 1 st))) ≤ stL st := Nat.le_trans (nnext_stL _ _) (Nat.le_trans (nnext_stL _ _) (nnext_stL _ _))
  obtain ⟨a1, a2⟩ := row_free (m := m) (m' := m') (st := nnext 1 (nnext 8 (nnext 1 st))) (by omega) (by omega)
  have l2 : stL (nnext 8 (nnext 8 (rnext m' (nnext 1 (nnext 8 (nnext 1 st)))))) ≤ stL st := Nat.le_trans (nnext_stL _ _) (Nat.le_trans (nnext_stL _ _) (Nat.le_trans (rnext_stL _ _) l1))
  obtain ⟨b1, b2⟩ := row_free (m := m) (m' := m') (st := nnext 8 (nnext 8 (rnext m' (nnext 1 (nnext 8 (nnext 1 st)))))) (by omega) (by omega)
  unfold rdCr
  rw [a1, a2, b1, b2]
theorem parseCr_free {m m' : Nat} {xs : List UInt8} (N : Int) (h : xs.length ≤ m) (h' : xs.length ≤ m') : parseCr m xs N = parseCr m' xs N := by
  unfold parseCr
  rw [rdCr_free (m := m) (m' := m') (st := some xs) h h']

end Go.Proofs.Ytheecifgbkdecaa
