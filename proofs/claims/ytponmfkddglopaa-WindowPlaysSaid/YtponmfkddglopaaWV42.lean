/-
  Joined: WnA.
-/
import Derived.Outline
import Derived.Test.YtponmfkddglopaaWV40
import Derived.Test.YtponmfkddglopaaWV41
import Derived.Test.YtponmfkddglopaaWVT
namespace Go.Proofs.Ytponmfkddglopaa
open Go.RowKit

theorem Blk.apart {w w' : World} {g : Nat} {t : TypeId} {cs : List Value} {B' : Nat} {e' : TypeId} {k' : Nat} {v' : Value} {xs' : List (List Value)} (h : Blk w g t cs) (h' : Os w B' e' k' v' xs') (hne : t ≠ e') (hg : w.grownBy w' v'.ownBlock) : Blk w' g t cs := by
 rcases h'.1.2 with ⟨rfl, _⟩ | ⟨g2, cap, cur, rfl, _, hg2, _⟩
 ·exact h.grown hg (by simp [Value.ownBlock])
 ·refine h.grown hg (fun e2 => ?_)
  have e3 : g = g2 := Option.some.inj e2
  subst e3
  unfold Blk at h
  rw [hg2] at h
  injection h with h
  injection h with _ ht
  exact hne ht.symm
theorem os_ne {w : World} {B g : Nat} {e t : TypeId} {k : Nat} {v : Value} {xs : List (List Value)} {cs : List Value} (h : Os w B e k v xs) (hb : Blk w g t cs) (hne : t ≠ e) : v.ownBlock ≠ some g := by
 rcases h.1.2 with ⟨rfl, _⟩ | ⟨g2, cap, cur, rfl, _, hg2, _⟩
 ·simp [Value.ownBlock]
 ·intro e2
  have e3 : g2 = g := Option.some.inj e2
  subst e3
  unfold Blk at hb
  rw [hg2] at hb
  injection hb with hb
  injection hb with _ ht
  exact hne ht.symm
def BefQ (f : List Fr) (q : Int) (i : Nat) : Prop := ∀ (j : Nat) (x : Fr), j < i → f[j]? = some x → x.q < q
def AtQ (f : List Fr) (q : Int) (i : Nat) : Prop := ∀ x : Fr, f[i]? = some x → ¬ x.q < q
theorem bef_is {f : List Fr} {q : Int} {i : Nat} (hi : i ≤ f.length) (h1 : BefQ f q i) (h2 : AtQ f q i) : befW q (pairW f) = i :=
 befW_is q (pairW f) i (by unfold pairW; simp; omega) (fun j y hj hy => by
  unfold pairW at hy
  rw [List.getElem?_map] at hy
  obtain ⟨z, hz, rfl⟩ := Option.map_eq_some_iff.1 hy
  exact h1 j z hj hz) (fun y hy => by
  unfold pairW at hy
  rw [List.getElem?_map] at hy
  obtain ⟨z, hz, rfl⟩ := Option.map_eq_some_iff.1 hy
  exact h2 z hz)
def insF (f : List Fr) (i : Nat) (x : Fr) : List Fr := f.take i ++ x :: f.drop i
theorem insF_len {f : List Fr} {i : Nat} {x : Fr} (hi : i ≤ f.length) : (insF f i x).length = f.length + 1 := by
 unfold insF
 simp only [List.length_append, List.length_take, List.length_cons, List.length_drop]
 omega
theorem insF_pair {f : List Fr} {i : Nat} {x : Fr} {q : Int} (hi : i ≤ f.length) (h1 : BefQ f q i) (h2 : AtQ f q i) (h3 : ¬ ∃ x, f[i]? = some x ∧ x.q = q) (hx : x.q = q) : pairW (insF f i x) = insW q x.s (pairW f) := by
 have hb := bef_is hi h1 h2
 rw [insW_split q x.s (pairW f) (fun y hy e => by
  rw [hb] at hy
  unfold pairW at hy
  rw [List.getElem?_map] at hy
  obtain ⟨z, hz, rfl⟩ := Option.map_eq_some_iff.1 hy
  exact h3 ⟨z, hz, e⟩), hb]
 unfold insF pairW
 rw [List.map_append, List.map_cons, List.map_take, List.map_drop, hx]
theorem at_ins {w w8 w2 : World} {L : Nat} {n low : Int} {f : List Fr} {A B A7 A9 : Option Addr} {c d c7 c9 gx i : Nat} {q : Int} {TI DI TP DP : List (List Value)} (h : DLg w L n low f A B c d) (hi : i ≤ f.length) (hf7 : Ft (fun b => b = L) w w8) (hf9 : Ft (fun b => b = L) w8 w2)
  (e1 : TI ++ [[.int .i64 q]] ++ DI = ((insF f i ⟨q, .pointer (some ⟨gx, 0, none⟩), fun b => b = gx, Slt.no n⟩).map Fr.q).map qC) (e2 : TP ++ [[.pointer (some ⟨gx, 0, none⟩)]] ++ DP = ((insF f i ⟨q, .pointer (some ⟨gx, 0, none⟩), fun b => b = gx, Slt.no n⟩).map Fr.v).map vC)
  (h7 : Os w8 w.heap.size 2 1 (.slice A7 (f.length + 1) c7) (TI ++ [[.int .i64 q]] ++ DI)) (h9 : Os w2 w8.heap.size 43 1 (.slice A9 (f.length + 1) c9) (TP ++ [[.pointer (some ⟨gx, 0, none⟩)]] ++ DP))
  (hb : Blk w2 L 38 (lgC n low (.slice A7 (f.length + 1) c7) (.slice A9 (f.length + 1) c9))) (hbx : Blk w2 gx 57 (slC (Slt.no n) (.slice none 0 0) (.slice none 0 0) (.slice none 0 0))) (hgx : w8.heap.size ≤ gx) :
  DLg w2 L n low (insF f i ⟨q, .pointer (some ⟨gx, 0, none⟩), fun b => b = gx, Slt.no n⟩) A7 A9 c7 c9 ∧ (∀ b, rowQ A7 (f.length + 1) b → w.heap.size ≤ b) ∧ (∀ b, rowQ A9 (f.length + 1) b → w8.heap.size ≤ b) ∧ (∀ b, FD (insF f i ⟨q, .pointer (some ⟨gx, 0, none⟩), fun b => b = gx, Slt.no n⟩) b → FD f b ∨ w.heap.size ≤ b) := by
 have hlen := insF_len (x := ⟨q, .pointer (some ⟨gx, 0, none⟩), fun b => b = gx, Slt.no n⟩) hi
 have hL := h.box.lt
 have hs7 := hf7.size
 have hfd : ∀ b, FD (insF f i ⟨q, .pointer (some ⟨gx, 0, none⟩), fun b => b = gx, Slt.no n⟩) b → b = gx ∨ FD f b := fun b hb => by
  rcases FD.mid.1 hb with h9 | h9
  ·exact .inl h9
  ·rw [List.take_append_drop] at h9
   exact .inr h9
 have hlt : ∀ b, FD f b → b < w.heap.size := h.fam.lt td_kv
 obtain ⟨A7', c7', ea, hc7, _, s7⟩ := h7.out
 obtain ⟨A9', c9', eb, hc9, _, s9⟩ := h9.out
 rw [e1] at ea hc7 s7
 rw [e2] at eb hc9 s9
 simp only [List.length_map, hlen] at ea hc7 s7 eb hc9 s9
 injection ea with ea1 _ ea3
 injection eb with eb1 _ eb3
 subst ea1 ea3 eb1 eb3
 have o7 : ∀ b, rowQ A7 (f.length + 1) b → (Value.slice A7 (f.length + 1) c7).ownBlock = some b := fun b ⟨_, a, ha, hb⟩ => by rw [ha, ← hb]; rfl
 have o9 : ∀ b, rowQ A9 (f.length + 1) b → (Value.slice A9 (f.length + 1) c9).ownBlock = some b := fun b ⟨_, a, ha, hb⟩ => by rw [ha, ← hb]; rfl
 have n9 := os_ne h9 hbx (by decide)
 refine ⟨⟨by rw [hlen]; exact hb, by rw [hlen]; exact hc7, by rw [hlen]; exact hc9, ?_, by rw [hlen]; exact s9, ?_, ?_, ?_, ?_⟩, fun b hb => (h7.lt b (o7 b hb)).1, fun b hb => (h9.lt b (o9 b hb)).1, fun b hb => (hfd b hb).elim (fun e => .inr (by omega)) .inl⟩
 ·rw [hlen]
  exact Sl.ft s7 (fun x hx => by obtain ⟨a, _, rfl⟩ := List.mem_map.1 hx; rfl) hf9 (fun b hb e => by have := (h7.lt b (o7 b hb)).1; omega)
 ·refine Fam.join (a := f.take i) (b := f.drop i) ?_ (td_new n hbx) (fun y hy b hb h9 => ?_)
  ·rw [List.take_append_drop]
   exact (h.fam.ft td_kv hf7 (fun b hb e => h.apL (e ▸ hb))).ft td_kv hf9 (fun b hb e => h.apL (e ▸ hb))
  ·rw [List.take_append_drop] at hy
   have := hlt b ⟨y, hy, h9⟩
   have e : b = gx := hb
   omega
 ·intro b hb
  rw [hlen] at hb
  have h1 := h7.lt b (o7 b hb)
  refine ⟨by omega, fun h9 => ?_⟩
  rcases hfd b h9 with e | e
  ·omega
  ·have := hlt b e; omega
 ·intro b hb
  rw [hlen] at hb
  have h1 := h9.lt b (o9 b hb)
  refine ⟨by omega, fun h9 => ?_⟩
  rcases hfd b h9 with e | e
  ·exact n9 (e ▸ o9 b hb)
  ·have := hlt b e; omega
 ·intro h9
  rcases hfd L h9 with e | e
  ·omega
  ·exact h.apL e
theorem Try.bld_s8 (n : Int) (w : World) : (Instr.build 57 #[(0, .int .i64 n)]).run Try.prog w = .ok (.agg (slC (Slt.no n) (.slice none 0 0) (.slice none 0 0) (.slice none 0 0)).toArray) w := by kernel_rfl
theorem Try.box_s8 (n : Int) (w : World) : (Instr.box 57 (.agg (slC (Slt.no n) (.slice none 0 0) (.slice none 0 0) (.slice none 0 0)).toArray)).run Try.prog w = .ok (.pointer (some ⟨w.heap.size, 0, none⟩)) (w.alloc (.cells (slC (Slt.no n) (.slice none 0 0) (.slice none 0 0) (.slice none 0 0)).toArray 57)) := by kernel_rfl
theorem Try.empty_ps (g : Nat) (w : World) (hg : w.heap.size = g) : (Instr.buildSlice 36 0 #[]).run Try.prog w = .ok (.slice (some ⟨g, 0, none⟩) 0 0) (w.alloc (.cells #[] 43)) := by
 subst hg
 kernel_rfl
theorem Try.one_ps (g : Nat) (w : World) : (Instr.buildSlice 36 1 #[(0, .pointer (some ⟨g, 0, none⟩))]).run Try.prog w = .ok (.slice (some ⟨w.heap.size, 0, none⟩) 1 1) (w.alloc (.cells #[.pointer (some ⟨g, 0, none⟩)] 43)) := by kernel_rfl
theorem step_box_ {P : Program} {ops : Array Oper} {o : Oper} {a : Act} {w : World} {K : Act → World → Prop} {Q : Exit → Act → World → Prop} {F : Prop} (hgd : o.guard = none) (T : TypeId) (x : Operand) (ho : o.op = .box T x)
  (cs : List Value) (hx : a.eval x = .agg cs.toArray) (hrun : ∀ W, (Instr.box T (.agg cs.toArray)).run P W = .ok (.pointer (some ⟨W.heap.size, 0, none⟩)) (W.alloc (.cells cs.toArray T)))
  (h : ∀ g w', w.heap.size ≤ g → Blk w' g T cs → Below w.heap.size w w' → K (a.put o.dst (.pointer (some ⟨g, 0, none⟩))) w') : if Region.wanted o (yielded ops a.tmps) = true then Oper.wp P o a w K Q else F := by
 have hw : Region.wanted o (yielded ops a.tmps) = true := by simp [Region.wanted, hgd]
 rw [if_pos hw]
 unfold Oper.wp execOp
 simp only [ho, Sem.run_bind, hx, hrun, Result.andThen_ok]
 exact h _ _ (Nat.le_refl _) (Blk.fresh rfl rfl) ((Below.refl _ w).alloc (Nat.le_refl _) _)
theorem Try.empty_qs (g : Nat) (w : World) (hg : w.heap.size = g) : (Instr.buildSlice 33 0 #[]).run Try.prog w = .ok (.slice (some ⟨g, 0, none⟩) 0 0) (w.alloc (.cells #[] 2)) := by
 subst hg
 kernel_rfl
theorem Try.one_qs (q : Int) (w : World) : (Instr.buildSlice 33 1 #[(0, .int .i64 q)]).run Try.prog w = .ok (.slice (some ⟨w.heap.size, 0, none⟩) 1 1) (w.alloc (.cells #[.int .i64 q] 2)) := by kernel_rfl
theorem step_build_one_ {P : Program} {ops : Array Oper} {o : Oper} {a : Act} {w : World} {K : Act → World → Prop} {Q : Exit → Act → World → Prop} {F : Prop} (hgd : o.guard = none) (s e : TypeId) (x : Operand) (ho : o.op = .buildSlice s 1 #[(0, x)])
  (v : Value) (hx : a.eval x = v) (hrun : ∀ W, (Instr.buildSlice s 1 #[(0, v)]).run P W = .ok (.slice (some ⟨W.heap.size, 0, none⟩) 1 1) (W.alloc (.cells #[v] e)))
  (h : ∀ g w', w.heap.size ≤ g → Blk w' g e [v] → Below w.heap.size w w' → K (a.put o.dst (.slice (some ⟨g, 0, none⟩) 1 1)) w') : if Region.wanted o (yielded ops a.tmps) = true then Oper.wp P o a w K Q else F := by
 have hw : Region.wanted o (yielded ops a.tmps) = true := by simp [Region.wanted, hgd]
 rw [if_pos hw]
 unfold Oper.wp execOp
 simp only [ho, Sem.run_bind, List.map_toArray, List.map_cons, List.map_nil, hx, hrun, Result.andThen_ok]
 exact h _ _ (Nat.le_refl _) (Blk.fresh rfl rfl) ((Below.refl _ w).alloc (Nat.le_refl _) _)
def AtOut (w : World) (L : Nat) (n low : Int) (f : List Fr) (A B : Option Addr) (q : Int) (e : Ending) (w' : World) : Prop :=
 ∃ v f' A' B' c' d', e = .returned v ∧ DLg w' L n low f' A' B' c' d' ∧ pairW f' = insW q (Slt.no n) (pairW f) ∧ (∃ x ∈ f', x.q = q ∧ x.v = v) ∧ (∀ b, FD f' b → FD f b ∨ w.heap.size ≤ b) ∧ (∀ b, rowQ A' f'.length b → rowQ A f.length b ∨ w.heap.size ≤ b) ∧ (∀ b, rowQ B' f'.length b → rowQ B f.length b ∨ w.heap.size ≤ b) ∧ Ft (fun b => b = L) w w'
theorem bef_step {f : List Fr} {q : Int} {i : Nat} {x : Fr} (h : BefQ f q i) (hf : f[i]? = some x) (hx : x.q < q) : BefQ f q (i + 1) := fun j z hj hz => by
 rcases (by omega : j < i ∨ j = i) with h9 | rfl
 ·exact h j z h9 hz
 ·rw [hf] at hz
  rw [← Option.some.inj hz]
  exact hx
theorem at_stop {f : List Fr} {q : Int} {i : Nat} {x : Fr} (hf : f[i]? = some x) (hx : ¬ x.q < q) : AtQ f q i := fun z hz => by
 rw [hf] at hz
 rw [← Option.some.inj hz]
 exact hx
theorem at_end {f : List Fr} {q : Int} {i : Nat} (h : f.length ≤ i) : AtQ f q i := fun z hz => by
 rw [List.getElem?_eq_none h] at hz
 cases hz
theorem at_out {w w' : World} {L : Nat} {n low : Int} {f f' : List Fr} {A B A' B' : Option Addr} {c' d' : Nat} {q : Int} {v : Value} (h1 : DLg w' L n low f' A' B' c' d') (h2 : pairW f' = insW q (Slt.no n) (pairW f)) (h3 : ∃ x ∈ f', x.q = q ∧ x.v = v) (h4 : ∀ b, FD f' b → FD f b ∨ w.heap.size ≤ b) (h5 : ∀ b, rowQ A' f'.length b → rowQ A f.length b ∨ w.heap.size ≤ b) (h6 : ∀ b, rowQ B' f'.length b → rowQ B f.length b ∨ w.heap.size ≤ b) (h7 : Ft (fun b => b = L) w w') : AtOut w L n low f A B q (.returned v) w' :=
 ⟨v, f', A', B', c', d', rfl, h1, h2, h3, h4, h5, h6, h7⟩
set_option maxHeartbeats 16000000 in
set_option maxRecDepth 100000 in
theorem rat_in {w : World} {L : Nat} {n low : Int} {f : List Fr} {A B : Option Addr} {c d : Nat} (q : Int) (h : DLg w L n low f A B c d) (hm : f.length ≤ 1000) (h0 : 0 ≤ low) (h1 : low ≤ 1048576)
  (hin : (decide (low < q) && decide (q ≤ low + 8) && decide (q ≤ 1048576)) = true) :
  Calls Try.prog 13 #[(.pointer (some ⟨L, 0, none⟩)), .int .i64 q] w (AtOut w L n low f A B q) := by
 have HH := Lib.hid h
 have HMf := Lib.hid hm
 have HL0 := Lib.hid h0
 have HL1 := Lib.hid h1
 have HIn := Lib.hid hin
 have k2 : w.cell? ⟨L, 2, none⟩ = some (.slice A f.length c) := h.box.cellAt rfl
 have k3 : w.cell? ⟨L, 3, none⟩ = some (.slice B f.length d) := h.box.cellAt rfl
 clear h hm h0 h1 hin
 go_enter Try.func13, Try.ntmps13
 go_upto_block 0 with (first | (go_at_call 18; (with_reducible refine (rin_any L n low q _ _ w HH.out.box HL0.out HL1.out).mono ?_); rintro e w9 ⟨rfl, hw9⟩; have hw8 := hw9.symm; clear hw9; subst hw8; rw [HIn.out]))
 go_cut [5] from 10 to 29 (fun iv wx => ∃ i : Nat, iv = .int .i64 (i : Int) ∧ i ≤ f.length ∧ BefQ f q i ∧ AtQ f q i ∧ wx = w)
 case first =>
  go_wp2_with fail
  go_loopw [5] (fun iv wr => ∃ i : Nat, iv = .int .i64 (i : Int) ∧ i ≤ f.length ∧ BefQ f q i ∧ wr = w) (fun iv _ => f.length - (intOf iv).toNat)
  case atStart => exact ⟨0, rfl, Nat.zero_le _, fun j x h => absurd h (Nat.not_lt_zero _), by first | rfl | trivial⟩
  case round =>
   obtain ⟨i, rfl, hi, hbef, rfl⟩ := hrel
   have HBef := Lib.hid hbef
   have hib : i ≤ 1000 := by have := HMf.out; omega
   clear hbef
   by_cases hlt : i < f.length
   ·obtain ⟨g0, o0, y, rfl, hy, _, hc0⟩ := HH.out.sq.at hlt
    obtain ⟨x, hfx⟩ : ∃ x, f[i]? = some x := ⟨_, List.getElem?_eq_getElem hlt⟩
    have hyx : y = x.q := by
     rw [List.getElem?_map, hfx] at hy
     simpa using hy.symm
    rw [hyx] at hc0
    have HFx := Lib.hid hfx
    have hix := fun (W : World) => Try.ix_qs W g0 o0 f.length c i hlt
    clear hy hyx hfx
    by_cases hx : x.q < q
    ·go_wp2
     go_roundw
     case rel => exact ⟨i + 1, by go_num, by omega, bef_step HBef.out HFx.out hx, by first | rfl | trivial⟩
     case measure => simp [intOf]; omega
    ·go_wp2
     go_meet
     case rel => exact ⟨i, rfl, by omega, HBef.out, at_stop HFx.out (by omega), by first | rfl | trivial⟩
   ·go_wp2
    go_meet
    case rel => exact ⟨i, rfl, by omega, HBef.out, at_end (by omega), by first | rfl | trivial⟩
 case rest =>
  obtain ⟨i, rfl, hi, hbef, hat, hw9⟩ := hcut
  have hw8 := hw9.symm
  clear hw9
  subst hw8
  have HBef := Lib.hid hbef
  have HAt := Lib.hid hat
  have hib : i ≤ 1000 := by have := HMf.out; omega
  clear hbef hat
  by_cases hfd : ∃ x, f[i]? = some x ∧ x.q = q
  ·obtain ⟨x, hfx, hxq⟩ := hfd
   have hlt : i < f.length := (List.getElem?_eq_some_iff.1 hfx).1
   obtain ⟨g0, o0, y, rfl, hy, _, hc0⟩ := HH.out.sq.at hlt
   obtain ⟨g1, o1, z, rfl, hz, hc1⟩ := HH.out.pt.at hlt
   have hyx : y = q := by
    rw [List.getElem?_map, hfx] at hy
    rw [← hxq]
    simpa using hy.symm
   have hzx : z = x.v := by
    rw [List.getElem?_map, hfx] at hz
    simpa using hz.symm
   rw [hyx] at hc0
   obtain ⟨R, _, hRv, _⟩ := HH.out.fam.has x (List.mem_of_getElem? hfx)
   rw [hzx, hRv] at hc1
   have HFx := Lib.hid hfx
   have HXq := Lib.hid hxq
   have HRv := Lib.hid hRv
   have hix := fun (W : World) => Try.ix_qs W g0 o0 f.length c i hlt
   have hix2 := fun (W : World) => Try.ix_ps W g1 o1 f.length d i hlt
   have hne : ¬ (i : Int) = (f.length : Int) := by omega
   have hneb : ((i : Int) == (f.length : Int)) = false := by simpa using hne
   clear hy hz hyx hzx hfx hxq hRv
   go_wp2
   go_ret
   have hsp : (pairW f)[i]? = some (x.q, x.s) := by unfold pairW; rw [List.getElem?_map, HFx.out]; rfl
   have hbw : befW q (pairW f) = i := befW_is q (pairW f) i (by unfold pairW; simp; omega) (fun j y hj hy => by
    obtain ⟨z, hz, rfl⟩ : ∃ z : Fr, f[j]? = some z ∧ (z.q, z.s) = y := by
     unfold pairW at hy
     rw [List.getElem?_map] at hy
     exact Option.map_eq_some_iff.1 hy
    exact HBef.out j z hj hz) (fun y hy => by rw [hsp] at hy; rw [← Option.some.inj hy]; show ¬ x.q < q; rw [HXq.out]; omega)
   exact at_out HH.out (insW_there q _ _ ⟨_, by rw [hbw]; exact hsp, HXq.out⟩).symm ⟨x, List.mem_of_getElem? HFx.out, HXq.out, HRv.out⟩ (fun _ h => .inl h) (fun _ h => .inl h) (fun _ h => .inl h) (Ft.refl _ _)
  ·have HNf := Lib.hid hfd
   clear hfd
   go_upto_region 6 with fail
   go_cut [47] from 30 to 46 (fun bv wx => bv = .bool true ∧ wx = w)
   case first =>
    by_cases hlt : i < f.length
    ·obtain ⟨g0, o0, y, rfl, hy, _, hc0⟩ := HH.out.sq.at hlt
     obtain ⟨x, hfx⟩ : ∃ x, f[i]? = some x := ⟨_, List.getElem?_eq_getElem hlt⟩
     have hyx : y = x.q := by
      rw [List.getElem?_map, hfx] at hy
      simpa using hy.symm
     rw [hyx] at hc0
     have hxq : ¬ x.q = q := fun e => HNf.out ⟨x, hfx, e⟩
     have hxb : (x.q != q) = true := by simpa using hxq
     have hix := fun (W : World) => Try.ix_qs W g0 o0 f.length c i hlt
     have hne : ¬ (i : Int) = (f.length : Int) := by omega
     have hneb : ((i : Int) == (f.length : Int)) = false := by simpa using hne
     clear hy hyx hfx
     go_wp2
     go_meet
     exact ⟨rfl, by first | rfl | trivial⟩
    ·have he : i = f.length := by omega
     have heb : ((i : Int) == (f.length : Int)) = true := by rw [he]; simp
     go_wp2
     go_meet
     exact ⟨rfl, by first | rfl | trivial⟩
   case rest =>
    obtain ⟨rfl, hw9⟩ := hcut
    have hw8 := hw9.symm
    clear hw9
    subst hw8
    go_upto_region 7 with fail
    obtain ⟨TI, hTI⟩ : ∃ TI, ((f.map Fr.q).map qC).take i = TI := ⟨_, rfl⟩
    obtain ⟨DI, hDI⟩ : ∃ DI, ((f.map Fr.q).map qC).drop i = DI := ⟨_, rfl⟩
    have hk0 : ∀ y ∈ (f.map Fr.q).map qC, y.length = 1 ∧ ∀ u ∈ y, u.oneCell' = true := fun y hy => by
     obtain ⟨a, _, rfl⟩ := List.mem_map.1 hy
     exact ⟨rfl, fun u hu => by rw [List.mem_singleton.1 hu]; rfl⟩
    have hsq : Sl w 1 A f.length ((f.map Fr.q).map qC) := HH.out.sq
    have HT : Hid (Sl w 1 A i TI) := Lib.hid (hTI ▸ hsq.to_ hi)
    obtain ⟨A4, hA4, hD4⟩ := hsq.from_ hi HH.out.hc
    have HDr : Hid (Sl w 1 A4 (f.length - i) DI) := Lib.hid (hDI ▸ hD4)
    have HTk : Hid (∀ y ∈ TI, y.length = 1) := Lib.hid (fun y hy => (hk0 y (List.mem_of_mem_take (hTI ▸ hy))).1)
    have HT1 : Hid (∀ y ∈ TI, ∀ u ∈ y, u.oneCell' = true) := Lib.hid (fun y hy => (hk0 y (List.mem_of_mem_take (hTI ▸ hy))).2)
    have HDk : Hid (∀ y ∈ DI, y.length = 1) := Lib.hid (fun y hy => (hk0 y (List.mem_of_mem_drop (hDI ▸ hy))).1)
    have HD1 : Hid (∀ y ∈ DI, ∀ u ∈ y, u.oneCell' = true) := Lib.hid (fun y hy => (hk0 y (List.mem_of_mem_drop (hDI ▸ hy))).2)
    have HTn : Hid (TI.length = i) := Lib.hid HT.out.len
    have HLt := Lib.hid HH.out.box.lt
    have hfl : f.length ≤ 1000 := HMf.out
    have hsz : ∀ W, (sizeOf 2).run Try.prog W = .ok 1 W := fun W => by kernel_rfl
    have hel : Try.prog.elem 33 = 2 := by kernel_rfl
    have hhc := HH.out.hc
    have hs0 : ∀ W, (Instr.slice 33 (.slice A f.length c) none (some (.int .i64 (i : Int))) none).run Try.prog W = .ok (.slice A i c) W := fun W => by
     rw [run_slice_h (P := Try.prog) (w := W) 33 A f.length c Try.underlying33 .i64 i (by omega) (by omega), hel, hsz]
     have e0 : A.map (fun a => a.add (0 * 1)) = A := by cases A <;> simp [Addr.add]
     simp only [Result.andThen_ok, sliced, e0]
     simp
    have hs1 : ∀ W, (Instr.slice 33 (.slice A f.length c) (some (.int .i64 (i : Int))) none none).run Try.prog W = .ok (.slice A4 (f.length - i) (c - i)) W := fun W => by
     rw [run_slice_l (P := Try.prog) (w := W) 33 A f.length c Try.underlying33 .i64 i (by omega) (by omega), hel, hsz]
     simp only [Result.andThen_ok, sliced, Int.toNat_natCast, hA4]
    have HTIe := Lib.hid hTI
    have HDIe := Lib.hid hDI
    clear hk0 hsq hA4 hD4 hTI hDI hsz hel hhc
    go_cut [] from 48 to 68 (fun wx => ∃ (A7 : Option Addr) (c7 : Nat), Blk wx L 38 (lgC n low (.slice A7 (f.length + 1) c7) (.slice B f.length d)) ∧ Os wx w.heap.size 2 1 (.slice A7 (f.length + 1) c7) (TI ++ [[.int .i64 q]] ++ DI) ∧ Ft (fun b => b = L) w wx)
    case first =>
     refine wp_region_tail (S := fun W => Below w.heap.size w W) 21 (by kernel_rfl) (by kernel_rfl) (by kernel_rfl) (by kernel_rfl) rfl (Below.refl _ w).drew (fun hHeld => ?_)
     change wpAnyH _ _ _ _ _ _ #[false, false, false, false, false, false, false, false, false, false, false, false, false, false, false, false, false, false, false, false, false, true] _ _
     refine tkq (i := 0) (d := 48) (v := (.pointer (some ⟨L, 0, none⟩))) rfl rfl (Or.inl ⟨by kernel_rfl, fun w hSw => ?_⟩) (by assumption) ?_
     ·(try dsimp only at hSw); go_simp <;> (try rfl)
     simp only [Act.put, sq1, sq2, sq3]
     refine tkq (i := 2) (d := 50) (v := (.pointer (some ⟨L, 0, none⟩))) rfl rfl (Or.inl ⟨by kernel_rfl, fun w hSw => ?_⟩) (by assumption) ?_
     ·(try dsimp only at hSw); go_simp <;> (try rfl)
     simp only [Act.put, sq1, sq2, sq3]
     refine tkq (i := 3) (d := 51) (v := (.pointer (some ⟨L, 0, none⟩))) rfl rfl (Or.inl ⟨by kernel_rfl, fun w hSw => ?_⟩) (by assumption) ?_
     ·(try dsimp only at hSw); go_simp <;> (try rfl)
     simp only [Act.put, sq1, sq2, sq3]
     refine tkq (i := 4) (d := 52) (v := (.pointer (some ⟨L, 2, none⟩))) rfl rfl (Or.inl ⟨by kernel_rfl, fun w hSw => ?_⟩) (by assumption) ?_
     ·(try dsimp only at hSw); go_simp <;> (try rfl)
     simp only [Act.put, sq1, sq2, sq3]
     refine tkq (i := 5) (d := 53) (v := (.slice A f.length c)) rfl rfl (yields_load_at (by kernel_rfl) 33 (.tmp 52) rfl (.pointer (some ⟨L, 2, none⟩)) (by simp [Act.eval]) (.slice A f.length c) (fun W hW => load_one' (Try.agg_qs W) ((HH.out.box.through hW).cellAt (i := 2) rfl))) (by assumption) ?_
     simp only [Act.put, sq1, sq2, sq3]
     refine tkq (i := 6) (d := 54) (v := (.int .i64 (i : Int))) rfl rfl (Or.inl ⟨by kernel_rfl, fun w hSw => ?_⟩) (by assumption) ?_
     ·(try dsimp only at hSw); go_simp <;> (try rfl)
     simp only [Act.put, sq1, sq2, sq3]
     refine tkq (i := 7) (d := 55) (v := (.slice A i c)) rfl rfl (Or.inl ⟨by kernel_rfl, fun w hSw => ?_⟩) (by assumption) ?_
     ·(try dsimp only at hSw); go_simp <;> (try rfl)
     simp only [Act.put, sq1, sq2, sq3]
     refine tkq (i := 9) (d := 57) (v := (.int .i64 q)) rfl rfl (Or.inl ⟨by kernel_rfl, fun w hSw => ?_⟩) (by assumption) ?_
     ·(try dsimp only at hSw); go_simp <;> (try rfl)
     simp only [Act.put, sq1, sq2, sq3]
     refine tkq (i := 12) (d := 60) (v := (.pointer (some ⟨L, 0, none⟩))) rfl rfl (Or.inl ⟨by kernel_rfl, fun w hSw => ?_⟩) (by assumption) ?_
     ·(try dsimp only at hSw); go_simp <;> (try rfl)
     simp only [Act.put, sq1, sq2, sq3]
     refine tkq (i := 13) (d := 61) (v := (.pointer (some ⟨L, 0, none⟩))) rfl rfl (Or.inl ⟨by kernel_rfl, fun w hSw => ?_⟩) (by assumption) ?_
     ·(try dsimp only at hSw); go_simp <;> (try rfl)
     simp only [Act.put, sq1, sq2, sq3]
     refine tkq (i := 14) (d := 62) (v := (.pointer (some ⟨L, 2, none⟩))) rfl rfl (Or.inl ⟨by kernel_rfl, fun w hSw => ?_⟩) (by assumption) ?_
     ·(try dsimp only at hSw); go_simp <;> (try rfl)
     simp only [Act.put, sq1, sq2, sq3]
     refine tkq (i := 15) (d := 63) (v := (.slice A f.length c)) rfl rfl (yields_load_at (by kernel_rfl) 33 (.tmp 62) rfl (.pointer (some ⟨L, 2, none⟩)) (by simp [Act.eval]) (.slice A f.length c) (fun W hW => load_one' (Try.agg_qs W) ((HH.out.box.through hW).cellAt (i := 2) rfl))) (by assumption) ?_
     simp only [Act.put, sq1, sq2, sq3]
     refine tkq (i := 16) (d := 64) (v := (.int .i64 (i : Int))) rfl rfl (Or.inl ⟨by kernel_rfl, fun w hSw => ?_⟩) (by assumption) ?_
     ·(try dsimp only at hSw); go_simp <;> (try rfl)
     simp only [Act.put, sq1, sq2, sq3]
     refine tkq (i := 17) (d := 65) (v := (.slice A4 (f.length - i) (c - i))) rfl rfl (Or.inl ⟨by kernel_rfl, fun w hSw => ?_⟩) (by assumption) ?_
     ·(try dsimp only at hSw); go_simp <;> (try rfl)
     simp only [Act.put, sq1, sq2, sq3]
     refine wpAnyH_ready (rs := [1, 10]) (by kernel_rfl) (by simp) ?_
     refine AllReadyH.cons (o := ⟨some 49, .buildSlice 33 0 #[], _, _, _, none⟩) rfl (fun K hK => ?_) (AllReadyH.cons (o := ⟨some 58, .buildSlice 33 1 #[(0, .tmp 57)], _, _, _, none⟩) rfl (fun K hK => ?_) AllReadyH.nil)
     ·as_aux_lemma =>
      refine step_mk_ (B := w.heap.size) (e := 2) (k := 1) rfl rfl (Try.empty_qs _ _ rfl) hHeld.size ?_; intro gm u1 hn0 ho0 hb0; have HO1 := Lib.hid ho0; have X1 := Lib.hid (below_step hHeld hb0); clear hn0 ho0 hb0
      refine hK.out _ _ X1.out (fun hHeld1 => ?_)
      clear hHeld hK K
      have hHeld := hHeld1
      clear hHeld1
      change wpAnyH _ _ _ _ _ _ _ (Act.put _ (some (49 : Nat)) (.slice (some ⟨gm, 0, none⟩) 0 0)) _
      simp only [Act.put, sq1, sq2, sq3]
      refine wpAnyH_ready (rs := [8, 10]) (by kernel_rfl) (by simp) ?_
      refine AllReadyH.cons (o := ⟨some 56, .call ⟨.builtin .append, #[.tmp 49, .tmp 55], #[33, 33]⟩, _, _, _, none⟩) rfl (fun K hK => ?_) (AllReadyH.cons (o := ⟨some 58, .buildSlice 33 1 #[(0, .tmp 57)], _, _, _, none⟩) rfl (fun K hK => ?_) AllReadyH.nil)
      ·as_aux_lemma =>
       refine step_append_sl rfl Try.el_qs (.tmp 49) (.tmp 55) rfl w.heap.size (.slice (some ⟨gm, 0, none⟩) 0 0) [] rfl HO1.out A i c TI rfl (HT.out.through hHeld) HTk.out HT1.out (by simp; omega) hHeld.size ?_; intro A8 n8 c8 u8 hn8 ho8 hg8; rw [List.nil_append] at hn8 ho8; have HO8 := Lib.hid ho8; have X8 := Lib.hid (hHeld.grown hg8 hHeld.size (fun b hb => Nat.le_trans (Nat.le_refl _) (HO1.out.lt b hb).1)); clear hn8 ho8 hg8
       refine hK.out _ _ X8.out (fun hHeld1 => ?_)
       clear hHeld hK K
       have hHeld := hHeld1
       clear hHeld1
       change wpAnyH _ _ _ _ _ _ _ (Act.put _ (some (56 : Nat)) (.slice A8 n8 c8)) _
       simp only [Act.put, sq1, sq2, sq3]
       refine wpAnyH_ready (rs := [10]) (by kernel_rfl) (by simp) ?_
       refine AllReadyH.cons (o := ⟨some 58, .buildSlice 33 1 #[(0, .tmp 57)], _, _, _, none⟩) rfl (fun K hK => ?_) AllReadyH.nil
       refine step_build_one_ rfl 33 2 (.tmp 57) rfl (.int .i64 q) rfl (fun W => Try.one_qs q W) ?_; intro gb u10 hn0 he0 hb0; have HE10 := Lib.hid he0; have HGb := Lib.hid hn0; have X10 := Lib.hid (below_step hHeld hb0); have HO8b := Lib.hid (HO8.out.through hb0); clear hn0 he0 hb0
       refine hK.out _ _ X10.out (fun hHeld1 => ?_)
       clear hHeld hK K
       have hHeld := hHeld1
       clear hHeld1
       change wpAnyH _ _ _ _ _ _ _ (Act.put _ (some (58 : Nat)) (.slice (some ⟨gb, 0, none⟩) 1 1)) _
       simp only [Act.put, sq1, sq2, sq3]
       refine wpAnyH_ready (rs := [11]) (by kernel_rfl) (by simp) ?_
       refine AllReadyH.cons (o := ⟨some 59, .call ⟨.builtin .append, #[.tmp 56, .tmp 58], #[33, 33]⟩, _, _, _, none⟩) rfl (fun K hK => ?_) AllReadyH.nil
       refine step_append_el rfl Try.el_qs (.tmp 56) (.tmp 58) rfl w.heap.size (.slice A8 n8 c8) TI rfl HO8b.out gb [.int .i64 q] rfl HE10.out rfl (by simp [Value.oneCell']) (by rw [HTn.out]; omega) hHeld.size ?_; intro A11 n11 c11 u11 hn11 ho11 hg11; have HO11 := Lib.hid ho11; have X11 := Lib.hid (hHeld.grown hg11 hHeld.size (fun b hb => Nat.le_trans (Nat.le_refl _) (HO8b.out.lt b hb).1)); clear hn11 ho11 hg11
       refine hK.out _ _ X11.out (fun hHeld1 => ?_)
       clear hHeld hK K
       have hHeld := hHeld1
       clear hHeld1
       change wpAnyH _ _ _ _ _ _ _ (Act.put _ (some (59 : Nat)) (.slice A11 n11 c11)) _
       simp only [Act.put, sq1, sq2, sq3]
       refine wpAnyH_ready (rs := [18]) (by kernel_rfl) (by simp) ?_
       refine AllReadyH.cons (o := ⟨some 66, .call ⟨.builtin .append, #[.tmp 59, .tmp 65], #[33, 33]⟩, _, _, _, none⟩) rfl (fun K hK => ?_) AllReadyH.nil
       refine step_append_sl rfl Try.el_qs (.tmp 59) (.tmp 65) rfl w.heap.size (.slice A11 n11 c11) (TI ++ [[.int .i64 q]]) rfl HO11.out A4 (f.length - i) (c - i) DI rfl (HDr.out.through hHeld) HDk.out HD1.out (by simp [HTn.out]; omega) hHeld.size ?_; intro A7 n7 c7 u18 hn18 ho18 hg18; have HO18 := Lib.hid (ho18.weak (Nat.le_refl _)); have HN7 := Lib.hid hn18; have X18 := Lib.hid (hHeld.grown hg18 hHeld.size (fun b hb => Nat.le_trans (Nat.le_refl _) (HO11.out.lt b hb).1)); clear hn18 ho18 hg18
       refine hK.out _ _ X18.out (fun hHeld1 => ?_)
       clear hHeld hK K
       have hHeld := hHeld1
       clear hHeld1
       change wpAnyH _ _ _ _ _ _ _ (Act.put _ (some (66 : Nat)) (.slice A7 n7 c7)) _
       simp only [Act.put, sq1, sq2, sq3]
       refine tkq (i := 19) (d := 67) (v := (.pointer (some ⟨L, 0, none⟩))) rfl rfl (Or.inl ⟨by kernel_rfl, fun w hSw => ?_⟩) (by assumption) ?_
       ·(try dsimp only at hSw); go_simp <;> (try rfl)
       simp only [Act.put, sq1, sq2, sq3]
       refine tkq (i := 20) (d := 68) (v := (.pointer (some ⟨L, 2, none⟩))) rfl rfl (Or.inl ⟨by kernel_rfl, fun w hSw => ?_⟩) (by assumption) ?_
       ·(try dsimp only at hSw); go_simp <;> (try rfl)
       simp only [Act.put, sq1, sq2, sq3]
       refine wpAnyH_done (by kernel_rfl) ?_ _
       refine tail_go (o := ⟨none, .store 33 (.tmp 68) (.tmp 66), _, _, _, none⟩) rfl ?_
       obtain rfl : n7 = f.length + 1 := by (rw [HN7.out]; have h1 := HTn.out; have h2 := HDr.out.len; simp only [List.length_append, List.length_cons, List.length_nil]; omega)
       refine step_store_cell (by kernel_rfl) 33 (.tmp 68) (.tmp 66) rfl L 2 rfl (.slice A7 (f.length + 1) c7) rfl rfl rfl Try.sz_qs 38 (lgC n low (.slice A f.length c) (.slice B f.length d)) (HH.out.box.through X18.out) (by simp [lgC]) ?_
       intro w7 hb7 hg7
       have HB7 : Hid (Blk w7 L 38 (lgC n low (.slice A7 (f.length + 1) c7) (.slice B f.length d))) := Lib.hid hb7
       have HF7 : Hid (Ft (fun b => b = L) w w7) := Lib.hid ((Ft.of_below X18.out).trans (D' := fun b => b = L) (ft_one hg7) (fun _ h => .inl h))
       have HO7 := Lib.hid (HO18.out.far hg7 HLt.out)
       clear hb7 hg7
       go_wp2_with fail
       go_meet
       exact ⟨A7, c7, HB7.out, HO7.out, HF7.out⟩
      ·as_aux_lemma =>
       refine step_build_one_ rfl 33 2 (.tmp 57) rfl (.int .i64 q) rfl (fun W => Try.one_qs q W) ?_; intro gb u10 hn0 he0 hb0; have HE10 := Lib.hid he0; have HGb := Lib.hid hn0; have X10 := Lib.hid (below_step hHeld hb0); have HO1b := Lib.hid (HO1.out.through hb0); clear hn0 he0 hb0
       refine hK.out _ _ X10.out (fun hHeld1 => ?_)
       clear hHeld hK K
       have hHeld := hHeld1
       clear hHeld1
       change wpAnyH _ _ _ _ _ _ _ (Act.put _ (some (58 : Nat)) (.slice (some ⟨gb, 0, none⟩) 1 1)) _
       simp only [Act.put, sq1, sq2, sq3]
       refine wpAnyH_ready (rs := [8]) (by kernel_rfl) (by simp) ?_
       refine AllReadyH.cons (o := ⟨some 56, .call ⟨.builtin .append, #[.tmp 49, .tmp 55], #[33, 33]⟩, _, _, _, none⟩) rfl (fun K hK => ?_) AllReadyH.nil
       refine step_append_sl rfl Try.el_qs (.tmp 49) (.tmp 55) rfl w.heap.size (.slice (some ⟨gm, 0, none⟩) 0 0) [] rfl HO1b.out A i c TI rfl (HT.out.through hHeld) HTk.out HT1.out (by simp; omega) hHeld.size ?_; intro A8 n8 c8 u8 hn8 ho8 hg8; rw [List.nil_append] at hn8 ho8; have HO8 := Lib.hid ho8; have X8 := Lib.hid (hHeld.grown hg8 hHeld.size (fun b hb => Nat.le_trans (Nat.le_refl _) (HO1b.out.lt b hb).1)); have HE8 := Lib.hid (HE10.out.grown hg8 (fun e => by have h9 := (HO1.out.lt gb e.symm).2; have := HGb.out; omega)); clear hn8 ho8 hg8
       refine hK.out _ _ X8.out (fun hHeld1 => ?_)
       clear hHeld hK K
       have hHeld := hHeld1
       clear hHeld1
       change wpAnyH _ _ _ _ _ _ _ (Act.put _ (some (56 : Nat)) (.slice A8 n8 c8)) _
       simp only [Act.put, sq1, sq2, sq3]
       refine wpAnyH_ready (rs := [11]) (by kernel_rfl) (by simp) ?_
       refine AllReadyH.cons (o := ⟨some 59, .call ⟨.builtin .append, #[.tmp 56, .tmp 58], #[33, 33]⟩, _, _, _, none⟩) rfl (fun K hK => ?_) AllReadyH.nil
       refine step_append_el rfl Try.el_qs (.tmp 56) (.tmp 58) rfl w.heap.size (.slice A8 n8 c8) TI rfl HO8.out gb [.int .i64 q] rfl HE8.out rfl (by simp [Value.oneCell']) (by rw [HTn.out]; omega) hHeld.size ?_; intro A11 n11 c11 u11 hn11 ho11 hg11; have HO11 := Lib.hid ho11; have X11 := Lib.hid (hHeld.grown hg11 hHeld.size (fun b hb => Nat.le_trans (Nat.le_refl _) (HO8.out.lt b hb).1)); clear hn11 ho11 hg11
       refine hK.out _ _ X11.out (fun hHeld1 => ?_)
       clear hHeld hK K
       have hHeld := hHeld1
       clear hHeld1
       change wpAnyH _ _ _ _ _ _ _ (Act.put _ (some (59 : Nat)) (.slice A11 n11 c11)) _
       simp only [Act.put, sq1, sq2, sq3]
       refine wpAnyH_ready (rs := [18]) (by kernel_rfl) (by simp) ?_
       refine AllReadyH.cons (o := ⟨some 66, .call ⟨.builtin .append, #[.tmp 59, .tmp 65], #[33, 33]⟩, _, _, _, none⟩) rfl (fun K hK => ?_) AllReadyH.nil
       refine step_append_sl rfl Try.el_qs (.tmp 59) (.tmp 65) rfl w.heap.size (.slice A11 n11 c11) (TI ++ [[.int .i64 q]]) rfl HO11.out A4 (f.length - i) (c - i) DI rfl (HDr.out.through hHeld) HDk.out HD1.out (by simp [HTn.out]; omega) hHeld.size ?_; intro A7 n7 c7 u18 hn18 ho18 hg18; have HO18 := Lib.hid (ho18.weak (Nat.le_refl _)); have HN7 := Lib.hid hn18; have X18 := Lib.hid (hHeld.grown hg18 hHeld.size (fun b hb => Nat.le_trans (Nat.le_refl _) (HO11.out.lt b hb).1)); clear hn18 ho18 hg18
       refine hK.out _ _ X18.out (fun hHeld1 => ?_)
       clear hHeld hK K
       have hHeld := hHeld1
       clear hHeld1
       change wpAnyH _ _ _ _ _ _ _ (Act.put _ (some (66 : Nat)) (.slice A7 n7 c7)) _
       simp only [Act.put, sq1, sq2, sq3]
       refine tkq (i := 19) (d := 67) (v := (.pointer (some ⟨L, 0, none⟩))) rfl rfl (Or.inl ⟨by kernel_rfl, fun w hSw => ?_⟩) (by assumption) ?_
       ·(try dsimp only at hSw); go_simp <;> (try rfl)
       simp only [Act.put, sq1, sq2, sq3]
       refine tkq (i := 20) (d := 68) (v := (.pointer (some ⟨L, 2, none⟩))) rfl rfl (Or.inl ⟨by kernel_rfl, fun w hSw => ?_⟩) (by assumption) ?_
       ·(try dsimp only at hSw); go_simp <;> (try rfl)
       simp only [Act.put, sq1, sq2, sq3]
       refine wpAnyH_done (by kernel_rfl) ?_ _
       refine tail_go (o := ⟨none, .store 33 (.tmp 68) (.tmp 66), _, _, _, none⟩) rfl ?_
       obtain rfl : n7 = f.length + 1 := by (rw [HN7.out]; have h1 := HTn.out; have h2 := HDr.out.len; simp only [List.length_append, List.length_cons, List.length_nil]; omega)
       refine step_store_cell (by kernel_rfl) 33 (.tmp 68) (.tmp 66) rfl L 2 rfl (.slice A7 (f.length + 1) c7) rfl rfl rfl Try.sz_qs 38 (lgC n low (.slice A f.length c) (.slice B f.length d)) (HH.out.box.through X18.out) (by simp [lgC]) ?_
       intro w7 hb7 hg7
       have HB7 : Hid (Blk w7 L 38 (lgC n low (.slice A7 (f.length + 1) c7) (.slice B f.length d))) := Lib.hid hb7
       have HF7 : Hid (Ft (fun b => b = L) w w7) := Lib.hid ((Ft.of_below X18.out).trans (D' := fun b => b = L) (ft_one hg7) (fun _ h => .inl h))
       have HO7 := Lib.hid (HO18.out.far hg7 HLt.out)
       clear hb7 hg7
       go_wp2_with fail
       go_meet
       exact ⟨A7, c7, HB7.out, HO7.out, HF7.out⟩
     ·as_aux_lemma =>
      refine step_build_one_ rfl 33 2 (.tmp 57) rfl (.int .i64 q) rfl (fun W => Try.one_qs q W) ?_; intro gb u10 hn0 he0 hb0; have HE10 := Lib.hid he0; have HGb := Lib.hid hn0; have X10 := Lib.hid (below_step hHeld hb0); clear hn0 he0 hb0
      refine hK.out _ _ X10.out (fun hHeld1 => ?_)
      clear hHeld hK K
      have hHeld := hHeld1
      clear hHeld1
      change wpAnyH _ _ _ _ _ _ _ (Act.put _ (some (58 : Nat)) (.slice (some ⟨gb, 0, none⟩) 1 1)) _
      simp only [Act.put, sq1, sq2, sq3]
      refine wpAnyH_ready (rs := [1]) (by kernel_rfl) (by simp) ?_
      refine AllReadyH.cons (o := ⟨some 49, .buildSlice 33 0 #[], _, _, _, none⟩) rfl (fun K hK => ?_) AllReadyH.nil
      refine step_mk_ (B := u10.heap.size) (e := 2) (k := 1) rfl rfl (Try.empty_qs _ _ rfl) (Nat.le_refl _) ?_; intro gm u1 hn0 ho0 hb0; have HO1 := Lib.hid ho0; have X1 := Lib.hid (below_step hHeld hb0); have HE1 := Lib.hid (HE10.out.through hb0); have HS1 := Lib.hid hb0.size; clear hn0 ho0 hb0
      refine hK.out _ _ X1.out (fun hHeld1 => ?_)
      clear hHeld hK K
      have hHeld := hHeld1
      clear hHeld1
      change wpAnyH _ _ _ _ _ _ _ (Act.put _ (some (49 : Nat)) (.slice (some ⟨gm, 0, none⟩) 0 0)) _
      simp only [Act.put, sq1, sq2, sq3]
      refine wpAnyH_ready (rs := [8]) (by kernel_rfl) (by simp) ?_
      refine AllReadyH.cons (o := ⟨some 56, .call ⟨.builtin .append, #[.tmp 49, .tmp 55], #[33, 33]⟩, _, _, _, none⟩) rfl (fun K hK => ?_) AllReadyH.nil
      refine step_append_sl rfl Try.el_qs (.tmp 49) (.tmp 55) rfl u10.heap.size (.slice (some ⟨gm, 0, none⟩) 0 0) [] rfl HO1.out A i c TI rfl (HT.out.through hHeld) HTk.out HT1.out (by simp; omega) HS1.out ?_; intro A8 n8 c8 u8 hn8 ho8 hg8; rw [List.nil_append] at hn8 ho8; have HO8 := Lib.hid ho8; have X8 := Lib.hid (hHeld.grown hg8 hHeld.size (fun b hb => Nat.le_trans X10.out.size (HO1.out.lt b hb).1)); have HE8 := Lib.hid (HE1.out.grown hg8 (fun e => by have h9 := (HO1.out.lt gb e.symm).1; have := HE10.out.lt; omega)); have HS8 := Lib.hid (Nat.le_trans HS1.out hg8.size); clear hn8 ho8 hg8
      refine hK.out _ _ X8.out (fun hHeld1 => ?_)
      clear hHeld hK K
      have hHeld := hHeld1
      clear hHeld1
      change wpAnyH _ _ _ _ _ _ _ (Act.put _ (some (56 : Nat)) (.slice A8 n8 c8)) _
      simp only [Act.put, sq1, sq2, sq3]
      refine wpAnyH_ready (rs := [11]) (by kernel_rfl) (by simp) ?_
      refine AllReadyH.cons (o := ⟨some 59, .call ⟨.builtin .append, #[.tmp 56, .tmp 58], #[33, 33]⟩, _, _, _, none⟩) rfl (fun K hK => ?_) AllReadyH.nil
      refine step_append_el rfl Try.el_qs (.tmp 56) (.tmp 58) rfl u10.heap.size (.slice A8 n8 c8) TI rfl HO8.out gb [.int .i64 q] rfl HE8.out rfl (by simp [Value.oneCell']) (by rw [HTn.out]; omega) HS8.out ?_; intro A11 n11 c11 u11 hn11 ho11 hg11; have HO11 := Lib.hid ho11; have X11 := Lib.hid (hHeld.grown hg11 hHeld.size (fun b hb => Nat.le_trans X10.out.size (HO8.out.lt b hb).1)); have HS11 := Lib.hid hg11.size; clear hn11 ho11 hg11
      refine hK.out _ _ X11.out (fun hHeld1 => ?_)
      clear hHeld hK K
      have hHeld := hHeld1
      clear hHeld1
      change wpAnyH _ _ _ _ _ _ _ (Act.put _ (some (59 : Nat)) (.slice A11 n11 c11)) _
      simp only [Act.put, sq1, sq2, sq3]
      refine wpAnyH_ready (rs := [18]) (by kernel_rfl) (by simp) ?_
      refine AllReadyH.cons (o := ⟨some 66, .call ⟨.builtin .append, #[.tmp 59, .tmp 65], #[33, 33]⟩, _, _, _, none⟩) rfl (fun K hK => ?_) AllReadyH.nil
      refine step_append_sl rfl Try.el_qs (.tmp 59) (.tmp 65) rfl u10.heap.size (.slice A11 n11 c11) (TI ++ [[.int .i64 q]]) rfl HO11.out A4 (f.length - i) (c - i) DI rfl (HDr.out.through hHeld) HDk.out HD1.out (by simp [HTn.out]; omega) (Nat.le_trans HS8.out HS11.out) ?_; intro A7 n7 c7 u18 hn18 ho18 hg18; have HO18 := Lib.hid (ho18.weak X10.out.size); have HN7 := Lib.hid hn18; have X18 := Lib.hid (hHeld.grown hg18 hHeld.size (fun b hb => Nat.le_trans X10.out.size (HO11.out.lt b hb).1)); clear hn18 ho18 hg18
      refine hK.out _ _ X18.out (fun hHeld1 => ?_)
      clear hHeld hK K
      have hHeld := hHeld1
      clear hHeld1
      change wpAnyH _ _ _ _ _ _ _ (Act.put _ (some (66 : Nat)) (.slice A7 n7 c7)) _
      simp only [Act.put, sq1, sq2, sq3]
      refine tkq (i := 19) (d := 67) (v := (.pointer (some ⟨L, 0, none⟩))) rfl rfl (Or.inl ⟨by kernel_rfl, fun w hSw => ?_⟩) (by assumption) ?_
      ·(try dsimp only at hSw); go_simp <;> (try rfl)
      simp only [Act.put, sq1, sq2, sq3]
      refine tkq (i := 20) (d := 68) (v := (.pointer (some ⟨L, 2, none⟩))) rfl rfl (Or.inl ⟨by kernel_rfl, fun w hSw => ?_⟩) (by assumption) ?_
      ·(try dsimp only at hSw); go_simp <;> (try rfl)
      simp only [Act.put, sq1, sq2, sq3]
      refine wpAnyH_done (by kernel_rfl) ?_ _
      refine tail_go (o := ⟨none, .store 33 (.tmp 68) (.tmp 66), _, _, _, none⟩) rfl ?_
      obtain rfl : n7 = f.length + 1 := by (rw [HN7.out]; have h1 := HTn.out; have h2 := HDr.out.len; simp only [List.length_append, List.length_cons, List.length_nil]; omega)
      refine step_store_cell (by kernel_rfl) 33 (.tmp 68) (.tmp 66) rfl L 2 rfl (.slice A7 (f.length + 1) c7) rfl rfl rfl Try.sz_qs 38 (lgC n low (.slice A f.length c) (.slice B f.length d)) (HH.out.box.through X18.out) (by simp [lgC]) ?_
      intro w7 hb7 hg7
      have HB7 : Hid (Blk w7 L 38 (lgC n low (.slice A7 (f.length + 1) c7) (.slice B f.length d))) := Lib.hid hb7
      have HF7 : Hid (Ft (fun b => b = L) w w7) := Lib.hid ((Ft.of_below X18.out).trans (D' := fun b => b = L) (ft_one hg7) (fun _ h => .inl h))
      have HO7 := Lib.hid (HO18.out.far hg7 HLt.out)
      clear hb7 hg7
      go_wp2_with fail
      go_meet
      exact ⟨A7, c7, HB7.out, HO7.out, HF7.out⟩
    case rest =>
     obtain ⟨A7, c7, hb7, ho7, hf7⟩ := hcut
     have HB7 := Lib.hid hb7
     have HO7 := Lib.hid ho7
     have HF7 := Lib.hid hf7
     clear hb7 ho7 hf7
     have hvk : ∀ x ∈ f, x.v.oneCell' = true := fun x hx => by
      obtain ⟨R, _, e, _⟩ := HH.out.fam.has x hx
      rw [e]
      rfl
     obtain ⟨TP, hTP⟩ : ∃ TP, ((f.map Fr.v).map vC).take i = TP := ⟨_, rfl⟩
     obtain ⟨DP, hDP⟩ : ∃ DP, ((f.map Fr.v).map vC).drop i = DP := ⟨_, rfl⟩
     have hk0 : ∀ y ∈ (f.map Fr.v).map vC, y.length = 1 ∧ ∀ u ∈ y, u.oneCell' = true := fun y hy => by
      obtain ⟨a, ha, rfl⟩ := List.mem_map.1 hy
      obtain ⟨x, hx, rfl⟩ := List.mem_map.1 ha
      exact ⟨rfl, fun u hu => by rw [List.mem_singleton.1 hu]; exact hvk x hx⟩
     have hsp : Sl wc 1 B f.length ((f.map Fr.v).map vC) := Sl.ft HH.out.pt (fun x hx => by obtain ⟨a, _, rfl⟩ := List.mem_map.1 hx; rfl) HF7.out (fun b hb e => (HH.out.apB b hb).1 e)
     have HTp : Hid (Sl wc 1 B i TP) := Lib.hid (hTP ▸ hsp.to_ hi)
     obtain ⟨B4, hB4, hD4⟩ := hsp.from_ hi HH.out.hd
     have HDp : Hid (Sl wc 1 B4 (f.length - i) DP) := Lib.hid (hDP ▸ hD4)
     have HTpk : Hid (∀ y ∈ TP, y.length = 1) := Lib.hid (fun y hy => (hk0 y (List.mem_of_mem_take (hTP ▸ hy))).1)
     have HTp1 : Hid (∀ y ∈ TP, ∀ u ∈ y, u.oneCell' = true) := Lib.hid (fun y hy => (hk0 y (List.mem_of_mem_take (hTP ▸ hy))).2)
     have HDpk : Hid (∀ y ∈ DP, y.length = 1) := Lib.hid (fun y hy => (hk0 y (List.mem_of_mem_drop (hDP ▸ hy))).1)
     have HDp1 : Hid (∀ y ∈ DP, ∀ u ∈ y, u.oneCell' = true) := Lib.hid (fun y hy => (hk0 y (List.mem_of_mem_drop (hDP ▸ hy))).2)
     have HTpn : Hid (TP.length = i) := Lib.hid HTp.out.len
     have HTPe := Lib.hid hTP
     have HDPe := Lib.hid hDP
     have hsz : ∀ W, (sizeOf 43).run Try.prog W = .ok 1 W := fun W => by kernel_rfl
     have hel : Try.prog.elem 36 = 43 := by kernel_rfl
     have hhd := HH.out.hd
     have hs0 : ∀ W, (Instr.slice 36 (.slice B f.length d) none (some (.int .i64 (i : Int))) none).run Try.prog W = .ok (.slice B i d) W := fun W => by
      rw [run_slice_h (P := Try.prog) (w := W) 36 B f.length d Try.underlying36 .i64 i (by omega) (by omega), hel, hsz]
      have e0 : B.map (fun a => a.add (0 * 1)) = B := by cases B <;> simp [Addr.add]
      simp only [Result.andThen_ok, sliced, e0]
      simp
     have hs1 : ∀ W, (Instr.slice 36 (.slice B f.length d) (some (.int .i64 (i : Int))) none none).run Try.prog W = .ok (.slice B4 (f.length - i) (d - i)) W := fun W => by
      rw [run_slice_l (P := Try.prog) (w := W) 36 B f.length d Try.underlying36 .i64 i (by omega) (by omega), hel, hsz]
      simp only [Result.andThen_ok, sliced, Int.toNat_natCast, hB4]
     clear hk0 hsp hB4 hD4 hTP hDP hsz hel hhd hvk k2 k3
     go_upto_region 8 with fail
     go_cut [] from 69 to 94 (fun wx => ∃ (A9 : Option Addr) (c9 gx : Nat), Blk wx L 38 (lgC n low (.slice A7 (f.length + 1) c7) (.slice A9 (f.length + 1) c9)) ∧ Os wx wc.heap.size 43 1 (.slice A9 (f.length + 1) c9) (TP ++ [[.pointer (some ⟨gx, 0, none⟩)]] ++ DP) ∧ Blk wx gx 57 (slC (Slt.no n) (.slice none 0 0) (.slice none 0 0) (.slice none 0 0)) ∧ wc.heap.size ≤ gx ∧ Ft (fun b => b = L) wc wx)
     case first =>
      refine wp_region_tail (S := fun W => Below wc.heap.size wc W) 26 (by kernel_rfl) (by kernel_rfl) (by kernel_rfl) (by kernel_rfl) rfl (Below.refl _ wc).drew (fun hHeld => ?_)
      change wpAnyH _ _ _ _ _ _ #[false, false, false, false, false, false, false, false, false, false, false, false, false, false, false, false, false, false, false, false, false, false, false, false, false, false, true] _ _
      refine tkq (i := 0) (d := 69) (v := (.pointer (some ⟨L, 0, none⟩))) rfl rfl (Or.inl ⟨by kernel_rfl, fun w hSw => ?_⟩) (by assumption) ?_
      ·(try dsimp only at hSw); go_simp <;> (try rfl)
      simp only [Act.put, sq1, sq2, sq3]
      refine tkq (i := 2) (d := 71) (v := (.pointer (some ⟨L, 0, none⟩))) rfl rfl (Or.inl ⟨by kernel_rfl, fun w hSw => ?_⟩) (by assumption) ?_
      ·(try dsimp only at hSw); go_simp <;> (try rfl)
      simp only [Act.put, sq1, sq2, sq3]
      refine tkq (i := 3) (d := 72) (v := (.pointer (some ⟨L, 0, none⟩))) rfl rfl (Or.inl ⟨by kernel_rfl, fun w hSw => ?_⟩) (by assumption) ?_
      ·(try dsimp only at hSw); go_simp <;> (try rfl)
      simp only [Act.put, sq1, sq2, sq3]
      refine tkq (i := 4) (d := 73) (v := (.pointer (some ⟨L, 3, none⟩))) rfl rfl (Or.inl ⟨by kernel_rfl, fun w hSw => ?_⟩) (by assumption) ?_
      ·(try dsimp only at hSw); go_simp <;> (try rfl)
      simp only [Act.put, sq1, sq2, sq3]
      refine tkq (i := 5) (d := 74) (v := (.slice B f.length d)) rfl rfl (yields_load_at (by kernel_rfl) 36 (.tmp 73) rfl (.pointer (some ⟨L, 3, none⟩)) (by simp [Act.eval]) (.slice B f.length d) (fun W hW => load_one' (Try.agg_ps W) ((HB7.out.through hW).cellAt (i := 3) rfl))) (by assumption) ?_
      simp only [Act.put, sq1, sq2, sq3]
      refine tkq (i := 6) (d := 75) (v := (.int .i64 (i : Int))) rfl rfl (Or.inl ⟨by kernel_rfl, fun w hSw => ?_⟩) (by assumption) ?_
      ·(try dsimp only at hSw); go_simp <;> (try rfl)
      simp only [Act.put, sq1, sq2, sq3]
      refine tkq (i := 7) (d := 76) (v := (.slice B i d)) rfl rfl (Or.inl ⟨by kernel_rfl, fun w hSw => ?_⟩) (by assumption) ?_
      ·(try dsimp only at hSw); go_simp <;> (try rfl)
      simp only [Act.put, sq1, sq2, sq3]
      refine tkq (i := 9) (d := 78) (v := (.pointer (some ⟨L, 0, none⟩))) rfl rfl (Or.inl ⟨by kernel_rfl, fun w hSw => ?_⟩) (by assumption) ?_
      ·(try dsimp only at hSw); go_simp <;> (try rfl)
      simp only [Act.put, sq1, sq2, sq3]
      refine tkq (i := 10) (d := 79) (v := (.pointer (some ⟨L, 0, none⟩))) rfl rfl (Or.inl ⟨by kernel_rfl, fun w hSw => ?_⟩) (by assumption) ?_
      ·(try dsimp only at hSw); go_simp <;> (try rfl)
      simp only [Act.put, sq1, sq2, sq3]
      refine tkq (i := 11) (d := 80) (v := (.pointer (some ⟨L, 0, none⟩))) rfl rfl (Or.inl ⟨by kernel_rfl, fun w hSw => ?_⟩) (by assumption) ?_
      ·(try dsimp only at hSw); go_simp <;> (try rfl)
      simp only [Act.put, sq1, sq2, sq3]
      refine tkq (i := 12) (d := 81) (v := (.int .i64 n)) rfl rfl (yields_load_at (by kernel_rfl) 3 (.tmp 80) rfl (.pointer (some ⟨L, 0, none⟩)) (by simp [Act.eval]) (.int .i64 n) (fun W hW => load_one' (Try.agg_int W) ((HB7.out.through hW).cellAt (i := 0) rfl))) (by assumption) ?_
      simp only [Act.put, sq1, sq2, sq3]
      refine tkq (i := 13) (d := 82) (v := (.agg (slC (Slt.no n) (.slice none 0 0) (.slice none 0 0) (.slice none 0 0)).toArray)) rfl rfl (yields_build (by kernel_rfl) 57 #[(0, .tmp 81)] rfl #[(0, .int .i64 n)] (by simp [Act.eval]) (.agg (slC (Slt.no n) (.slice none 0 0) (.slice none 0 0) (.slice none 0 0)).toArray) (fun W _ => Try.bld_s8 n W)) (by assumption) ?_
      simp only [Act.put, sq1, sq2, sq3]
      refine tkq (i := 17) (d := 86) (v := (.pointer (some ⟨L, 0, none⟩))) rfl rfl (Or.inl ⟨by kernel_rfl, fun w hSw => ?_⟩) (by assumption) ?_
      ·(try dsimp only at hSw); go_simp <;> (try rfl)
      simp only [Act.put, sq1, sq2, sq3]
      refine tkq (i := 18) (d := 87) (v := (.pointer (some ⟨L, 0, none⟩))) rfl rfl (Or.inl ⟨by kernel_rfl, fun w hSw => ?_⟩) (by assumption) ?_
      ·(try dsimp only at hSw); go_simp <;> (try rfl)
      simp only [Act.put, sq1, sq2, sq3]
      refine tkq (i := 19) (d := 88) (v := (.pointer (some ⟨L, 3, none⟩))) rfl rfl (Or.inl ⟨by kernel_rfl, fun w hSw => ?_⟩) (by assumption) ?_
      ·(try dsimp only at hSw); go_simp <;> (try rfl)
      simp only [Act.put, sq1, sq2, sq3]
      refine tkq (i := 20) (d := 89) (v := (.slice B f.length d)) rfl rfl (yields_load_at (by kernel_rfl) 36 (.tmp 88) rfl (.pointer (some ⟨L, 3, none⟩)) (by simp [Act.eval]) (.slice B f.length d) (fun W hW => load_one' (Try.agg_ps W) ((HB7.out.through hW).cellAt (i := 3) rfl))) (by assumption) ?_
      simp only [Act.put, sq1, sq2, sq3]
      refine tkq (i := 21) (d := 90) (v := (.int .i64 (i : Int))) rfl rfl (Or.inl ⟨by kernel_rfl, fun w hSw => ?_⟩) (by assumption) ?_
      ·(try dsimp only at hSw); go_simp <;> (try rfl)
      simp only [Act.put, sq1, sq2, sq3]
      refine tkq (i := 22) (d := 91) (v := (.slice B4 (f.length - i) (d - i))) rfl rfl (Or.inl ⟨by kernel_rfl, fun w hSw => ?_⟩) (by assumption) ?_
      ·(try dsimp only at hSw); go_simp <;> (try rfl)
      simp only [Act.put, sq1, sq2, sq3]
      refine wpAnyH_ready (rs := [1, 14]) (by kernel_rfl) (by simp) ?_
      refine AllReadyH.cons (o := ⟨some 70, .buildSlice 36 0 #[], _, _, _, none⟩) rfl (fun K hK => ?_) (AllReadyH.cons (o := ⟨some 83, .box 57 (.tmp 82), _, _, _, none⟩) rfl (fun K hK => ?_) AllReadyH.nil)
      ·as_aux_lemma =>
       have HLow := Lib.hid hHeld.size; refine step_mk_ (B := wc.drew.heap.size) (e := 43) (k := 1) rfl rfl (Try.empty_ps _ _ rfl) (Nat.le_refl _) ?_; intro gm u1 hn0 ho0 hb0; have HO := Lib.hid ho0; have HS1 := Lib.hid hb0.size; have X1 := Lib.hid (below_step hHeld hb0); clear hn0 ho0 hb0
       refine hK.out _ _ X1.out (fun hHeld1 => ?_)
       clear hHeld hK K
       have hHeld := hHeld1
       clear hHeld1
       change wpAnyH _ _ _ _ _ _ _ (Act.put _ (some (70 : Nat)) (.slice (some ⟨gm, 0, none⟩) 0 0)) _
       simp only [Act.put, sq1, sq2, sq3]
       refine wpAnyH_ready (rs := [8, 14]) (by kernel_rfl) (by simp) ?_
       refine AllReadyH.cons (o := ⟨some 77, .call ⟨.builtin .append, #[.tmp 70, .tmp 76], #[36, 36]⟩, _, _, _, none⟩) rfl (fun K hK => ?_) (AllReadyH.cons (o := ⟨some 83, .box 57 (.tmp 82), _, _, _, none⟩) rfl (fun K hK => ?_) AllReadyH.nil)
       ·as_aux_lemma =>
        refine step_append_sl rfl Try.el_ps (.tmp 70) (.tmp 76) rfl wc.drew.heap.size (.slice (some ⟨gm, 0, none⟩) 0 0) [] rfl HO.out B i d TP rfl (HTp.out.through hHeld) HTpk.out HTp1.out (by simp; omega) HS1.out ?_; intro A8 n8 c8 u8 hn9 ho9 hg9; rw [List.nil_append] at hn9 ho9; have HO8 := Lib.hid ho9; have X8 := Lib.hid (hHeld.grown hg9 hHeld.size (fun b hb => Nat.le_trans HLow.out (HO.out.lt b hb).1)); have HS8 := Lib.hid (Nat.le_trans HS1.out hg9.size); clear hn9 ho9 hg9
        refine hK.out _ _ X8.out (fun hHeld1 => ?_)
        clear hHeld hK K
        have hHeld := hHeld1
        clear hHeld1
        change wpAnyH _ _ _ _ _ _ _ (Act.put _ (some (77 : Nat)) (.slice A8 n8 c8)) _
        simp only [Act.put, sq1, sq2, sq3]
        refine wpAnyH_ready (rs := [14]) (by kernel_rfl) (by simp) ?_
        refine AllReadyH.cons (o := ⟨some 83, .box 57 (.tmp 82), _, _, _, none⟩) rfl (fun K hK => ?_) AllReadyH.nil
        refine step_box_ rfl 57 (.tmp 82) rfl (slC (Slt.no n) (.slice none 0 0) (.slice none 0 0) (.slice none 0 0)) rfl (fun W => Try.box_s8 n W) ?_; intro gx u14 hn0 hx0 hb0; have HBx := Lib.hid hx0; have HGx := Lib.hid (Nat.le_trans hHeld.size hn0); have X14 := Lib.hid (below_step hHeld hb0); have HO8_14 := Lib.hid (HO8.out.through hb0); have HS14 := Lib.hid (Nat.le_trans HS8.out hb0.size); clear hn0 hx0 hb0
        refine hK.out _ _ X14.out (fun hHeld1 => ?_)
        clear hHeld hK K
        have hHeld := hHeld1
        clear hHeld1
        change wpAnyH _ _ _ _ _ _ _ (Act.put _ (some (83 : Nat)) (.pointer (some ⟨gx, 0, none⟩))) _
        simp only [Act.put, sq1, sq2, sq3]
        refine wpAnyH_ready (rs := [15]) (by kernel_rfl) (by simp) ?_
        refine AllReadyH.cons (o := ⟨some 84, .buildSlice 36 1 #[(0, .tmp 83)], _, _, _, none⟩) rfl (fun K hK => ?_) AllReadyH.nil
        refine step_build_one_ rfl 36 43 (.tmp 83) rfl (.pointer (some ⟨gx, 0, none⟩)) rfl (fun W => Try.one_ps gx W) ?_; intro gb u15 hn0 he0 hb0; have HE := Lib.hid he0; have HGb := Lib.hid hn0; have X15 := Lib.hid (below_step hHeld hb0); have HO8_14_15 := Lib.hid (HO8_14.out.through hb0); have HS15 := Lib.hid (Nat.le_trans HS14.out hb0.size); have HBx_15 := Lib.hid (HBx.out.through hb0); clear hn0 he0 hb0
        refine hK.out _ _ X15.out (fun hHeld1 => ?_)
        clear hHeld hK K
        have hHeld := hHeld1
        clear hHeld1
        change wpAnyH _ _ _ _ _ _ _ (Act.put _ (some (84 : Nat)) (.slice (some ⟨gb, 0, none⟩) 1 1)) _
        simp only [Act.put, sq1, sq2, sq3]
        refine wpAnyH_ready (rs := [16]) (by kernel_rfl) (by simp) ?_
        refine AllReadyH.cons (o := ⟨some 85, .call ⟨.builtin .append, #[.tmp 77, .tmp 84], #[36, 36]⟩, _, _, _, none⟩) rfl (fun K hK => ?_) AllReadyH.nil
        refine step_append_el rfl Try.el_ps (.tmp 77) (.tmp 84) rfl wc.drew.heap.size (.slice A8 n8 c8) TP rfl HO8_14_15.out gb [(.pointer (some ⟨gx, 0, none⟩))] rfl HE.out rfl (by simp [Value.oneCell']) (by rw [HTpn.out]; omega) HS15.out ?_; intro A16 n16 c16 u16 hn9 ho9 hg9; have HO16 := Lib.hid ho9; have HBx_15_16 := Lib.hid (HBx_15.out.apart HO8_14_15.out (by decide) hg9); have X16 := Lib.hid (hHeld.grown hg9 hHeld.size (fun b hb => Nat.le_trans HLow.out (HO8_14_15.out.lt b hb).1)); have HS16 := Lib.hid (Nat.le_trans HS15.out hg9.size); clear hn9 ho9 hg9
        refine hK.out _ _ X16.out (fun hHeld1 => ?_)
        clear hHeld hK K
        have hHeld := hHeld1
        clear hHeld1
        change wpAnyH _ _ _ _ _ _ _ (Act.put _ (some (85 : Nat)) (.slice A16 n16 c16)) _
        simp only [Act.put, sq1, sq2, sq3]
        refine wpAnyH_ready (rs := [23]) (by kernel_rfl) (by simp) ?_
        refine AllReadyH.cons (o := ⟨some 92, .call ⟨.builtin .append, #[.tmp 85, .tmp 91], #[36, 36]⟩, _, _, _, none⟩) rfl (fun K hK => ?_) AllReadyH.nil
        refine step_append_sl rfl Try.el_ps (.tmp 85) (.tmp 91) rfl wc.drew.heap.size (.slice A16 n16 c16) (TP ++ [[(.pointer (some ⟨gx, 0, none⟩))]]) rfl HO16.out B4 (f.length - i) (d - i) DP rfl (HDp.out.through hHeld) HDpk.out HDp1.out (by simp [HTpn.out]; omega) HS16.out ?_; intro A9 n9 c9 u23 hn9 ho9 hg9; have HO23 := Lib.hid (ho9.weak HLow.out); have HN9 := Lib.hid hn9; have HBx_15_16_23 := Lib.hid (HBx_15_16.out.apart HO16.out (by decide) hg9); have X23 := Lib.hid (hHeld.grown hg9 hHeld.size (fun b hb => Nat.le_trans HLow.out (HO16.out.lt b hb).1)); have HS23 := Lib.hid (Nat.le_trans HS16.out hg9.size); have HBz := HBx_15_16_23; clear hn9 ho9 hg9
        refine hK.out _ _ X23.out (fun hHeld1 => ?_)
        clear hHeld hK K
        have hHeld := hHeld1
        clear hHeld1
        change wpAnyH _ _ _ _ _ _ _ (Act.put _ (some (92 : Nat)) (.slice A9 n9 c9)) _
        simp only [Act.put, sq1, sq2, sq3]
        refine tkq (i := 24) (d := 93) (v := (.pointer (some ⟨L, 0, none⟩))) rfl rfl (Or.inl ⟨by kernel_rfl, fun w hSw => ?_⟩) (by assumption) ?_
        ·(try dsimp only at hSw); go_simp <;> (try rfl)
        simp only [Act.put, sq1, sq2, sq3]
        refine tkq (i := 25) (d := 94) (v := (.pointer (some ⟨L, 3, none⟩))) rfl rfl (Or.inl ⟨by kernel_rfl, fun w hSw => ?_⟩) (by assumption) ?_
        ·(try dsimp only at hSw); go_simp <;> (try rfl)
        simp only [Act.put, sq1, sq2, sq3]
        refine wpAnyH_done (by kernel_rfl) ?_ _
        refine tail_go (o := ⟨none, .store 36 (.tmp 94) (.tmp 92), _, _, _, none⟩) rfl ?_
        obtain rfl : n9 = f.length + 1 := by (rw [HN9.out]; have h1 := HTpn.out; have h2 := HDp.out.len; simp only [List.length_append, List.length_cons, List.length_nil]; omega)
        refine step_store_cell (by kernel_rfl) 36 (.tmp 94) (.tmp 92) rfl L 3 rfl (.slice A9 (f.length + 1) c9) rfl rfl rfl Try.sz_ps 38 (lgC n low (.slice A7 (f.length + 1) c7) (.slice B f.length d)) (HB7.out.through X23.out) (by simp [lgC]) ?_
        intro w9 hb7 hg7
        have HB9 : Hid (Blk w9 L 38 (lgC n low (.slice A7 (f.length + 1) c7) (.slice A9 (f.length + 1) c9))) := Lib.hid hb7
        have HF9 : Hid (Ft (fun b => b = L) wc w9) := Lib.hid ((Ft.of_below X23.out).trans (D' := fun b => b = L) (ft_one hg7) (fun _ h => .inl h))
        have HO9 := Lib.hid (HO23.out.far hg7 HB7.out.lt)
        have HBy := Lib.hid (HBz.out.grown hg7 (fun e => by have := Option.some.inj e; have := HGx.out; have := HB7.out.lt; omega))
        clear hb7 hg7
        go_wp2_with fail
        go_meet
        exact ⟨A9, c9, gx, HB9.out, HO9.out, HBy.out, HGx.out, HF9.out⟩
       ·as_aux_lemma =>
        refine step_box_ rfl 57 (.tmp 82) rfl (slC (Slt.no n) (.slice none 0 0) (.slice none 0 0) (.slice none 0 0)) rfl (fun W => Try.box_s8 n W) ?_; intro gx u14 hn0 hx0 hb0; have HBx := Lib.hid hx0; have HGx := Lib.hid (Nat.le_trans hHeld.size hn0); have X14 := Lib.hid (below_step hHeld hb0); have HO_14 := Lib.hid (HO.out.through hb0); have HS14 := Lib.hid (Nat.le_trans HS1.out hb0.size); clear hn0 hx0 hb0
        refine hK.out _ _ X14.out (fun hHeld1 => ?_)
        clear hHeld hK K
        have hHeld := hHeld1
        clear hHeld1
        change wpAnyH _ _ _ _ _ _ _ (Act.put _ (some (83 : Nat)) (.pointer (some ⟨gx, 0, none⟩))) _
        simp only [Act.put, sq1, sq2, sq3]
        refine wpAnyH_ready (rs := [8, 15]) (by kernel_rfl) (by simp) ?_
        refine AllReadyH.cons (o := ⟨some 77, .call ⟨.builtin .append, #[.tmp 70, .tmp 76], #[36, 36]⟩, _, _, _, none⟩) rfl (fun K hK => ?_) (AllReadyH.cons (o := ⟨some 84, .buildSlice 36 1 #[(0, .tmp 83)], _, _, _, none⟩) rfl (fun K hK => ?_) AllReadyH.nil)
        ·as_aux_lemma =>
         refine step_append_sl rfl Try.el_ps (.tmp 70) (.tmp 76) rfl wc.drew.heap.size (.slice (some ⟨gm, 0, none⟩) 0 0) [] rfl HO_14.out B i d TP rfl (HTp.out.through hHeld) HTpk.out HTp1.out (by simp; omega) HS14.out ?_; intro A8 n8 c8 u8 hn9 ho9 hg9; rw [List.nil_append] at hn9 ho9; have HO8 := Lib.hid ho9; have HBx_8 := Lib.hid (HBx.out.apart HO_14.out (by decide) hg9); have X8 := Lib.hid (hHeld.grown hg9 hHeld.size (fun b hb => Nat.le_trans HLow.out (HO_14.out.lt b hb).1)); have HS8 := Lib.hid (Nat.le_trans HS14.out hg9.size); clear hn9 ho9 hg9
         refine hK.out _ _ X8.out (fun hHeld1 => ?_)
         clear hHeld hK K
         have hHeld := hHeld1
         clear hHeld1
         change wpAnyH _ _ _ _ _ _ _ (Act.put _ (some (77 : Nat)) (.slice A8 n8 c8)) _
         simp only [Act.put, sq1, sq2, sq3]
         refine wpAnyH_ready (rs := [15]) (by kernel_rfl) (by simp) ?_
         refine AllReadyH.cons (o := ⟨some 84, .buildSlice 36 1 #[(0, .tmp 83)], _, _, _, none⟩) rfl (fun K hK => ?_) AllReadyH.nil
         refine step_build_one_ rfl 36 43 (.tmp 83) rfl (.pointer (some ⟨gx, 0, none⟩)) rfl (fun W => Try.one_ps gx W) ?_; intro gb u15 hn0 he0 hb0; have HE := Lib.hid he0; have HGb := Lib.hid hn0; have X15 := Lib.hid (below_step hHeld hb0); have HO8_15 := Lib.hid (HO8.out.through hb0); have HS15 := Lib.hid (Nat.le_trans HS8.out hb0.size); have HBx_8_15 := Lib.hid (HBx_8.out.through hb0); clear hn0 he0 hb0
         refine hK.out _ _ X15.out (fun hHeld1 => ?_)
         clear hHeld hK K
         have hHeld := hHeld1
         clear hHeld1
         change wpAnyH _ _ _ _ _ _ _ (Act.put _ (some (84 : Nat)) (.slice (some ⟨gb, 0, none⟩) 1 1)) _
         simp only [Act.put, sq1, sq2, sq3]
         refine wpAnyH_ready (rs := [16]) (by kernel_rfl) (by simp) ?_
         refine AllReadyH.cons (o := ⟨some 85, .call ⟨.builtin .append, #[.tmp 77, .tmp 84], #[36, 36]⟩, _, _, _, none⟩) rfl (fun K hK => ?_) AllReadyH.nil
         refine step_append_el rfl Try.el_ps (.tmp 77) (.tmp 84) rfl wc.drew.heap.size (.slice A8 n8 c8) TP rfl HO8_15.out gb [(.pointer (some ⟨gx, 0, none⟩))] rfl HE.out rfl (by simp [Value.oneCell']) (by rw [HTpn.out]; omega) HS15.out ?_; intro A16 n16 c16 u16 hn9 ho9 hg9; have HO16 := Lib.hid ho9; have HBx_8_15_16 := Lib.hid (HBx_8_15.out.apart HO8_15.out (by decide) hg9); have X16 := Lib.hid (hHeld.grown hg9 hHeld.size (fun b hb => Nat.le_trans HLow.out (HO8_15.out.lt b hb).1)); have HS16 := Lib.hid (Nat.le_trans HS15.out hg9.size); clear hn9 ho9 hg9
         refine hK.out _ _ X16.out (fun hHeld1 => ?_)
         clear hHeld hK K
         have hHeld := hHeld1
         clear hHeld1
         change wpAnyH _ _ _ _ _ _ _ (Act.put _ (some (85 : Nat)) (.slice A16 n16 c16)) _
         simp only [Act.put, sq1, sq2, sq3]
         refine wpAnyH_ready (rs := [23]) (by kernel_rfl) (by simp) ?_
         refine AllReadyH.cons (o := ⟨some 92, .call ⟨.builtin .append, #[.tmp 85, .tmp 91], #[36, 36]⟩, _, _, _, none⟩) rfl (fun K hK => ?_) AllReadyH.nil
         refine step_append_sl rfl Try.el_ps (.tmp 85) (.tmp 91) rfl wc.drew.heap.size (.slice A16 n16 c16) (TP ++ [[(.pointer (some ⟨gx, 0, none⟩))]]) rfl HO16.out B4 (f.length - i) (d - i) DP rfl (HDp.out.through hHeld) HDpk.out HDp1.out (by simp [HTpn.out]; omega) HS16.out ?_; intro A9 n9 c9 u23 hn9 ho9 hg9; have HO23 := Lib.hid (ho9.weak HLow.out); have HN9 := Lib.hid hn9; have HBx_8_15_16_23 := Lib.hid (HBx_8_15_16.out.apart HO16.out (by decide) hg9); have X23 := Lib.hid (hHeld.grown hg9 hHeld.size (fun b hb => Nat.le_trans HLow.out (HO16.out.lt b hb).1)); have HS23 := Lib.hid (Nat.le_trans HS16.out hg9.size); have HBz := HBx_8_15_16_23; clear hn9 ho9 hg9
         refine hK.out _ _ X23.out (fun hHeld1 => ?_)
         clear hHeld hK K
         have hHeld := hHeld1
         clear hHeld1
         change wpAnyH _ _ _ _ _ _ _ (Act.put _ (some (92 : Nat)) (.slice A9 n9 c9)) _
         simp only [Act.put, sq1, sq2, sq3]
         refine tkq (i := 24) (d := 93) (v := (.pointer (some ⟨L, 0, none⟩))) rfl rfl (Or.inl ⟨by kernel_rfl, fun w hSw => ?_⟩) (by assumption) ?_
         ·(try dsimp only at hSw); go_simp <;> (try rfl)
         simp only [Act.put, sq1, sq2, sq3]
         refine tkq (i := 25) (d := 94) (v := (.pointer (some ⟨L, 3, none⟩))) rfl rfl (Or.inl ⟨by kernel_rfl, fun w hSw => ?_⟩) (by assumption) ?_
         ·(try dsimp only at hSw); go_simp <;> (try rfl)
         simp only [Act.put, sq1, sq2, sq3]
         refine wpAnyH_done (by kernel_rfl) ?_ _
         refine tail_go (o := ⟨none, .store 36 (.tmp 94) (.tmp 92), _, _, _, none⟩) rfl ?_
         obtain rfl : n9 = f.length + 1 := by (rw [HN9.out]; have h1 := HTpn.out; have h2 := HDp.out.len; simp only [List.length_append, List.length_cons, List.length_nil]; omega)
         refine step_store_cell (by kernel_rfl) 36 (.tmp 94) (.tmp 92) rfl L 3 rfl (.slice A9 (f.length + 1) c9) rfl rfl rfl Try.sz_ps 38 (lgC n low (.slice A7 (f.length + 1) c7) (.slice B f.length d)) (HB7.out.through X23.out) (by simp [lgC]) ?_
         intro w9 hb7 hg7
         have HB9 : Hid (Blk w9 L 38 (lgC n low (.slice A7 (f.length + 1) c7) (.slice A9 (f.length + 1) c9))) := Lib.hid hb7
         have HF9 : Hid (Ft (fun b => b = L) wc w9) := Lib.hid ((Ft.of_below X23.out).trans (D' := fun b => b = L) (ft_one hg7) (fun _ h => .inl h))
         have HO9 := Lib.hid (HO23.out.far hg7 HB7.out.lt)
         have HBy := Lib.hid (HBz.out.grown hg7 (fun e => by have := Option.some.inj e; have := HGx.out; have := HB7.out.lt; omega))
         clear hb7 hg7
         go_wp2_with fail
         go_meet
         exact ⟨A9, c9, gx, HB9.out, HO9.out, HBy.out, HGx.out, HF9.out⟩
        ·as_aux_lemma =>
         refine step_build_one_ rfl 36 43 (.tmp 83) rfl (.pointer (some ⟨gx, 0, none⟩)) rfl (fun W => Try.one_ps gx W) ?_; intro gb u15 hn0 he0 hb0; have HE := Lib.hid he0; have HGb := Lib.hid hn0; have X15 := Lib.hid (below_step hHeld hb0); have HO_14_15 := Lib.hid (HO_14.out.through hb0); have HS15 := Lib.hid (Nat.le_trans HS14.out hb0.size); have HBx_15 := Lib.hid (HBx.out.through hb0); clear hn0 he0 hb0
         refine hK.out _ _ X15.out (fun hHeld1 => ?_)
         clear hHeld hK K
         have hHeld := hHeld1
         clear hHeld1
         change wpAnyH _ _ _ _ _ _ _ (Act.put _ (some (84 : Nat)) (.slice (some ⟨gb, 0, none⟩) 1 1)) _
         simp only [Act.put, sq1, sq2, sq3]
         refine wpAnyH_ready (rs := [8]) (by kernel_rfl) (by simp) ?_
         refine AllReadyH.cons (o := ⟨some 77, .call ⟨.builtin .append, #[.tmp 70, .tmp 76], #[36, 36]⟩, _, _, _, none⟩) rfl (fun K hK => ?_) AllReadyH.nil
         refine step_append_sl rfl Try.el_ps (.tmp 70) (.tmp 76) rfl wc.drew.heap.size (.slice (some ⟨gm, 0, none⟩) 0 0) [] rfl HO_14_15.out B i d TP rfl (HTp.out.through hHeld) HTpk.out HTp1.out (by simp; omega) HS15.out ?_; intro A8 n8 c8 u8 hn9 ho9 hg9; rw [List.nil_append] at hn9 ho9; have HO8 := Lib.hid ho9; have HBx_15_8 := Lib.hid (HBx_15.out.apart HO_14_15.out (by decide) hg9); have HE_8 := Lib.hid (HE.out.grown hg9 (fun e => by have h9 := (HO_14.out.lt gb e.symm).2; have := HGb.out; omega)); have X8 := Lib.hid (hHeld.grown hg9 hHeld.size (fun b hb => Nat.le_trans HLow.out (HO_14_15.out.lt b hb).1)); have HS8 := Lib.hid (Nat.le_trans HS15.out hg9.size); clear hn9 ho9 hg9
         refine hK.out _ _ X8.out (fun hHeld1 => ?_)
         clear hHeld hK K
         have hHeld := hHeld1
         clear hHeld1
         change wpAnyH _ _ _ _ _ _ _ (Act.put _ (some (77 : Nat)) (.slice A8 n8 c8)) _
         simp only [Act.put, sq1, sq2, sq3]
         refine wpAnyH_ready (rs := [16]) (by kernel_rfl) (by simp) ?_
         refine AllReadyH.cons (o := ⟨some 85, .call ⟨.builtin .append, #[.tmp 77, .tmp 84], #[36, 36]⟩, _, _, _, none⟩) rfl (fun K hK => ?_) AllReadyH.nil
         refine step_append_el rfl Try.el_ps (.tmp 77) (.tmp 84) rfl wc.drew.heap.size (.slice A8 n8 c8) TP rfl HO8.out gb [(.pointer (some ⟨gx, 0, none⟩))] rfl HE_8.out rfl (by simp [Value.oneCell']) (by rw [HTpn.out]; omega) HS8.out ?_; intro A16 n16 c16 u16 hn9 ho9 hg9; have HO16 := Lib.hid ho9; have HBx_15_8_16 := Lib.hid (HBx_15_8.out.apart HO8.out (by decide) hg9); have X16 := Lib.hid (hHeld.grown hg9 hHeld.size (fun b hb => Nat.le_trans HLow.out (HO8.out.lt b hb).1)); have HS16 := Lib.hid (Nat.le_trans HS8.out hg9.size); clear hn9 ho9 hg9
         refine hK.out _ _ X16.out (fun hHeld1 => ?_)
         clear hHeld hK K
         have hHeld := hHeld1
         clear hHeld1
         change wpAnyH _ _ _ _ _ _ _ (Act.put _ (some (85 : Nat)) (.slice A16 n16 c16)) _
         simp only [Act.put, sq1, sq2, sq3]
         refine wpAnyH_ready (rs := [23]) (by kernel_rfl) (by simp) ?_
         refine AllReadyH.cons (o := ⟨some 92, .call ⟨.builtin .append, #[.tmp 85, .tmp 91], #[36, 36]⟩, _, _, _, none⟩) rfl (fun K hK => ?_) AllReadyH.nil
         refine step_append_sl rfl Try.el_ps (.tmp 85) (.tmp 91) rfl wc.drew.heap.size (.slice A16 n16 c16) (TP ++ [[(.pointer (some ⟨gx, 0, none⟩))]]) rfl HO16.out B4 (f.length - i) (d - i) DP rfl (HDp.out.through hHeld) HDpk.out HDp1.out (by simp [HTpn.out]; omega) HS16.out ?_; intro A9 n9 c9 u23 hn9 ho9 hg9; have HO23 := Lib.hid (ho9.weak HLow.out); have HN9 := Lib.hid hn9; have HBx_15_8_16_23 := Lib.hid (HBx_15_8_16.out.apart HO16.out (by decide) hg9); have X23 := Lib.hid (hHeld.grown hg9 hHeld.size (fun b hb => Nat.le_trans HLow.out (HO16.out.lt b hb).1)); have HS23 := Lib.hid (Nat.le_trans HS16.out hg9.size); have HBz := HBx_15_8_16_23; clear hn9 ho9 hg9
         refine hK.out _ _ X23.out (fun hHeld1 => ?_)
         clear hHeld hK K
         have hHeld := hHeld1
         clear hHeld1
         change wpAnyH _ _ _ _ _ _ _ (Act.put _ (some (92 : Nat)) (.slice A9 n9 c9)) _
         simp only [Act.put, sq1, sq2, sq3]
         refine tkq (i := 24) (d := 93) (v := (.pointer (some ⟨L, 0, none⟩))) rfl rfl (Or.inl ⟨by kernel_rfl, fun w hSw => ?_⟩) (by assumption) ?_
         ·(try dsimp only at hSw); go_simp <;> (try rfl)
         simp only [Act.put, sq1, sq2, sq3]
         refine tkq (i := 25) (d := 94) (v := (.pointer (some ⟨L, 3, none⟩))) rfl rfl (Or.inl ⟨by kernel_rfl, fun w hSw => ?_⟩) (by assumption) ?_
         ·(try dsimp only at hSw); go_simp <;> (try rfl)
         simp only [Act.put, sq1, sq2, sq3]
         refine wpAnyH_done (by kernel_rfl) ?_ _
         refine tail_go (o := ⟨none, .store 36 (.tmp 94) (.tmp 92), _, _, _, none⟩) rfl ?_
         obtain rfl : n9 = f.length + 1 := by (rw [HN9.out]; have h1 := HTpn.out; have h2 := HDp.out.len; simp only [List.length_append, List.length_cons, List.length_nil]; omega)
         refine step_store_cell (by kernel_rfl) 36 (.tmp 94) (.tmp 92) rfl L 3 rfl (.slice A9 (f.length + 1) c9) rfl rfl rfl Try.sz_ps 38 (lgC n low (.slice A7 (f.length + 1) c7) (.slice B f.length d)) (HB7.out.through X23.out) (by simp [lgC]) ?_
         intro w9 hb7 hg7
         have HB9 : Hid (Blk w9 L 38 (lgC n low (.slice A7 (f.length + 1) c7) (.slice A9 (f.length + 1) c9))) := Lib.hid hb7
         have HF9 : Hid (Ft (fun b => b = L) wc w9) := Lib.hid ((Ft.of_below X23.out).trans (D' := fun b => b = L) (ft_one hg7) (fun _ h => .inl h))
         have HO9 := Lib.hid (HO23.out.far hg7 HB7.out.lt)
         have HBy := Lib.hid (HBz.out.grown hg7 (fun e => by have := Option.some.inj e; have := HGx.out; have := HB7.out.lt; omega))
         clear hb7 hg7
         go_wp2_with fail
         go_meet
         exact ⟨A9, c9, gx, HB9.out, HO9.out, HBy.out, HGx.out, HF9.out⟩
      ·as_aux_lemma =>
       refine step_box_ rfl 57 (.tmp 82) rfl (slC (Slt.no n) (.slice none 0 0) (.slice none 0 0) (.slice none 0 0)) rfl (fun W => Try.box_s8 n W) ?_; intro gx u14 hn0 hx0 hb0; have HBx := Lib.hid hx0; have HGx := Lib.hid (Nat.le_trans hHeld.size hn0); have X14 := Lib.hid (below_step hHeld hb0); clear hn0 hx0 hb0
       refine hK.out _ _ X14.out (fun hHeld1 => ?_)
       clear hHeld hK K
       have hHeld := hHeld1
       clear hHeld1
       change wpAnyH _ _ _ _ _ _ _ (Act.put _ (some (83 : Nat)) (.pointer (some ⟨gx, 0, none⟩))) _
       simp only [Act.put, sq1, sq2, sq3]
       refine wpAnyH_ready (rs := [1, 15]) (by kernel_rfl) (by simp) ?_
       refine AllReadyH.cons (o := ⟨some 70, .buildSlice 36 0 #[], _, _, _, none⟩) rfl (fun K hK => ?_) (AllReadyH.cons (o := ⟨some 84, .buildSlice 36 1 #[(0, .tmp 83)], _, _, _, none⟩) rfl (fun K hK => ?_) AllReadyH.nil)
       ·as_aux_lemma =>
        have HLow := Lib.hid hHeld.size; refine step_mk_ (B := u14.heap.size) (e := 43) (k := 1) rfl rfl (Try.empty_ps _ _ rfl) (Nat.le_refl _) ?_; intro gm u1 hn0 ho0 hb0; have HO := Lib.hid ho0; have HS1 := Lib.hid hb0.size; have X1 := Lib.hid (below_step hHeld hb0); have HBx_1 := Lib.hid (HBx.out.through hb0); clear hn0 ho0 hb0
        refine hK.out _ _ X1.out (fun hHeld1 => ?_)
        clear hHeld hK K
        have hHeld := hHeld1
        clear hHeld1
        change wpAnyH _ _ _ _ _ _ _ (Act.put _ (some (70 : Nat)) (.slice (some ⟨gm, 0, none⟩) 0 0)) _
        simp only [Act.put, sq1, sq2, sq3]
        refine wpAnyH_ready (rs := [8, 15]) (by kernel_rfl) (by simp) ?_
        refine AllReadyH.cons (o := ⟨some 77, .call ⟨.builtin .append, #[.tmp 70, .tmp 76], #[36, 36]⟩, _, _, _, none⟩) rfl (fun K hK => ?_) (AllReadyH.cons (o := ⟨some 84, .buildSlice 36 1 #[(0, .tmp 83)], _, _, _, none⟩) rfl (fun K hK => ?_) AllReadyH.nil)
        ·as_aux_lemma =>
         refine step_append_sl rfl Try.el_ps (.tmp 70) (.tmp 76) rfl u14.heap.size (.slice (some ⟨gm, 0, none⟩) 0 0) [] rfl HO.out B i d TP rfl (HTp.out.through hHeld) HTpk.out HTp1.out (by simp; omega) HS1.out ?_; intro A8 n8 c8 u8 hn9 ho9 hg9; rw [List.nil_append] at hn9 ho9; have HO8 := Lib.hid ho9; have HBx_1_8 := Lib.hid (HBx_1.out.apart HO.out (by decide) hg9); have X8 := Lib.hid (hHeld.grown hg9 hHeld.size (fun b hb => Nat.le_trans HLow.out (HO.out.lt b hb).1)); have HS8 := Lib.hid (Nat.le_trans HS1.out hg9.size); clear hn9 ho9 hg9
         refine hK.out _ _ X8.out (fun hHeld1 => ?_)
         clear hHeld hK K
         have hHeld := hHeld1
         clear hHeld1
         change wpAnyH _ _ _ _ _ _ _ (Act.put _ (some (77 : Nat)) (.slice A8 n8 c8)) _
         simp only [Act.put, sq1, sq2, sq3]
         refine wpAnyH_ready (rs := [15]) (by kernel_rfl) (by simp) ?_
         refine AllReadyH.cons (o := ⟨some 84, .buildSlice 36 1 #[(0, .tmp 83)], _, _, _, none⟩) rfl (fun K hK => ?_) AllReadyH.nil
         refine step_build_one_ rfl 36 43 (.tmp 83) rfl (.pointer (some ⟨gx, 0, none⟩)) rfl (fun W => Try.one_ps gx W) ?_; intro gb u15 hn0 he0 hb0; have HE := Lib.hid he0; have HGb := Lib.hid hn0; have X15 := Lib.hid (below_step hHeld hb0); have HO8_15 := Lib.hid (HO8.out.through hb0); have HS15 := Lib.hid (Nat.le_trans HS8.out hb0.size); have HBx_1_8_15 := Lib.hid (HBx_1_8.out.through hb0); clear hn0 he0 hb0
         refine hK.out _ _ X15.out (fun hHeld1 => ?_)
         clear hHeld hK K
         have hHeld := hHeld1
         clear hHeld1
         change wpAnyH _ _ _ _ _ _ _ (Act.put _ (some (84 : Nat)) (.slice (some ⟨gb, 0, none⟩) 1 1)) _
         simp only [Act.put, sq1, sq2, sq3]
         refine wpAnyH_ready (rs := [16]) (by kernel_rfl) (by simp) ?_
         refine AllReadyH.cons (o := ⟨some 85, .call ⟨.builtin .append, #[.tmp 77, .tmp 84], #[36, 36]⟩, _, _, _, none⟩) rfl (fun K hK => ?_) AllReadyH.nil
         refine step_append_el rfl Try.el_ps (.tmp 77) (.tmp 84) rfl u14.heap.size (.slice A8 n8 c8) TP rfl HO8_15.out gb [(.pointer (some ⟨gx, 0, none⟩))] rfl HE.out rfl (by simp [Value.oneCell']) (by rw [HTpn.out]; omega) HS15.out ?_; intro A16 n16 c16 u16 hn9 ho9 hg9; have HO16 := Lib.hid ho9; have HBx_1_8_15_16 := Lib.hid (HBx_1_8_15.out.apart HO8_15.out (by decide) hg9); have X16 := Lib.hid (hHeld.grown hg9 hHeld.size (fun b hb => Nat.le_trans HLow.out (HO8_15.out.lt b hb).1)); have HS16 := Lib.hid (Nat.le_trans HS15.out hg9.size); clear hn9 ho9 hg9
         refine hK.out _ _ X16.out (fun hHeld1 => ?_)
         clear hHeld hK K
         have hHeld := hHeld1
         clear hHeld1
         change wpAnyH _ _ _ _ _ _ _ (Act.put _ (some (85 : Nat)) (.slice A16 n16 c16)) _
         simp only [Act.put, sq1, sq2, sq3]
         refine wpAnyH_ready (rs := [23]) (by kernel_rfl) (by simp) ?_
         refine AllReadyH.cons (o := ⟨some 92, .call ⟨.builtin .append, #[.tmp 85, .tmp 91], #[36, 36]⟩, _, _, _, none⟩) rfl (fun K hK => ?_) AllReadyH.nil
         refine step_append_sl rfl Try.el_ps (.tmp 85) (.tmp 91) rfl u14.heap.size (.slice A16 n16 c16) (TP ++ [[(.pointer (some ⟨gx, 0, none⟩))]]) rfl HO16.out B4 (f.length - i) (d - i) DP rfl (HDp.out.through hHeld) HDpk.out HDp1.out (by simp [HTpn.out]; omega) HS16.out ?_; intro A9 n9 c9 u23 hn9 ho9 hg9; have HO23 := Lib.hid (ho9.weak HLow.out); have HN9 := Lib.hid hn9; have HBx_1_8_15_16_23 := Lib.hid (HBx_1_8_15_16.out.apart HO16.out (by decide) hg9); have X23 := Lib.hid (hHeld.grown hg9 hHeld.size (fun b hb => Nat.le_trans HLow.out (HO16.out.lt b hb).1)); have HS23 := Lib.hid (Nat.le_trans HS16.out hg9.size); have HBz := HBx_1_8_15_16_23; clear hn9 ho9 hg9
         refine hK.out _ _ X23.out (fun hHeld1 => ?_)
         clear hHeld hK K
         have hHeld := hHeld1
         clear hHeld1
         change wpAnyH _ _ _ _ _ _ _ (Act.put _ (some (92 : Nat)) (.slice A9 n9 c9)) _
         simp only [Act.put, sq1, sq2, sq3]
         refine tkq (i := 24) (d := 93) (v := (.pointer (some ⟨L, 0, none⟩))) rfl rfl (Or.inl ⟨by kernel_rfl, fun w hSw => ?_⟩) (by assumption) ?_
         ·(try dsimp only at hSw); go_simp <;> (try rfl)
         simp only [Act.put, sq1, sq2, sq3]
         refine tkq (i := 25) (d := 94) (v := (.pointer (some ⟨L, 3, none⟩))) rfl rfl (Or.inl ⟨by kernel_rfl, fun w hSw => ?_⟩) (by assumption) ?_
         ·(try dsimp only at hSw); go_simp <;> (try rfl)
         simp only [Act.put, sq1, sq2, sq3]
         refine wpAnyH_done (by kernel_rfl) ?_ _
         refine tail_go (o := ⟨none, .store 36 (.tmp 94) (.tmp 92), _, _, _, none⟩) rfl ?_
         obtain rfl : n9 = f.length + 1 := by (rw [HN9.out]; have h1 := HTpn.out; have h2 := HDp.out.len; simp only [List.length_append, List.length_cons, List.length_nil]; omega)
         refine step_store_cell (by kernel_rfl) 36 (.tmp 94) (.tmp 92) rfl L 3 rfl (.slice A9 (f.length + 1) c9) rfl rfl rfl Try.sz_ps 38 (lgC n low (.slice A7 (f.length + 1) c7) (.slice B f.length d)) (HB7.out.through X23.out) (by simp [lgC]) ?_
         intro w9 hb7 hg7
         have HB9 : Hid (Blk w9 L 38 (lgC n low (.slice A7 (f.length + 1) c7) (.slice A9 (f.length + 1) c9))) := Lib.hid hb7
         have HF9 : Hid (Ft (fun b => b = L) wc w9) := Lib.hid ((Ft.of_below X23.out).trans (D' := fun b => b = L) (ft_one hg7) (fun _ h => .inl h))
         have HO9 := Lib.hid (HO23.out.far hg7 HB7.out.lt)
         have HBy := Lib.hid (HBz.out.grown hg7 (fun e => by have := Option.some.inj e; have := HGx.out; have := HB7.out.lt; omega))
         clear hb7 hg7
         go_wp2_with fail
         go_meet
         exact ⟨A9, c9, gx, HB9.out, HO9.out, HBy.out, HGx.out, HF9.out⟩
        ·as_aux_lemma =>
         refine step_build_one_ rfl 36 43 (.tmp 83) rfl (.pointer (some ⟨gx, 0, none⟩)) rfl (fun W => Try.one_ps gx W) ?_; intro gb u15 hn0 he0 hb0; have HE := Lib.hid he0; have HGb := Lib.hid hn0; have X15 := Lib.hid (below_step hHeld hb0); have HO_15 := Lib.hid (HO.out.through hb0); have HS15 := Lib.hid (Nat.le_trans HS1.out hb0.size); have HBx_1_15 := Lib.hid (HBx_1.out.through hb0); clear hn0 he0 hb0
         refine hK.out _ _ X15.out (fun hHeld1 => ?_)
         clear hHeld hK K
         have hHeld := hHeld1
         clear hHeld1
         change wpAnyH _ _ _ _ _ _ _ (Act.put _ (some (84 : Nat)) (.slice (some ⟨gb, 0, none⟩) 1 1)) _
         simp only [Act.put, sq1, sq2, sq3]
         refine wpAnyH_ready (rs := [8]) (by kernel_rfl) (by simp) ?_
         refine AllReadyH.cons (o := ⟨some 77, .call ⟨.builtin .append, #[.tmp 70, .tmp 76], #[36, 36]⟩, _, _, _, none⟩) rfl (fun K hK => ?_) AllReadyH.nil
         refine step_append_sl rfl Try.el_ps (.tmp 70) (.tmp 76) rfl u14.heap.size (.slice (some ⟨gm, 0, none⟩) 0 0) [] rfl HO_15.out B i d TP rfl (HTp.out.through hHeld) HTpk.out HTp1.out (by simp; omega) HS15.out ?_; intro A8 n8 c8 u8 hn9 ho9 hg9; rw [List.nil_append] at hn9 ho9; have HO8 := Lib.hid ho9; have HBx_1_15_8 := Lib.hid (HBx_1_15.out.apart HO_15.out (by decide) hg9); have HE_8 := Lib.hid (HE.out.grown hg9 (fun e => by have h9 := (HO.out.lt gb e.symm).2; have := HGb.out; omega)); have X8 := Lib.hid (hHeld.grown hg9 hHeld.size (fun b hb => Nat.le_trans HLow.out (HO_15.out.lt b hb).1)); have HS8 := Lib.hid (Nat.le_trans HS15.out hg9.size); clear hn9 ho9 hg9
         refine hK.out _ _ X8.out (fun hHeld1 => ?_)
         clear hHeld hK K
         have hHeld := hHeld1
         clear hHeld1
         change wpAnyH _ _ _ _ _ _ _ (Act.put _ (some (77 : Nat)) (.slice A8 n8 c8)) _
         simp only [Act.put, sq1, sq2, sq3]
         refine wpAnyH_ready (rs := [16]) (by kernel_rfl) (by simp) ?_
         refine AllReadyH.cons (o := ⟨some 85, .call ⟨.builtin .append, #[.tmp 77, .tmp 84], #[36, 36]⟩, _, _, _, none⟩) rfl (fun K hK => ?_) AllReadyH.nil
         refine step_append_el rfl Try.el_ps (.tmp 77) (.tmp 84) rfl u14.heap.size (.slice A8 n8 c8) TP rfl HO8.out gb [(.pointer (some ⟨gx, 0, none⟩))] rfl HE_8.out rfl (by simp [Value.oneCell']) (by rw [HTpn.out]; omega) HS8.out ?_; intro A16 n16 c16 u16 hn9 ho9 hg9; have HO16 := Lib.hid ho9; have HBx_1_15_8_16 := Lib.hid (HBx_1_15_8.out.apart HO8.out (by decide) hg9); have X16 := Lib.hid (hHeld.grown hg9 hHeld.size (fun b hb => Nat.le_trans HLow.out (HO8.out.lt b hb).1)); have HS16 := Lib.hid (Nat.le_trans HS8.out hg9.size); clear hn9 ho9 hg9
         refine hK.out _ _ X16.out (fun hHeld1 => ?_)
         clear hHeld hK K
         have hHeld := hHeld1
         clear hHeld1
         change wpAnyH _ _ _ _ _ _ _ (Act.put _ (some (85 : Nat)) (.slice A16 n16 c16)) _
         simp only [Act.put, sq1, sq2, sq3]
         refine wpAnyH_ready (rs := [23]) (by kernel_rfl) (by simp) ?_
         refine AllReadyH.cons (o := ⟨some 92, .call ⟨.builtin .append, #[.tmp 85, .tmp 91], #[36, 36]⟩, _, _, _, none⟩) rfl (fun K hK => ?_) AllReadyH.nil
         refine step_append_sl rfl Try.el_ps (.tmp 85) (.tmp 91) rfl u14.heap.size (.slice A16 n16 c16) (TP ++ [[(.pointer (some ⟨gx, 0, none⟩))]]) rfl HO16.out B4 (f.length - i) (d - i) DP rfl (HDp.out.through hHeld) HDpk.out HDp1.out (by simp [HTpn.out]; omega) HS16.out ?_; intro A9 n9 c9 u23 hn9 ho9 hg9; have HO23 := Lib.hid (ho9.weak HLow.out); have HN9 := Lib.hid hn9; have HBx_1_15_8_16_23 := Lib.hid (HBx_1_15_8_16.out.apart HO16.out (by decide) hg9); have X23 := Lib.hid (hHeld.grown hg9 hHeld.size (fun b hb => Nat.le_trans HLow.out (HO16.out.lt b hb).1)); have HS23 := Lib.hid (Nat.le_trans HS16.out hg9.size); have HBz := HBx_1_15_8_16_23; clear hn9 ho9 hg9
         refine hK.out _ _ X23.out (fun hHeld1 => ?_)
         clear hHeld hK K
         have hHeld := hHeld1
         clear hHeld1
         change wpAnyH _ _ _ _ _ _ _ (Act.put _ (some (92 : Nat)) (.slice A9 n9 c9)) _
         simp only [Act.put, sq1, sq2, sq3]
         refine tkq (i := 24) (d := 93) (v := (.pointer (some ⟨L, 0, none⟩))) rfl rfl (Or.inl ⟨by kernel_rfl, fun w hSw => ?_⟩) (by assumption) ?_
         ·(try dsimp only at hSw); go_simp <;> (try rfl)
         simp only [Act.put, sq1, sq2, sq3]
         refine tkq (i := 25) (d := 94) (v := (.pointer (some ⟨L, 3, none⟩))) rfl rfl (Or.inl ⟨by kernel_rfl, fun w hSw => ?_⟩) (by assumption) ?_
         ·(try dsimp only at hSw); go_simp <;> (try rfl)
         simp only [Act.put, sq1, sq2, sq3]
         refine wpAnyH_done (by kernel_rfl) ?_ _
         refine tail_go (o := ⟨none, .store 36 (.tmp 94) (.tmp 92), _, _, _, none⟩) rfl ?_
         obtain rfl : n9 = f.length + 1 := by (rw [HN9.out]; have h1 := HTpn.out; have h2 := HDp.out.len; simp only [List.length_append, List.length_cons, List.length_nil]; omega)
         refine step_store_cell (by kernel_rfl) 36 (.tmp 94) (.tmp 92) rfl L 3 rfl (.slice A9 (f.length + 1) c9) rfl rfl rfl Try.sz_ps 38 (lgC n low (.slice A7 (f.length + 1) c7) (.slice B f.length d)) (HB7.out.through X23.out) (by simp [lgC]) ?_
         intro w9 hb7 hg7
         have HB9 : Hid (Blk w9 L 38 (lgC n low (.slice A7 (f.length + 1) c7) (.slice A9 (f.length + 1) c9))) := Lib.hid hb7
         have HF9 : Hid (Ft (fun b => b = L) wc w9) := Lib.hid ((Ft.of_below X23.out).trans (D' := fun b => b = L) (ft_one hg7) (fun _ h => .inl h))
         have HO9 := Lib.hid (HO23.out.far hg7 HB7.out.lt)
         have HBy := Lib.hid (HBz.out.grown hg7 (fun e => by have := Option.some.inj e; have := HGx.out; have := HB7.out.lt; omega))
         clear hb7 hg7
         go_wp2_with fail
         go_meet
         exact ⟨A9, c9, gx, HB9.out, HO9.out, HBy.out, HGx.out, HF9.out⟩
       ·as_aux_lemma =>
        refine step_build_one_ rfl 36 43 (.tmp 83) rfl (.pointer (some ⟨gx, 0, none⟩)) rfl (fun W => Try.one_ps gx W) ?_; intro gb u15 hn0 he0 hb0; have HE := Lib.hid he0; have HGb := Lib.hid hn0; have X15 := Lib.hid (below_step hHeld hb0); have HBx_15 := Lib.hid (HBx.out.through hb0); clear hn0 he0 hb0
        refine hK.out _ _ X15.out (fun hHeld1 => ?_)
        clear hHeld hK K
        have hHeld := hHeld1
        clear hHeld1
        change wpAnyH _ _ _ _ _ _ _ (Act.put _ (some (84 : Nat)) (.slice (some ⟨gb, 0, none⟩) 1 1)) _
        simp only [Act.put, sq1, sq2, sq3]
        refine wpAnyH_ready (rs := [1]) (by kernel_rfl) (by simp) ?_
        refine AllReadyH.cons (o := ⟨some 70, .buildSlice 36 0 #[], _, _, _, none⟩) rfl (fun K hK => ?_) AllReadyH.nil
        have HLow := Lib.hid hHeld.size; have HElt := Lib.hid HE.out.lt; refine step_mk_ (B := u15.heap.size) (e := 43) (k := 1) rfl rfl (Try.empty_ps _ _ rfl) (Nat.le_refl _) ?_; intro gm u1 hn0 ho0 hb0; have HO := Lib.hid ho0; have HS1 := Lib.hid hb0.size; have X1 := Lib.hid (below_step hHeld hb0); have HBx_15_1 := Lib.hid (HBx_15.out.through hb0); have HE_1 := Lib.hid (HE.out.through hb0); clear hn0 ho0 hb0
        refine hK.out _ _ X1.out (fun hHeld1 => ?_)
        clear hHeld hK K
        have hHeld := hHeld1
        clear hHeld1
        change wpAnyH _ _ _ _ _ _ _ (Act.put _ (some (70 : Nat)) (.slice (some ⟨gm, 0, none⟩) 0 0)) _
        simp only [Act.put, sq1, sq2, sq3]
        refine wpAnyH_ready (rs := [8]) (by kernel_rfl) (by simp) ?_
        refine AllReadyH.cons (o := ⟨some 77, .call ⟨.builtin .append, #[.tmp 70, .tmp 76], #[36, 36]⟩, _, _, _, none⟩) rfl (fun K hK => ?_) AllReadyH.nil
        refine step_append_sl rfl Try.el_ps (.tmp 70) (.tmp 76) rfl u15.heap.size (.slice (some ⟨gm, 0, none⟩) 0 0) [] rfl HO.out B i d TP rfl (HTp.out.through hHeld) HTpk.out HTp1.out (by simp; omega) HS1.out ?_; intro A8 n8 c8 u8 hn9 ho9 hg9; rw [List.nil_append] at hn9 ho9; have HO8 := Lib.hid ho9; have HBx_15_1_8 := Lib.hid (HBx_15_1.out.apart HO.out (by decide) hg9); have HE_1_8 := Lib.hid (HE_1.out.grown hg9 (fun e => by have h9 := (HO.out.lt gb e.symm).1; have := HElt.out; omega)); have X8 := Lib.hid (hHeld.grown hg9 hHeld.size (fun b hb => Nat.le_trans HLow.out (HO.out.lt b hb).1)); have HS8 := Lib.hid (Nat.le_trans HS1.out hg9.size); clear hn9 ho9 hg9
        refine hK.out _ _ X8.out (fun hHeld1 => ?_)
        clear hHeld hK K
        have hHeld := hHeld1
        clear hHeld1
        change wpAnyH _ _ _ _ _ _ _ (Act.put _ (some (77 : Nat)) (.slice A8 n8 c8)) _
        simp only [Act.put, sq1, sq2, sq3]
        refine wpAnyH_ready (rs := [16]) (by kernel_rfl) (by simp) ?_
        refine AllReadyH.cons (o := ⟨some 85, .call ⟨.builtin .append, #[.tmp 77, .tmp 84], #[36, 36]⟩, _, _, _, none⟩) rfl (fun K hK => ?_) AllReadyH.nil
        refine step_append_el rfl Try.el_ps (.tmp 77) (.tmp 84) rfl u15.heap.size (.slice A8 n8 c8) TP rfl HO8.out gb [(.pointer (some ⟨gx, 0, none⟩))] rfl HE_1_8.out rfl (by simp [Value.oneCell']) (by rw [HTpn.out]; omega) HS8.out ?_; intro A16 n16 c16 u16 hn9 ho9 hg9; have HO16 := Lib.hid ho9; have HBx_15_1_8_16 := Lib.hid (HBx_15_1_8.out.apart HO8.out (by decide) hg9); have X16 := Lib.hid (hHeld.grown hg9 hHeld.size (fun b hb => Nat.le_trans HLow.out (HO8.out.lt b hb).1)); have HS16 := Lib.hid (Nat.le_trans HS8.out hg9.size); clear hn9 ho9 hg9
        refine hK.out _ _ X16.out (fun hHeld1 => ?_)
        clear hHeld hK K
        have hHeld := hHeld1
        clear hHeld1
        change wpAnyH _ _ _ _ _ _ _ (Act.put _ (some (85 : Nat)) (.slice A16 n16 c16)) _
        simp only [Act.put, sq1, sq2, sq3]
        refine wpAnyH_ready (rs := [23]) (by kernel_rfl) (by simp) ?_
        refine AllReadyH.cons (o := ⟨some 92, .call ⟨.builtin .append, #[.tmp 85, .tmp 91], #[36, 36]⟩, _, _, _, none⟩) rfl (fun K hK => ?_) AllReadyH.nil
        refine step_append_sl rfl Try.el_ps (.tmp 85) (.tmp 91) rfl u15.heap.size (.slice A16 n16 c16) (TP ++ [[(.pointer (some ⟨gx, 0, none⟩))]]) rfl HO16.out B4 (f.length - i) (d - i) DP rfl (HDp.out.through hHeld) HDpk.out HDp1.out (by simp [HTpn.out]; omega) HS16.out ?_; intro A9 n9 c9 u23 hn9 ho9 hg9; have HO23 := Lib.hid (ho9.weak HLow.out); have HN9 := Lib.hid hn9; have HBx_15_1_8_16_23 := Lib.hid (HBx_15_1_8_16.out.apart HO16.out (by decide) hg9); have X23 := Lib.hid (hHeld.grown hg9 hHeld.size (fun b hb => Nat.le_trans HLow.out (HO16.out.lt b hb).1)); have HS23 := Lib.hid (Nat.le_trans HS16.out hg9.size); have HBz := HBx_15_1_8_16_23; clear hn9 ho9 hg9
        refine hK.out _ _ X23.out (fun hHeld1 => ?_)
        clear hHeld hK K
        have hHeld := hHeld1
        clear hHeld1
        change wpAnyH _ _ _ _ _ _ _ (Act.put _ (some (92 : Nat)) (.slice A9 n9 c9)) _
        simp only [Act.put, sq1, sq2, sq3]
        refine tkq (i := 24) (d := 93) (v := (.pointer (some ⟨L, 0, none⟩))) rfl rfl (Or.inl ⟨by kernel_rfl, fun w hSw => ?_⟩) (by assumption) ?_
        ·(try dsimp only at hSw); go_simp <;> (try rfl)
        simp only [Act.put, sq1, sq2, sq3]
        refine tkq (i := 25) (d := 94) (v := (.pointer (some ⟨L, 3, none⟩))) rfl rfl (Or.inl ⟨by kernel_rfl, fun w hSw => ?_⟩) (by assumption) ?_
        ·(try dsimp only at hSw); go_simp <;> (try rfl)
        simp only [Act.put, sq1, sq2, sq3]
        refine wpAnyH_done (by kernel_rfl) ?_ _
        refine tail_go (o := ⟨none, .store 36 (.tmp 94) (.tmp 92), _, _, _, none⟩) rfl ?_
        obtain rfl : n9 = f.length + 1 := by (rw [HN9.out]; have h1 := HTpn.out; have h2 := HDp.out.len; simp only [List.length_append, List.length_cons, List.length_nil]; omega)
        refine step_store_cell (by kernel_rfl) 36 (.tmp 94) (.tmp 92) rfl L 3 rfl (.slice A9 (f.length + 1) c9) rfl rfl rfl Try.sz_ps 38 (lgC n low (.slice A7 (f.length + 1) c7) (.slice B f.length d)) (HB7.out.through X23.out) (by simp [lgC]) ?_
        intro w9 hb7 hg7
        have HB9 : Hid (Blk w9 L 38 (lgC n low (.slice A7 (f.length + 1) c7) (.slice A9 (f.length + 1) c9))) := Lib.hid hb7
        have HF9 : Hid (Ft (fun b => b = L) wc w9) := Lib.hid ((Ft.of_below X23.out).trans (D' := fun b => b = L) (ft_one hg7) (fun _ h => .inl h))
        have HO9 := Lib.hid (HO23.out.far hg7 HB7.out.lt)
        have HBy := Lib.hid (HBz.out.grown hg7 (fun e => by have := Option.some.inj e; have := HGx.out; have := HB7.out.lt; omega))
        clear hb7 hg7
        go_wp2_with fail
        go_meet
        exact ⟨A9, c9, gx, HB9.out, HO9.out, HBy.out, HGx.out, HF9.out⟩
     case rest =>
      obtain ⟨A9, c9, gx, hb9, ho9, hbx, hgx, hf9⟩ := hcut
      have e1 : TI ++ [[.int .i64 q]] ++ DI = ((insF f i ⟨q, .pointer (some ⟨gx, 0, none⟩), fun b => b = gx, Slt.no n⟩).map Fr.q).map qC := by
       rw [← HTIe.out, ← HDIe.out]
       unfold insF
       simp [List.map_append, List.map_take, List.map_drop, qC]
      have e2 : TP ++ [[.pointer (some ⟨gx, 0, none⟩)]] ++ DP = ((insF f i ⟨q, .pointer (some ⟨gx, 0, none⟩), fun b => b = gx, Slt.no n⟩).map Fr.v).map vC := by
       rw [← HTPe.out, ← HDPe.out]
       unfold insF
       simp [List.map_append, List.map_take, List.map_drop, vC]
      obtain ⟨hD, hr7, hr9, hfd⟩ := at_ins HH.out hi HF7.out hf9 e1 e2 HO7.out ho9 hb9 hbx hgx
      have hil := insF_len (x := ⟨q, .pointer (some ⟨gx, 0, none⟩), fun b => b = gx, Slt.no n⟩) hi
      have hix9 : (insF f i ⟨q, .pointer (some ⟨gx, 0, none⟩), fun b => b = gx, Slt.no n⟩)[i]? = some ⟨q, .pointer (some ⟨gx, 0, none⟩), fun b => b = gx, Slt.no n⟩ := by
       unfold insF
       rw [List.getElem?_append_right (by rw [List.length_take]; omega), List.length_take, show i - min i f.length = 0 by omega]
       rfl
      obtain ⟨g1, o1, z, hz1, hz2, hc1⟩ := hD.pt.at (i := i) (by rw [hil]; omega)
      rw [List.getElem?_map, hix9] at hz2
      have hzv : z = .pointer (some ⟨gx, 0, none⟩) := by simpa using hz2.symm
      rw [hzv] at hc1
      have k3 := hb9.cellAt (i := 3) rfl
      rw [hz1] at k3
      have hix2 := fun (W : World) => Try.ix_ps W g1 o1 (f.length + 1) c9 i (by omega)
      have HOut : Hid (AtOut w L n low f A B q (.returned (.pointer (some ⟨gx, 0, none⟩))) _) := Lib.hid (at_out hD (insF_pair hi HBef.out HAt.out HNf.out rfl) ⟨⟨q, .pointer (some ⟨gx, 0, none⟩), fun b => b = gx, Slt.no n⟩, List.mem_of_getElem? hix9, rfl, rfl⟩ hfd (fun b hb => .inr (hr7 b (hil ▸ hb))) (fun b hb => .inr (Nat.le_trans HF7.out.size (hr9 b (hil ▸ hb)))) (HF7.out.trans (D' := fun b => b = L) hf9 (fun _ h => .inl h)))
      clear hb9 ho9 hbx hgx hf9 e1 e2 hD hr7 hr9 hfd hil hix9 hz1 hz2 hzv
      go_wp2
      go_ret
      exact HOut.out

end Go.Proofs.Ytponmfkddglopaa
