/-
  Joined: TpM.
-/
import Derived.Test.YtkpgjcahmpekbaaTU32
import Derived.Test.YtkpgjcahmpekbaaTU37
import Derived.Test.YtkpgjcahmpekbaaTU43
namespace Go.Proofs.Ytkpgjcahmpekbaa
open Go.RowKit

abbrev Mb : Type := List (Int × UInt8)
def pm (M : Mb) : List (Int × (UInt8 × UInt8)) := M.map (fun p => (p.1, (p.2, 9)))
theorem pm_len (M : Mb) : (pm M).length = M.length := List.length_map ..
theorem pm_keys (M : Mb) : (pm M).map Prod.fst = M.map Prod.fst := by simp [pm, Function.comp_def]
theorem pm_get (q : Int) : ∀ M : Mb, getM q (pm M) = (getM q M).map (fun k => (k, 9))
 | [] => rfl
 | p :: l => by
  show (if q = p.1 then some (p.2, (9 : UInt8)) else getM q (pm l)) = (if q = p.1 then some p.2 else getM q l).map (fun k => (k, 9))
  by_cases h : q = p.1
  ·rw [if_pos h, if_pos h]; rfl
  ·rw [if_neg h, if_neg h]; exact pm_get q l
theorem pm_put (q : Int) (k : UInt8) : ∀ M : Mb, putM q (k, 9) (pm M) = pm (putM q k M)
 | [] => rfl
 | p :: l => by
  show (if q = p.1 then (q, (k, (9 : UInt8))) :: pm l else (p.1, (p.2, 9)) :: putM q (k, 9) (pm l)) = pm (if q = p.1 then (q, k) :: l else p :: putM q k l)
  by_cases h : q = p.1
  ·rw [if_pos h, if_pos h]; rfl
  ·rw [if_neg h, if_neg h, pm_put q k l]; rfl
theorem pm_add (q : Int) (k : UInt8) (M : Mb) : addM q (k, 9) (pm M) = pm (addM q k M) := by
 unfold addM
 rw [pm_get]
 cases getM q M with
 | none => exact pm_put q k M
 | some o => rfl
theorem pair_dec (o k : UInt8) : decide ((o, (9 : UInt8)) = (k, 9)) = decide (o = k) := by
 rw [Bool.eq_iff_iff, decide_eq_true_iff, decide_eq_true_iff]
 exact ⟨fun h => (Prod.mk.inj h).1, fun h => by rw [h]⟩
theorem pm_addB (q : Int) (k : UInt8) (M : Mb) : addB q (k, 9) (pm M) = addB q k M := by
 unfold addB
 rw [pm_get]
 cases getM q M with
 | none => rfl
 | some o => exact pair_dec o k
theorem pm_cnt (k : UInt8) : ∀ M : Mb, cntM (k, (9 : UInt8)) (pm M) = cntM k M
 | [] => rfl
 | p :: l => by
  show cntM (k, (9 : UInt8)) ((p.1, (p.2, (9 : UInt8))) :: pm l) = _
  rw [cnt_cons, cnt_cons, pm_cnt k l]
  by_cases h : k = p.2
  ·rw [if_pos h, if_pos (by rw [h])]
  ·rw [if_neg h, if_neg (fun e => h (Prod.mk.inj e).1)]
theorem pm_leastM (M : Mb) (at_ : Int) : ∀ l : List Int, (∀ a ∈ l, a ∈ M.map Prod.fst) → leastM (pm M) (0, 0) at_ l = (leastM M 0 at_ l).map (fun k => (k, 9))
 | [], _ => rfl
 | a :: l, h => by
  obtain ⟨o, ho⟩ : ∃ o, getM a M = some o := by
   cases h9 : getM a M with
   | none => exact absurd (h a (List.mem_cons_self ..)) (getM_none_iff.1 h9)
   | some o => exact ⟨o, rfl⟩
  unfold leastM
  rw [pm_get, ho]
  show (if at_ ≤ (cntM (o, (9 : UInt8)) (pm M) : Int) then some (o, (9 : UInt8)) else leastM (pm M) (0, 0) at_ l) = (if at_ ≤ (cntM o M : Int) then some o else leastM M 0 at_ l).map (fun k => (k, 9))
  rw [pm_cnt]
  split
  ·rfl
  ·exact pm_leastM M at_ l (fun b hb => h b (List.mem_cons_of_mem _ hb))
theorem pm_least (M : Mb) (at_ : Int) : leastT (pm M) (0, 0) at_ = (leastT M 0 at_).map (fun k => (k, 9)) := by
 unfold leastT
 split
 ·rfl
 ·rw [show sKeys (pm M) = sKeys M by unfold sKeys; rw [pm_keys]]
  exact pm_leastM M at_ _ (fun a ha => sKeys_mem ha)
theorem add_len {q : Int} {k : UInt8} {M : Mb} : (addM q k M).length ≤ M.length + 1 := by
 unfold addM
 split
 ·exact put_len _ _ _
 ·omega
theorem add_in {q : Int} {k : UInt8} {M : Mb} (h : ∀ p ∈ M, In64 p.1) (hw : In64 q) : ∀ p ∈ addM q k M, In64 p.1 := by
 unfold addM
 split
 ·intro p hp
  rcases mem_putM hp with rfl | hp
  ·exact hw
  ·exact h p hp
 ·exact h
theorem pm_in {M : Mb} (h : ∀ p ∈ M, In64 p.1) : ∀ p ∈ pm M, In64 p.1 := by
 intro p hp
 obtain ⟨q, hq, rfl⟩ := List.mem_map.1 hp
 exact h q hq
structure JN (w0 W : World) (g gv gc h hv hc : Nat) (M : Mb) (K : List (Int × (UInt8 × UInt8))) : Prop where
 a : TlR 107 encY (fun _ => True) W g gv gc M
 b : TlR 111 encP (fun _ => True) W h hv hc K
 be : Below w0.heap.size w0 W
 da : ∀ q, D3 g gv gc q → w0.heap.size ≤ q
 db : ∀ q, D3 h hv hc q → w0.heap.size ≤ q
 ap : ∀ q, D3 g gv gc q → ¬ D3 h hv hc q
section
variable {w0 W W' : World} {g gv gc h hv hc : Nat} {M M' : Mb} {K K' : List (Int × (UInt8 × UInt8))}
theorem JN.ona (j : JN w0 W g gv gc h hv hc M K) (h1 : TlR 107 encY (fun _ => True) W' g gv gc M') (h2 : Ft (D3 g gv gc) W W') : JN w0 W' g gv gc h hv hc M' K :=
 ⟨h1, j.b.keep (fun q hq => h2.block q (j.b.lt q hq) (fun h9 => j.ap q h9 hq)), h2.below j.be j.be.size j.da, j.da, j.db, j.ap⟩
theorem JN.onb (j : JN w0 W g gv gc h hv hc M K) (h1 : TlR 111 encP (fun _ => True) W' h hv hc K') (h2 : Ft (D3 h hv hc) W W') : JN w0 W' g gv gc h hv hc M K' :=
 ⟨j.a.keep (fun q hq => h2.block q (j.a.lt q hq) (fun h9 => j.ap q hq h9)), h1, h2.below j.be j.be.size j.db, j.da, j.db, j.ap⟩
theorem JN.through (j : JN w0 W g gv gc h hv hc M K) (hb : Below W.heap.size W W') : JN w0 W' g gv gc h hv hc M K := ⟨j.a.through hb, j.b.through hb, below_step j.be hb, j.da, j.db, j.ap⟩
theorem JN.first {w1 w2 : World} (h1 : Below w0.heap.size w0 w1) (ha : TlR 107 encY (fun _ => True) w2 g gv gc []) (hb : Below w1.heap.size w1 w2) (hd : ∀ q, D3 g gv gc q → w1.heap.size ≤ q)
  (ka : TlR 111 encP (fun _ => True) W h hv hc []) (kb : Below w2.heap.size w2 W) (kd : ∀ q, D3 h hv hc q → w2.heap.size ≤ q) : JN w0 W g gv gc h hv hc [] [] :=
 ⟨ha.through kb, ka, below_step (below_step h1 hb) kb, fun q hq => Nat.le_trans h1.size (hd q hq), fun q hq => Nat.le_trans (Nat.le_trans h1.size hb.size) (kd q hq), fun q hq h9 => by have := ha.lt q hq; have := kd q h9; omega⟩
end
theorem Try.bld_pr (v : UInt8) (w : World) : (Instr.build 57 #[(0, .int .u8 (v.toNat : Int)), (1, .int .u8 9)]).run Try.prog w = .ok (.agg (prC (v, 9)).toArray) w := by kernel_rfl
theorem wpList_build_to_g {P : Program} {ops : Array Oper} {rest : List Oper} {o : Oper} {a : Act} {w : World} {Q : Exit → Act → World → Prop} (t : TypeId) (parts : List (Nat × Operand)) (ho : o.op = .build t parts.toArray) (hw : Region.wanted o (yielded ops a.tmps) = true)
  (vals : List (Nat × Value)) (hv : (parts.map fun p => (p.1, a.eval p.2)) = vals) (v : Value) (hrun : (Instr.build t vals.toArray).run P w = .ok v w)
  (h : wpList P ops Q rest (a.put o.dst v) w) : wpList P ops Q (o :: rest) a w := by
 rw [wpList, if_pos hw]
 refine .inl ?_
 unfold Oper.wp execOp
 subst hv
 simp only [ho, Sem.run_bind, List.map_toArray, hrun, Result.andThen_ok]
 exact h

end Go.Proofs.Ytkpgjcahmpekbaa
