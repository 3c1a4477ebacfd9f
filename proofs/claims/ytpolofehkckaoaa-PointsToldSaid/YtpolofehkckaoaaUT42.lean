/-
  Joined: PwRg.
-/
import Derived.RangeFuncNested
import Derived.RangeFuncBox
import Derived.RangeFuncBound
import Derived.RangeFuncCalls
import Derived.RangeFuncLeaves
import Derived.Shelf.Abstract
import Derived.WalkKit
import Derived.OwnWalkIn
import Derived.TacticsInMore
import Derived.LoopNIn
import Derived.LoopIn
import Derived.OrdersIn
import Derived.Deep.RegionHeld
import Derived.Test.YtpolofehkckaoaaUT2
namespace Go.Proofs.Ytpolofehkckaoaa
open Go.RowKit Go.Shelf

section
variable {P : Program} {ops : Array Oper} {o : Oper} {Q : Exit → Act → World → Prop} {S : World → Prop} {a : Act} {w : World} {l n : Nat}
theorem calls_in {f : FuncId} {args : Array Value} {R : Ending → World → Prop} (h : Calls P f args w R) : CallsIn (Fence.wide.inRound l) n P f args w R := CallsIn.inRound l (callsIn_wide.2 h)
theorem rows_in {row : String} {args : Array Value} {R : Value → World → Prop} (h : Rows P row args w R) : RowsIn (Fence.wide.inRound l) n P row args w R := fun c cs _ => by
 obtain ⟨v, w', r, s⟩ := h c cs
 exact ⟨v, w', r, stepsIn_wide.2 s⟩
def isDefer : Op → Bool
 | .defer _ => true
 | _ => false
theorem oper_in {K K' : Act → World → Prop} (hd : isDefer o.op = false) (hK : ∀ a w, K a w → K' a w) (h : o.wp P a w K Q) : o.wpIn (Fence.wide.inRound l) n P a w K' Q := by
 refine ⟨fun _ _ => trivial, ?_⟩
 rw [show (Fence.wide.inRound l).round = some l from rfl, Oper.semAt_eq _ _ _ (fun c e => by rw [e] at hd; cases hd)]
 unfold Oper.wp at h
 generalize (execOp a.eval o).run P w = r at h ⊢
 cases r with
 | ok x w' =>
  cases x <;> simp only [Oper.upon, Oper.uponIn] at h ⊢ <;>
   first
    | exact hK _ _ h
    | exact h.elim
    | exact ⟨fun h9 => (by cases h9), calls_in (h.mono (fun e w'' he => by cases e <;> first | exact hK _ _ he | exact he))⟩
    | exact ⟨fun h9 => (by cases h9), rows_in (h.mono (fun v w'' he => hK _ _ he))⟩
 | halt x w' => cases x <;> simp only [Oper.upon, Oper.uponIn] at h ⊢ <;> first | exact h | exact h.elim
theorem ops_in (hd : ∀ o ∈ ops, isDefer o.op = false) (hQ : ¬ LetsOut Q) : ∀ (is : List Nat) (a : Act) (w : World), wpOps P ops Q is a w → wpOpsIn (Fence.wide.inRound l) n P ops Q is a w
 | [], _, _, h => h
 | i :: is, a, w, h => by
  unfold wpOps at h
  unfold wpOpsIn
  cases ho : ops[i]? with
  | none =>
   simp only [ho] at h ⊢
   exact ops_in hd hQ is a w h
  | some o =>
   simp only [ho] at h ⊢
   have hod := hd o (Array.mem_of_getElem? ho)
   split
   ·rename_i hw
    rw [if_pos hw] at h
    rcases h with h | h
    ·exact oper_in hod (fun a w => ops_in hd hQ is a w) h
    ·exact absurd h.2 hQ
   ·rename_i hw
    rw [if_neg hw] at h
    exact ⟨fun _ _ => trivial, ops_in hd hQ is _ w h⟩
theorem wpIn_region_held {id : Nat} (hm : P.follows .mixedOrders = true) (hd : (ops.all fun o => !isDefer o.op) = true) (hQ : ¬ LetsOut Q) (hS : S w.drew)
  (h : S w.drew → wpAnyH P .any ops Q S ops.size (Array.replicate ops.size false) a w.drew) : (Code.region id ops true).wpIn (Fence.wide.inRound l) n P Q a w :=
 wpIn_region_draw fun t => by
  simp only [Region.schedule, hm, Bool.true_or, if_true]
  refine ops_in (fun o ho => ?_) hQ _ _ _ (wpAny_sound ops.size t _ a _ (wpAny_of_held _ _ _ _ (h hS)))
  have := Array.all_eq_true_iff_forall_mem.1 hd o ho
  simpa using this
theorem no_out {Q' : Exit → Act → World → Prop} (h : ∀ a w, ¬ Q' .outgrown a w) : ¬ LetsOut Q' := fun ⟨a, w, h9⟩ => h a w h9
end

/-- the fences that we meet: none, and that of a round -/
def W2 (F : Fence) : Prop := F = Fence.wide ∨ ∃ l, F = Fence.wide.inRound l
theorem W2.wide : W2 Fence.wide := .inl rfl
theorem W2.round (l : Nat) : W2 (Fence.wide.inRound l) := .inr ⟨l, rfl⟩
section
variable {P : Program} {ops : Array Oper} {o : Oper} {rest : List Oper} {Q : Exit → Act → World → Prop} {a : Act} {w : World} {n : Nat} {F : Fence}
theorem oper_in0 {K K' : Act → World → Prop} (hK : ∀ a w, K a w → K' a w) (h : o.wp P a w K Q) : o.wpIn Fence.wide n P a w K' Q := by
 refine ⟨fun _ _ => trivial, ?_⟩
 rw [show Fence.wide.round = none from rfl, Oper.semAt_none]
 unfold Oper.wp at h
 generalize (execOp a.eval o).run P w = r at h ⊢
 cases r with
 | ok x w' =>
  cases x <;> simp only [Oper.upon, Oper.uponIn] at h ⊢ <;>
   first
    | exact hK _ _ h
    | exact h.elim
    | exact ⟨fun h9 => (by cases h9), callsIn_wide.2 (h.mono (fun e w'' he => by cases e <;> first | exact hK _ _ he | exact he))⟩
    | exact ⟨fun h9 => (by cases h9), (fun c cs _ => by obtain ⟨v, w', r, s⟩ := (h.mono (fun v w'' he => hK _ _ he)) c cs; exact ⟨v, w', r, stepsIn_wide.2 s⟩)⟩
 | halt x w' => cases x <;> simp only [Oper.upon, Oper.uponIn] at h ⊢ <;> first | exact h | exact h.elim
theorem wpListIn_op (hF : W2 F) (hg : o.guard = none) (hd : isDefer o.op = false) (h : ∀ K : Act → World → Prop, (∀ a w, wpListIn F n P ops Q rest a w → K a w) → o.wp P a w K Q) : wpListIn F n P ops Q (o :: rest) a w :=
 wpListIn_plain hg fun K hK => by
  rcases hF with rfl | ⟨l, rfl⟩
  ·exact oper_in0 hK (h _ (fun _ _ h => h))
  ·exact oper_in hd hK (h _ (fun _ _ h => h))
theorem wpListIn_load_p (hF : W2 F) (hg : o.guard = none) (ty : TypeId) (x : Operand) (ho : o.op = .load ty x) (p v : Value) (hx : a.eval x = p) (hrun : (Instr.loadAt ty p).run P w = .ok v w)
  (h : wpListIn F n P ops Q rest (a.put o.dst v) w) : wpListIn F n P ops Q (o :: rest) a w :=
 wpListIn_op hF hg (by rw [ho]; rfl) fun _ hK => by
  unfold Oper.wp execOp
  simp only [ho, hx, Sem.run_bind, hrun, Result.andThen_ok]
  exact hK _ _ h
theorem wpListIn_store_p (hF : W2 F) (hg : o.guard = none) (ty : TypeId) (x y : Operand) (ho : o.op = .store ty x y)
  (g : Nat) (cells : List Value) (hx : a.eval x = .pointer (some ⟨g, 0, none⟩)) (hy : a.eval y = .agg cells.toArray) (t : TypeId) (old : List Value) (hb : Blk w g t old) (hi : (P.info? ty).map (·.size) = some cells.length)
  (hold : old.length = cells.length) (h1 : cells.toArray.all (·.oneCell') = true)
  (h : ∀ w', Blk w' g t cells → w.grownBy w' (some g) → wpListIn F n P ops Q rest (a.put o.dst undef) w') : wpListIn F n P ops Q (o :: rest) a w :=
 wpListIn_op hF hg (by rw [ho]; rfl) fun K hK => by
  have h2 := step_store_blk (P := P) (ops := ops) (Q := Q) (E := False) (K := K) hg ty x y ho g cells hx hy t old hb hi hold h1 (fun w' h3 h4 => hK _ _ (h w' h3 h4))
  have hw : Region.wanted o (yielded ops a.tmps) = true := by simp [Region.wanted, hg]
  rw [if_pos hw] at h2
  exact h2
end

end Go.Proofs.Ytpolofehkckaoaa
