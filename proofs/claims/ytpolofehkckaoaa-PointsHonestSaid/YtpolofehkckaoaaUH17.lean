/-
  Joined: RgT.
-/
import Derived.StillTail
import Derived.Deep.RegionHeld
import Derived.Test.YtpolofehkckaoaaUH1
namespace Go.Proofs.Ytpolofehkckaoaa
open Go.RowKit

section
variable {P : Program} {ops : Array Oper} {md : Region.Mode} {Q Q' : Exit → Act → World → Prop} {S : World → Prop} {n : Nat}
theorem oper_wp_q {o : Oper} {a : Act} {w : World} {K K' : Act → World → Prop} (hp : ∀ c a w, Q (.panic c) a w → Q' (.panic c) a w) (hl : LetsOut Q → LetsOut Q') (h : ∀ a w, K a w → K' a w) (hh : o.wp P a w K Q) : o.wp P a w K' Q' := by
 unfold Oper.wp at *
 generalize (execOp a.eval o).run P w = r at *
 cases r with
 | ok n w' =>
  cases n <;> simp only [Oper.upon] at hh ⊢ <;>
   first
    | exact h _ _ hh
    | exact Calls.mono hh (fun e w'' he => by cases e <;> first | exact h _ _ he | exact hp _ _ _ he | exact hl he)
    | exact Rows.mono hh (fun _ _ he => h _ _ he)
 | halt x w' => cases x <;> simp only [Oper.upon] at hh ⊢ <;> first | exact hh | exact hp _ _ _ hh
theorem wpOp_q {i : Nat} {a : Act} {w : World} {K K' : Act → World → Prop} (hp : ∀ c a w, Q (.panic c) a w → Q' (.panic c) a w) (hl : LetsOut Q → LetsOut Q') (h : ∀ a w, K a w → K' a w) (hh : wpOp P ops Q i K a w) : wpOp P ops Q' i K' a w := by
 unfold wpOp at *
 split
 ·exact h _ _ (by simpa [*] using hh)
 ·rename_i o ho
  simp only [ho] at hh
  split
  ·rename_i hw; simp only [hw, if_true] at hh; exact hh.imp (oper_wp_q hp hl h) (fun h9 => ⟨h9.1, hl h9.2⟩)
  ·rename_i hw; simp only [hw] at hh; exact h _ _ hh
/-- what is left to do behind all but the last -/
def TailQ (P : Program) (ops : Array Oper) (n : Nat) (Q : Exit → Act → World → Prop) : Exit → Act → World → Prop
 | .normal, a, w => wpOp P ops Q n (Q .normal) a w
 | .exit i, a, w => Q (.exit i) a w
 | .goto l, a, w => Q (.goto l) a w
 | .ret, a, w => Q .ret a w
 | .panic c, a, w => Q (.panic c) a w
 | .outgrown, a, w => Q .outgrown a w
def Region.backB (md : Region.Mode) (ops : Array Oper) : Bool := (List.range ops.size).all fun i => ((ops[i]?).map (·.after.all fun e => !Region.binds md e || decide (e.on < i))).getD true
theorem backB_spec (h : Region.backB md ops = true) {i : Nat} {o : Oper} (ho : ops[i]? = some o) : ∀ e ∈ o.after, Region.binds md e = true → e.on < i := by
 intro e he hb
 have hi : i < ops.size := (Array.getElem?_eq_some_iff.1 ho).1
 have h1 := List.all_eq_true.1 h i (List.mem_range.2 hi)
 simp only [ho, Option.map_some, Option.getD_some, Array.all_eq_true_iff_forall_mem] at h1
 have h2 := h1 e he
 simpa [hb] using h2
theorem getD_true_of {listed : Array Bool} {i : Nat} (hi : i < listed.size) (h : listed.getD i true = true) : listed.getD i false = true := by
 simp [hi] at h ⊢
 exact h
/-- none may come up: all have -/
theorem all_listed (hb : Region.backB md ops = true) {listed : Array Bool} (hsz : listed.size = ops.size) (hr : Region.ready md ops listed = []) : ∀ i, i < ops.size → listed.getD i true = true := by
 intro i
 induction i using Nat.strongRecOn with
 | _ i ih =>
  intro hi
  cases hl : listed.getD i true with
  | true => rfl
  | false =>
   have h1 : i ∈ Region.ready md ops listed := mem_ready.2 ⟨hl, ops[i], Array.getElem?_eq_getElem hi, fun e he hbd => by
    have h2 := backB_spec hb (Array.getElem?_eq_getElem hi) e he hbd
    exact getD_true_of (by omega) (ih e.on h2 (by omega))⟩
   rw [hr] at h1
   cases h1
theorem ready_but (hb : Region.backB md ops = true) (hn : ops.size = n + 1) {listed : Array Bool} {i : Nat} (hi : i < n) : i ∈ Region.ready md ops (listed.setIfInBounds n true) ↔ i ∈ Region.ready md ops listed := by
 rw [mem_ready, mem_ready, getD_set_ne true (by omega)]
 refine and_congr_right fun _ => ⟨fun ⟨o, ho, h⟩ => ⟨o, ho, fun e he hbd => ?_⟩, fun ⟨o, ho, h⟩ => ⟨o, ho, fun e he hbd => ?_⟩⟩
 ·have h2 := backB_spec hb ho e he hbd
  have h3 := h e he hbd
  rwa [getD_set_ne false (by omega)] at h3
 ·exact getD_set_true (h e he hbd)
theorem ready_lt {listed : Array Bool} {i : Nat} (h : i ∈ Region.ready md ops listed) : i < ops.size := by
 obtain ⟨_, o, ho, _⟩ := mem_ready.1 h
 exact (Array.getElem?_eq_some_iff.1 ho).1
theorem last_out (hn : ops.size = n + 1) {listed : Array Bool} (hsz : listed.size = ops.size) : n ∉ Region.ready md ops (listed.setIfInBounds n true) := fun h => by
 have h1 := (mem_ready.1 h).1
 have h2 : n < listed.size := by omega
 simp [h2] at h1
/-- all but the last have come up -/
theorem none_left (hb : Region.backB md ops = true) (hn : ops.size = n + 1) {listed : Array Bool} (hsz : listed.size = ops.size) (hall : ∀ j, j < n → listed.getD j true = true) : Region.ready md ops (listed.setIfInBounds n true) = [] := by
 rw [List.eq_nil_iff_forall_not_mem]
 intro k hk
 have h1 := ready_lt hk
 by_cases hkn : k = n
 ·subst hkn
  exact last_out hn hsz hk
 ·have h2 := (ready_but hb hn (by omega)).1 hk
  have h3 := (mem_ready.1 h2).1
  rw [hall k (by omega)] at h3
  cases h3
theorem wpAny_tail (hs : Region.sinkB md ops n = true) (hc : Region.chainB md ops n = true) (hb : Region.backB md ops = true) (hn : ops.size = n + 1) :
  ∀ (f : Nat) (listed : Array Bool) (a : Act) (w : World), HeadInv md ops n listed → wpAnyH P md ops (TailQ P ops n Q) S f (listed.setIfInBounds n true) a w → wpAny P md ops Q (f + 1) listed a w := by
 have hp : ∀ c a w, TailQ P ops n Q (.panic c) a w → Q (.panic c) a w := fun _ _ _ h => h
 have hl : LetsOut (TailQ P ops n Q) → LetsOut Q := fun ⟨a, w, h⟩ => ⟨a, w, h⟩
 have hne : ∀ listed, HeadInv md ops n listed → Region.ready md ops listed ≠ [] := fun listed inv h0 => by
  have h1 := all_listed hb inv.size h0 n (by omega)
  rw [inv.tail n (Nat.le_refl _) (by omega)] at h1
  cases h1
 intro f
 induction f with
 | zero =>
  intro listed a w inv h
  refine ⟨fun h0 => absurd h0 (hne listed inv), fun i hi => ?_⟩
  have h1 := ready_lt hi
  by_cases hin : i < n
  ·have h2 := (ready_but hb hn hin).2 hi
   rw [h.1] at h2
   cases h2
  ·have e : i = n := by omega
   subst e
   exact wpOp_mono (fun a' w' hq => ⟨h.1, hq⟩) h.2
 | succ f ih =>
  intro listed a w inv h
  refine ⟨fun h0 => absurd h0 (hne listed inv), fun i hi => ?_⟩
  have h1 := ready_lt hi
  by_cases hin : i < n
  ·have h2 := h.2 i ((ready_but hb hn hin).2 hi)
   refine wpOp_q hp hl (fun a' w' hk => ih _ a' w' (inv.set hi hin) ?_) h2
   have e : (listed.setIfInBounds i true).setIfInBounds n true = (listed.setIfInBounds n true).setIfInBounds i true := Array.setIfInBounds_comm true true (by omega)
   rw [e]
   exact hk.2
  ·have e : i = n := by omega
   subst e
   by_cases hall : ∀ j, j < i → listed.getD j true = true
   ·have h3 := none_left hb hn inv.size hall
    refine wpOp_mono (fun a' w' hq => ⟨fun _ => hq, fun j hj => ?_⟩) (h.1 h3)
    rw [h3] at hj
    cases hj
   ·obtain ⟨j, hj⟩ := Classical.not_forall.1 hall
    obtain ⟨hjl, hj2⟩ := Classical.not_imp.1 hj
    exact absurd hi (tail_waits hs hc (by omega) inv _ j rfl hjl (by simpa using hj2) i (Nat.le_refl _))
/-- S holds until the last operation comes up, which is left to be done -/
theorem wp_region_tail {id : Nat} {a : Act} {w : World} (n : Nat) (hm : P.follows .mixedOrders = true) (hs : Region.sinkB .any ops n = true) (hc : Region.chainB .any ops n = true) (hb : Region.backB .any ops = true) (hn : ops.size = n + 1) (hS : S w.drew)
  (h : S w.drew → wpAnyH P .any ops (TailQ P ops n Q) S n ((Array.replicate ops.size false).setIfInBounds n true) a w.drew) : (Code.region id ops true).wp P Q a w := by
 refine wp_region_any hm ?_
 rw [show ops.size = n + 1 from hn]
 refine wpAny_tail hs hc hb hn n _ a _ ⟨by simp [hn], fun j oj _ hl => ?_, fun t _ ht => ?_⟩ (by rw [← hn]; exact h hS)
 ·rw [getD_replicate_false] at hl
  cases hl
 ·simp [show t < n + 1 by omega]
theorem tail_go {o : Oper} {a : Act} {w : World} (ho : ops[n]? = some o) (h : if Region.wanted o (yielded ops a.tmps) = true then Oper.wp P o a w (Q .normal) Q else Q .normal (a.put o.dst undef) w) : TailQ P ops n Q .normal a w := by
 show wpOp P ops Q n (Q .normal) a w
 unfold wpOp
 simp only [ho]
 split
 ·rename_i hw
  rw [if_pos hw] at h
  exact .inl h
 ·rename_i hw
  rw [if_neg hw] at h
  exact h
end

end Go.Proofs.Ytpolofehkckaoaa
