/-
  Joined: SwR.
-/
import Derived.Test.YtkpgjcahmpekbaaSS40
import Derived.Test.YtkpgjcahmpekbaaSS24
import Derived.Test.YtkpgjcahmpekbaaSS15
namespace Go.Proofs.Ytkpgjcahmpekbaa
open Go.RowKit

structure SwR (W : World) (R gp pv pc gm mv mc : Nat) (bv : Value) (s : Slt) : Prop where
 box : Blk W R 123 (slC s bv (.pointer (some ⟨gp, 0, none⟩)) (.pointer (some ⟨gm, 0, none⟩)))
 pr : TlR 151 encD okD W gp pv pc s.pr
 cm : TlR 151 encD okD W gm mv mc s.cm
 bat : OEy W 0 bv s.es
 dg : s.dg.length = 32
 ap : ∀ q, D3 gp pv pc q → ¬ D3 gm mv mc q
 ab : ∀ q, bv.ownBlock = some q → q ≠ R ∧ ¬ D3 gp pv pc q ∧ ¬ D3 gm mv mc q
def DS (R gp pv pc gm mv mc : Nat) (bv : Value) : Nat → Prop := fun q => q = R ∨ D3 gp pv pc q ∨ D3 gm mv mc q ∨ bv.ownBlock = some q
theorem tl_ne {W : World} {R g gv gc : Nat} {cs : List Value} {M : Wl} (h : Blk W R 123 cs) (t : TlR 151 encD okD W g gv gc M) : ¬ D3 g gv gc R := by
 rintro (e | e | e)
 ·have h1 : W.heap[R]? = _ := h
  have h2 : W.heap[g]? = _ := t.box
  rw [← e, h1] at h2
  exact absurd h2 (by simp)
 ·exact vm_ne h t.vm e
 ·exact cm_ne h t.cm e
section
variable {W W' : World} {R gp pv pc gm mv mc : Nat} {bv : Value} {s : Slt}
theorem SwR.lt (h : SwR W R gp pv pc gm mv mc bv s) : ∀ q, DS R gp pv pc gm mv mc bv q → q < W.heap.size := by
 rintro q (rfl | hq | hq | hq)
 ·exact h.box.lt
 ·exact h.pr.lt q hq
 ·exact h.cm.lt q hq
 ·exact (h.bat.1.lt q hq).2
theorem SwR.keep (h : SwR W R gp pv pc gm mv mc bv s) (hb : ∀ q, DS R gp pv pc gm mv mc bv q → W'.heap[q]? = W.heap[q]?) : SwR W' R gp pv pc gm mv mc bv s :=
 ⟨(hb R (.inl rfl)).trans h.box, h.pr.keep (fun q hq => hb q (.inr (.inl hq))), h.cm.keep (fun q hq => hb q (.inr (.inr (.inl hq)))), ⟨h.bat.1.keep (fun b _ _ hq => hb b (.inr (.inr (.inr hq)))), h.bat.2⟩, h.dg, h.ap, h.ab⟩
theorem SwR.through (h : SwR W R gp pv pc gm mv mc bv s) (hb : Below W.heap.size W W') : SwR W' R gp pv pc gm mv mc bv s := h.keep fun q hq => hb.block q (h.lt q hq)
theorem SwR.prep (h : SwR W R gp pv pc gm mv mc bv s) {l : Wl} (hf : Ft (D3 gp pv pc) W W') (hp : TlR 151 encD okD W' gp pv pc l) : SwR W' R gp pv pc gm mv mc bv { s with pr := l } :=
 ⟨hf.blk h.box (tl_ne h.box h.pr), hp, h.cm.keep (fun q hq => hf.block q (h.cm.lt q hq) (fun h9 => h.ap q h9 hq)), ⟨h.bat.1.keep (fun b _ hl hq => hf.block b hl (h.ab b hq).2.1), h.bat.2⟩, h.dg, h.ap, h.ab⟩
theorem SwR.comm (h : SwR W R gp pv pc gm mv mc bv s) {l : Wl} (hf : Ft (D3 gm mv mc) W W') (hp : TlR 151 encD okD W' gm mv mc l) : SwR W' R gp pv pc gm mv mc bv { s with cm := l } :=
 ⟨hf.blk h.box (tl_ne h.box h.cm), h.pr.keep (fun q hq => hf.block q (h.pr.lt q hq) (fun h9 => h.ap q hq h9)), hp, ⟨h.bat.1.keep (fun b _ hl hq => hf.block b hl (h.ab b hq).2.2), h.bat.2⟩, h.dg, h.ap, h.ab⟩
end
theorem cntW_eq (d : List UInt8) : ∀ l : Wl, cntW l d = cntM d l
 | [] => rfl
 | x :: l => by
  rw [cntW_cons, cnt_cons, cntW_eq d l]
  congr 1
  by_cases h : d = x.2
  ·simp [h]
  ·rw [if_neg h, if_neg (by simpa using fun e => h e.symm)]
theorem cntP_eq (p : Int) (d : List UInt8) : ∀ {l : Wl}, (l.map Prod.fst).Nodup → (cntP l p d : Int) = (cntM d l : Int) - (if getM p l = some d then 1 else 0)
 | [], _ => by simp [cntP, cntM, getM]
 | x :: l, hn => by
  rw [List.map_cons, List.nodup_cons] at hn
  have ih := cntP_eq p d hn.2
  rw [cntP_cons, cnt_cons]
  unfold getM
  by_cases hx : p = x.1
  ·have hno : getM p l = none := by
    have : ∀ {l : Wl}, p ∉ l.map Prod.fst → getM p l = none := fun {l} => by
     induction l with
     | nil => intro _; rfl
     | cons y l ih =>
      intro h
      rw [List.map_cons, List.mem_cons, not_or] at h
      rw [getM, if_neg h.1]
      exact ih h.2
    exact this (by rw [hx]; exact hn.1)
   rw [hno] at ih
   rw [if_pos hx]
   have e1 : (!(x.1 == p) && (x.2 == d)) = false := by simp [hx]
   rw [e1]
   simp at ih
   by_cases hd : d = x.2
   ·have e2 : some x.2 = some d := by rw [hd]
    rw [if_pos hd, if_pos e2]
    simp
    omega
   ·have e2 : ¬ some x.2 = some d := fun e => hd (Option.some.inj e).symm
    rw [if_neg hd, if_neg e2]
    simp
    omega
  ·rw [if_neg hx]
   by_cases hd : d = x.2
   ·have e1 : (!(x.1 == p) && (x.2 == d)) = true := by simp [hd]; exact fun e => hx e.symm
    rw [e1, if_pos hd]
    simp only [if_true]
    omega
   ·have e1 : (!(x.1 == p) && (x.2 == d)) = false := by simp; exact fun _ e => hd e.symm
    rw [e1, if_neg hd]
    simp only [Bool.false_eq_true, if_false]
    omega

end Go.Proofs.Ytkpgjcahmpekbaa
