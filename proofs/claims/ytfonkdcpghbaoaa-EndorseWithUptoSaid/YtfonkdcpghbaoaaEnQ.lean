/-
  What the document's With puts out, by plain functions: it is what the program's puts out. No walk here.
-/
import Derived.Test.YtfonkdcpghbaoaaEnO
namespace Go.Proofs.Ytfonkdcpghbaoaa
open Go.RowKit

/-- what the document's loop puts out from here on -/
def rW (th : Bool) (x : En) : Bool → List En → List En
  | p, [] => if p then [] else [x]
  | p, e :: es => if !p && (th && e.og == x.og || !th && decide (x.og < e.og)) then (if th then x :: rW th x true es else x :: e :: rW th x true es) else e :: rW th x p es
theorem rW_true (th : Bool) (x : En) : ∀ es : List En, rW th x true es = es
  | [] => rfl
  | e :: es => by
    unfold rW
    simp [rW_true th x es]
theorem rW_there (x : En) : ∀ es : List En, rW true x false es = match es.findIdx? (fun e => e.og == x.og) with | some i => es.take i ++ [x] ++ es.drop (i + 1) | none => es ++ [x]
  | [] => rfl
  | e :: es => by
    unfold rW
    rw [List.findIdx?_cons]
    cases h : (e.og == x.og) with
    | true => simp [rW_true]
    | false =>
      simp only [Bool.not_false, Bool.and_false, Bool.not_true, Bool.false_and, Bool.or_false, Bool.false_eq_true, if_false]
      rw [rW_there x es]
      cases h2 : es.findIdx? (fun e => e.og == x.og) with
      | none => simp
      | some i => simp
theorem rW_new (x : En) : ∀ es : List En, rW false x false es = match es.findIdx? (fun e => decide (x.og < e.og)) with | some i => es.take i ++ [x] ++ es.drop i | none => es ++ [x]
  | [] => rfl
  | e :: es => by
    unfold rW
    rw [List.findIdx?_cons]
    cases h : decide (x.og < e.og) with
    | true => simp [rW_true]
    | false =>
      simp only [Bool.not_false, Bool.and_false, Bool.false_and, Bool.or_false, Bool.false_eq_true, if_false]
      rw [rW_new x es]
      cases h2 : es.findIdx? (fun e => decide (x.og < e.og)) with
      | none => simp
      | some i => simp
theorem rW_with (x : En) (es : List En) : rW (es.any fun e => e.og == x.og) x false es = withE es x := by
  unfold withE placeE
  cases h : es.findIdx? (fun e => e.og == x.og) with
  | some i =>
    have ha : (es.any fun e => e.og == x.og) = true := by
      obtain ⟨_, y, hy, hp⟩ := findIdx_of_some h
      exact List.any_eq_true.2 ⟨y, List.mem_of_getElem? hy, hp⟩
    rw [ha, rW_there, h]
  | none =>
    have ha : (es.any fun e => e.og == x.og) = false := by
      rw [List.any_eq_false]
      rw [List.findIdx?_eq_none_iff] at h
      intro y hy
      simpa using h y hy
    rw [ha, rW_new]
    simp only
    cases h2 : es.findIdx? (fun e => decide (x.og < e.og)) with
    | some i => rfl
    | none => simp

end Go.Proofs.Ytfonkdcpghbaoaa
