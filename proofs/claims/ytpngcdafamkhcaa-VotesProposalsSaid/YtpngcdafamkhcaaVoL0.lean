/-
  What the laws of layer 17 ask of the program's own calls.
-/
import Derived.Test.YtpngcdafamkhcaaVJ
import Derived.Test.YtpngcdafamkhcaaVoK
import Derived.Test.YtpngcdafamkhcaaBaS
namespace Go.Proofs.Ytpngcdafamkhcaa
open Go.RowKit

def FixedV : Prop := ∀ w : World, Calls Try.prog 4 #[] w fun e w' => e = .returned (.bool true) ∧ Below w.heap.size w w'
def PVoW : Prop := ∀ (xs : List UInt8) (A : Option Addr) (n c : Nat) (w : World), By w (fun _ => True) A n xs → n ≤ c → c ≤ maxLen → n ≤ 1000000 → Calls Try.prog 14 #[.slice A n c] w (Told w (Vo.cells (parseVo xs).1) (parseVo xs).2)
def PReW : Prop := ∀ (xs : List UInt8) (N : Int) (A : Option Addr) (n c : Nat) (w : World), By w (fun _ => True) A n xs → n ≤ c → c ≤ maxLen → n ≤ 1000000 → Calls Try.prog 15 #[.slice A n c, .int .i64 N] w (Told w (Re.cells (parseRe xs N).1) (parseRe xs N).2)
def PPrW : Prop := ∀ (xs : List UInt8) (N : Int) (A : Option Addr) (n c : Nat) (w : World), By w (fun _ => True) A n xs → n ≤ c → c ≤ maxLen → n ≤ 1000000 → Calls Try.prog 6 #[.slice A n c, .int .i64 N] w (PrOut w (parsePr 1048576 xs N).1 (parsePr 1048576 xs N).2)
def VoW : Prop := ∀ (v : Vo) (w : World), v.dg.length = 32 → Calls Try.prog 13 #[.agg (Vo.cells v).toArray] w (Byt w (encVo v))
def ReW : Prop := ∀ (v : Re) (w : World), Calls Try.prog 16 #[.agg (Re.cells v).toArray] w (Byt w (encRe v))
def PrW : Prop := ∀ (v : Pr) (A : Option Addr) (k c : Nat) (w : World), EysIn w A k v.es → k ≤ 1000 → (∀ y ∈ v.es, y.co.lt.length ≤ 1000 ∧ y.co.tx.length ≤ 1000) → Calls Try.prog 5 #[.agg #[.int .i64 v.vw, .int .i64 v.sq, .slice A k c]] w (Byt w (encPr v))
theorem Vo.no_dg : Vo.no.dg.length = 32 := rfl
theorem parseVo_dg (xs : List UInt8) : (parseVo xs).1.dg.length = 32 := by
  unfold parseVo finVo
  split
  · rfl
  · split
    · exact tagOf_len _
    · rfl
theorem parseVu_dg (xs : List UInt8) (n : Int) : (parseVu xs n).1.dg.length = 32 := by
  unfold parseVu finVu
  split
  · rfl
  · split
    · rfl
    · split
      · exact tagOf_len _
      · rfl
theorem neq_vo (v : Vo) (h : v.dg.length = 32) (w : World) : (binOp .neq 43 (.agg (Vo.cells v).toArray) (.agg (Vo.cells v).toArray)).run Try.prog w = .ok (.bool false) w := arr_neq (fun w => eq_vo v h w) w
theorem neq_re (v : Re) (w : World) : (binOp .neq 48 (.agg (Re.cells v).toArray) (.agg (Re.cells v).toArray)).run Try.prog w = .ok (.bool false) w := arr_neq (fun w => eq_re v w) w
theorem docR_len (m : Nat) : ∀ (k : Nat) (b : Bool) (out : List Ey) (st : Option (List UInt8)), (docR m k b out st).1.length ≤ out.length + k
  | 0, _, out, _ => by rw [docR_zero]; exact Nat.le_refl _
  | k + 1, _, out, none => by rw [docR_none]; exact Nat.le_add_right _ _
  | k + 1, b, out, some xs => by
    rw [docR_some]
    refine Nat.le_trans (docR_len m k _ _ _) ?_
    simp only [List.length_append, List.length_cons, List.length_nil]
    omega
theorem parseB_len (m : Nat) (xs : List UInt8) (n : Int) : (parseB m xs n).1.length ≤ 65536 := by
  have h := docR_len m (nval 2 (some xs)) true [] (nnext 2 (some xs))
  have h2 := nval_lt 2 (some xs)
  unfold parseB finB
  split
  · split
    · exact Nat.le_trans h (by simp only [List.length_nil]; omega)
    · simp
  · simp
theorem es_small {xs : List UInt8} {N : Int} {X : Pr} {e : Int} (h : parsePr 1048576 xs N = (X, e)) : X.es.length ≤ 9223372036854775807 := by
  have h9 : (parsePr 1048576 xs N).1.es.length ≤ 65536 := by
    unfold parsePr
    split
    · simp [Pr.no]
    · unfold finPr
      split
      · simp [Pr.no]
      · split
        · simp [Pr.no]
        · split
          · simp [Pr.no]
          · exact parseB_len _ _ _
  rw [h] at h9
  simp only at h9
  omega

end Go.Proofs.Ytpngcdafamkhcaa
