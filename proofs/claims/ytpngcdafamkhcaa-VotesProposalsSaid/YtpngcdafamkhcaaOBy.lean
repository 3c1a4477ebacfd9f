/-
  Put and Row, the program's and the document's, on bytes that read as a list; a string's bytes, at a step of a region that draws. 
-/
import Derived.Test.YtpngcdafamkhcaaO4
import Derived.Test.YtpngcdafamkhcaaCoR
import Derived.Test.YtpngcdafamkhcaaKP
import Derived.Lib.ConvBytes
namespace Go.Proofs.Ytpngcdafamkhcaa
open Go.RowKit

/-- A call that hands back bytes. -/
def Byt (w : World) (xs : List UInt8) (e : Ending) (w' : World) : Prop := ∃ A n c, e = .returned (.slice A n c) ∧ By w' (fun _ => True) A n xs ∧ n ≤ c ∧ c ≤ maxLen ∧ Below w.heap.size w w'
theorem Byt.of_made {w w' : World} {n : Nat} {xs : List UInt8} {e : Ending} (h : Made w n xs e w') : Byt w xs e w' := by
  obtain ⟨v, he, ho, hb⟩ := h
  obtain ⟨A, c, rfl, hn, hm, _⟩ := own_form ho
  exact ⟨A, n, c, he, (By.of_own ho).weak fun _ _ => trivial, hn, hm, hb⟩
theorem putB_wid {k : Nat} (hk : wid k = true) (xs : List UInt8) (v : Nat) : putB xs v k = xs ++ beB v k := by
  unfold putB
  rw [if_pos hk]
  simp
section
variable {Q Q2 : Nat → Prop} {A B : Option Addr} {n c m d : Nat} {xs ys : List UInt8} {w : World}
theorem rput_by (k : Nat) (hk : wid k = true) (v : Nat) (hv : v < 18446744073709551616) (h : By w Q A n xs) (hn : xs.length ≤ 1099511627776) :
    Calls Try.prog 35 #[.slice A n c, .int .u64 v, .int .i64 k] w (Byt w (xs ++ beB v k)) := by
  refine (rput_any Q A n c xs v k (by omega) (by omega) w h (by rw [← h.len]; exact hn)).mono fun e w' hm => ?_
  rw [Int.toNat_natCast, putB_wid hk] at hm
  exact Byt.of_made hm
theorem put_by (k : Nat) (hk : wid k = true) (v : Nat) (hv : v < 18446744073709551616) (h : By w Q A n xs) (hn : xs.length ≤ 1099511627776) (hnc : n ≤ c) :
    Calls Try.prog 45 #[.slice A n c, .int .u64 v, .int .i64 k] w (Byt w (xs ++ beB v k)) := by
  refine (put_any Q A n c xs v k (by omega) (by omega) w h (by rw [← h.len]; exact hn) hnc).mono fun e w' hm => ?_
  rw [Int.toNat_natCast, putB_wid hk] at hm
  exact Byt.of_made hm
theorem rrow_by (h : By w Q A n xs) (h2 : By w Q2 B m ys) (hn : xs.length ≤ 1099511627776) (hm : ys.length ≤ 1099511627776) :
    Calls Try.prog 34 #[.slice A n c, .slice B m d] w (Byt w (xs ++ rowB ys)) := by
  refine (rrow_any Q A n c xs Q2 B m d ys w h h2 (by rw [← h.len]; exact hn) (by rw [← h2.len]; exact hm)).mono fun e w' hm => ?_
  rw [← h2.len, List.append_assoc] at hm
  exact Byt.of_made hm
theorem row_by (h : By w Q A n xs) (h2 : By w Q2 B m ys) (hn : xs.length ≤ 1099511627776) (hm : ys.length ≤ 1099511627776) (hnc : n ≤ c) :
    Calls Try.prog 17 #[.slice A n c, .slice B m d] w (Byt w (xs ++ rowB ys)) := by
  refine (row_any Q A n c xs Q2 B m d ys w h h2 (by rw [← h.len]; exact hn) (by rw [← h2.len]; exact hm) hnc).mono fun e w' hm => ?_
  rw [← h2.len, List.append_assoc] at hm
  exact Byt.of_made hm
end

/-- '[]byte(s)' -/
theorem by_bytes (w : World) (l : List UInt8) : By (Lib.bytesWorld w 5 (ba l)) (fun _ => True) (some ⟨w.heap.size, 0, none⟩) l.length l := by
  refine ⟨rfl, fun _ => ⟨_, _, rfl, trivial, fun j u hu => ?_⟩⟩
  have hj : j < l.length := (List.getElem?_eq_some_iff.1 hu).1
  rw [Nat.zero_add, Lib.bytesWorld_cell w 5 (ba l) j (by rw [ba_size]; exact hj)]
  have e : (ba l).data.toList = l := rfl
  rw [e, List.getD, hu]
  rfl
theorem below_bytes (w : World) (s : ByteArray) : Below w.heap.size w (Lib.bytesWorld w 5 s) :=
  ⟨rfl, rfl, rfl, by rw [Lib.bytesWorld_size]; omega, fun k hk => Lib.bytesWorld_at_old w 5 s k hk⟩
theorem step_str_bytes {ops : Array Oper} {o : Oper} {a : Act} {w : World} {K : Act → World → Prop} {Q : Exit → Act → World → Prop} {E : Prop} (hgd : o.guard = none) (x : Operand) (ho : o.op = .convert 9 31 x)
    (l : List UInt8) (hx : a.eval x = .string (ba l)) (h : ∀ A c w', By w' (fun _ => True) A l.length l → Below w.heap.size w w' → K (a.put o.dst (.slice A l.length c)) w') : if Region.wanted o (yielded ops a.tmps) = true then Oper.wp Try.prog o a w K Q else E := by
  have hw : Region.wanted o (yielded ops a.tmps) = true := by simp [Region.wanted, hgd]
  rw [if_pos hw]
  have hrun := Lib.run_convert_string_bytes (P := Try.prog) w 9 31 5 (ba l) Try.underlying9 Try.underlying31 Try.underlying5
  rw [ba_size] at hrun
  unfold Oper.wp execOp
  simp only [ho, hx, Sem.run_bind, hrun, Result.andThen_ok]
  exact h _ _ _ (by_bytes w l) (below_bytes w _)

theorem yields_conv {P : Program} {ops : Array Oper} {S : World → Prop} {op : Oper} {a : Act} (hw : Region.wanted op (yielded ops a.tmps) = true) (src dst : TypeId) (x : Operand) (ho : op.op = .convert src dst x)
    (p : Value) (hx : a.eval x = p) (v : Value) (hS : ∀ w, S w → (convert src dst p).run P w = .ok v w) : YieldsIf P ops S op v a :=
  .inl ⟨hw, fun w hw' => by
    unfold execOp
    simp only [ho, hx, Sem.run_bind, hS w hw', Result.andThen_ok]
    rfl⟩
theorem conv_u64 {P : Program} (t t' : TypeId) (ht : P.underlying t = some (.int .i64)) (ht' : P.underlying t' = some (.int .u64)) (v : Int) (w : World) : (convert t t' (.int .i64 v)).run P w = .ok (.int .u64 (u64N v)) w := by
  have e : IntKind.u64.wrap v = ((u64N v : Nat) : Int) := by
    unfold u64N
    simp [IntKind.wrap, IntKind.signed, IntKind.bits]
    omega
  simp [convert, run_underlying ht, run_underlying ht', Conv.intToInt, e]

end Go.Proofs.Ytpngcdafamkhcaa
