/-
  (*Reader).upTo, Fixed, Row, Count, End; Read: of the program's readers.
-/
import Derived.Test.YtjjfleiebebblaaNum
namespace Go.Proofs.Ytjjfleiebebblaa
open Go.RowKit

theorem fail_any (g : Nat) (xs : List UInt8) (er k : Int) (hk : k ≠ 0) (w : World) (h : RS w g tR xs er) :
    Calls Try.prog 26 #[.pointer (some ⟨g, 0, none⟩), .int .i64 k] w fun e w' => e = .returned (.tuple #[]) ∧ RS w' g tR (failX xs er) (failE er k) ∧ w.grownBy w' (some g) := by
  obtain ⟨A, n, c, hw, hn, hm, hy⟩ := id h
  by_cases he : er = 0
  · subst he
    refine (fail_no g _ k w hw).mono ?_
    rintro e w' ⟨rfl, rfl⟩
    exact ⟨rfl, RS.failed hw k hk⟩
  · refine (fail_yes g _ er k he w hw).mono ?_
    rintro e w' ⟨rfl, rfl⟩
    have e1 : failX xs er = xs := if_neg he
    have e2 : failE er k = er := if_neg he
    rw [e1, e2]
    exact ⟨rfl, h, only_refl _ _⟩

theorem numV_lt (xs : List UInt8) (er k : Int) : numV xs er k < 256 ^ k.toNat ∨ numV xs er k = 0 := by
  unfold numV
  split
  · left
    have h := beN_small (takeY xs er k) (takeY xs er k).length k.toNat
    rw [List.take_length] at h
    refine h ?_
    unfold takeY
    split <;> simp
    omega
  · right; rfl

theorem Gave.of_made {w w1 : World} {g : Nat} {xs xs' : List UInt8} {er' : Int} {n : Nat} {v : Value} {w2 : World} (ho : w.grownBy w1 (some g)) (hr : RS w1 g tR xs' er') (hown : w2.ownsRow w1.heap.size 5 1 v n (vs xs)) (hb : Below w1.heap.size w1 w2) :
    Gave w g tR xs xs' er' (.returned v) w2 := by
  obtain ⟨A, c, rfl, hc, _⟩ := own_form hown
  exact ⟨A, n, c, rfl, hc, (By.of_own hown).weak fun _ h => h.2.2, hr.below hb, only_trans ho (only_below hb)⟩

def upV (V : Nat) (most : Int) : Int := if most < V then 0 else V
def upX (X : List UInt8) (E : Int) (V : Nat) (most : Int) : List UInt8 := if most < V then failX X E else X
def upE (E : Int) (V : Nat) (most b : Int) : Int := if most < V then failE E b else E

set_option maxHeartbeats 1000000 in
theorem upTo_any (g : Nat) (xs : List UInt8) (er k most b : Int) (hk : k = 2 ∨ k = 4) (hb : b ≠ 0) (w : World) (h : RS w g tR xs er) :
    Calls Try.prog 30 #[.pointer (some ⟨g, 0, none⟩), .int .i64 k, .int .i64 most, .int .i64 b] w
      (GaveV w g tR (.int .i64 (upV (numV xs er k) most)) (upX (numX xs er k) (numE xs er k) (numV xs er k) most) (upE (numE xs er k) (numV xs er k) most b)) := by
  have hV : numV xs er k < 4294967296 := by
    rcases numV_lt xs er k with h | h
    · rcases hk with rfl | rfl
      · have e : (256 : Nat) ^ ((2 : Int)).toNat = 65536 := by decide
        omega
      · have e : (256 : Nat) ^ ((4 : Int)).toNat = 4294967296 := by decide
        omega
    · omega
  have hcon := number_any g xs er k w h
  generalize numV xs er k = V at *
  generalize numX xs er k = X at *
  generalize numE xs er k = E at *
  unfold upV upX upE
  clear h hk
  by_cases hlt : most < V
  · simp only [if_pos hlt]
    go_enter Try.func30, Try.ntmps30
    go_wp2_with (first
      | (go_at_call 8; refine hcon.mono ?_; rintro e w1 ⟨rfl, hr, ho⟩; have HR := Lib.hid hr; have HO := Lib.hid ho; clear hr ho)
      | (go_at_call 26; refine (fail_any g X E b hb _ HR.out).mono ?_; rintro e w2 ⟨rfl, hr2, ho2⟩))
    go_ret
    exact ⟨rfl, hr2, only_trans HO.out ho2⟩
  · simp only [if_neg hlt]
    go_enter Try.func30, Try.ntmps30
    go_wp2_with (first
      | (go_at_call 8; refine hcon.mono ?_; rintro e w1 ⟨rfl, hr, ho⟩; have HR := Lib.hid hr; have HO := Lib.hid ho; clear hr ho))
    go_ret
    exact ⟨rfl, HR.out, HO.out⟩

set_option maxHeartbeats 1000000 in
theorem fixed_any (g : Nat) (xs : List UInt8) (er k : Int) (hx : xs.length ≤ 1099511627776) (w : World) (h : RS w g tR xs er) :
    Calls Try.prog 14 #[.pointer (some ⟨g, 0, none⟩), .int .i64 k] w (Gave w g tR (takeY xs er k) (takeX xs er k) (takeE xs er k)) := by
  have hl : (takeY xs er k).length ≤ 1099511627776 := by unfold takeY; split <;> simp; omega
  have H := Lib.hid h
  clear h
  go_enter Try.func14, Try.ntmps14
  go_wp2_with (first
    | (go_at_call 27; refine (take_any g xs er k _ H.out).mono ?_; rintro e w1 ⟨B, m, c, rfl, hmc, hy, hr, ho⟩; have HY := Lib.hid hy; have HR := Lib.hid hr; have HO := Lib.hid ho; clear hy hr ho)
    | (go_at_call 24; refine (clone_any _ B m c _ _ HY.out (by have := HY.out.len; omega)).mono ?_; rintro e w2 ⟨v2, rfl, hown, hb⟩))
  go_ret
  exact Gave.of_made HO.out HR.out hown hb

/-- What Row gives, leaves, and fails with. -/
def rowY (xs : List UInt8) (er most : Int) : List UInt8 := takeY (upX (numX xs er 4) (numE xs er 4) (numV xs er 4) most) (upE (numE xs er 4) (numV xs er 4) most 3) (upV (numV xs er 4) most)
def rowX (xs : List UInt8) (er most : Int) : List UInt8 := takeX (upX (numX xs er 4) (numE xs er 4) (numV xs er 4) most) (upE (numE xs er 4) (numV xs er 4) most 3) (upV (numV xs er 4) most)
def rowE (xs : List UInt8) (er most : Int) : Int := takeE (upX (numX xs er 4) (numE xs er 4) (numV xs er 4) most) (upE (numE xs er 4) (numV xs er 4) most 3) (upV (numV xs er 4) most)

theorem takeY_le (xs : List UInt8) (er k : Int) : (takeY xs er k).length ≤ xs.length := by unfold takeY; split <;> simp; omega
theorem takeX_le (xs : List UInt8) (er k : Int) : (takeX xs er k).length ≤ xs.length := by 
  unfold takeX
  split
  · split <;> simp
  · simp
theorem failX_le (xs : List UInt8) (er : Int) : (failX xs er).length ≤ xs.length := by unfold failX; split <;> simp
theorem numX_le (xs : List UInt8) (er k : Int) : (numX xs er k).length ≤ xs.length := by
  unfold numX; split
  · exact takeX_le _ _ _
  · exact failX_le _ _
theorem upX_le (X : List UInt8) (E : Int) (V : Nat) (most : Int) : (upX X E V most).length ≤ X.length := by
  unfold upX; split
  · exact failX_le _ _
  · exact Nat.le_refl _

set_option maxHeartbeats 1000000 in
theorem rowm_any (g : Nat) (xs : List UInt8) (er most : Int) (hx : xs.length ≤ 1099511627776) (w : World) (h : RS w g tR xs er) :
    Calls Try.prog 12 #[.pointer (some ⟨g, 0, none⟩), .int .i64 most] w (Gave w g tR (rowY xs er most) (rowX xs er most) (rowE xs er most)) := by
  unfold rowY rowX rowE
  have hcon := upTo_any g xs er 4 most 3 (.inr rfl) (by decide) w h
  have hl := Nat.le_trans (upX_le (numX xs er 4) (numE xs er 4) (numV xs er 4) most) (Nat.le_trans (numX_le xs er 4) hx)
  generalize upX (numX xs er 4) (numE xs er 4) (numV xs er 4) most = X at *
  generalize upE (numE xs er 4) (numV xs er 4) most 3 = E at *
  generalize upV (numV xs er 4) most = V at *
  have hl2 := Nat.le_trans (takeY_le X E V) hl
  clear h
  go_enter Try.func12, Try.ntmps12
  go_wp2_with (first
    | (go_at_call 30; refine hcon.mono ?_; rintro e w0 ⟨rfl, hr, ho⟩; have HR0 := Lib.hid hr; have HO0 := Lib.hid ho; clear hr ho)
    | (go_at_call 27; refine (take_any g X E V _ HR0.out).mono ?_; rintro e w1 ⟨B, m, c, rfl, hmc, hy, hr, ho⟩; have HY := Lib.hid hy; have HR := Lib.hid hr; have HO := Lib.hid ho; clear hy hr ho)
    | (go_at_call 24; refine (clone_any _ B m c _ _ HY.out (by have := HY.out.len; omega)).mono ?_; rintro e w2 ⟨v2, rfl, hown, hb⟩))
  go_ret
  exact Gave.of_made (only_trans HO0.out HO.out) HR.out hown hb

set_option maxHeartbeats 1000000 in
theorem count_any (g : Nat) (xs : List UInt8) (er most : Int) (w : World) (h : RS w g tR xs er) :
    Calls Try.prog 16 #[.pointer (some ⟨g, 0, none⟩), .int .i64 most] w
      (GaveV w g tR (.int .i64 (upV (numV xs er 2) most)) (upX (numX xs er 2) (numE xs er 2) (numV xs er 2) most) (upE (numE xs er 2) (numV xs er 2) most 4)) := by
  have hcon := upTo_any g xs er 2 most 4 (.inl rfl) (by decide) w h
  clear h
  go_enter Try.func16, Try.ntmps16
  go_wp2_with (go_at_call 30; refine hcon.mono ?_; rintro e w0 ⟨rfl, hr, ho⟩; have HR0 := Lib.hid hr; have HO0 := Lib.hid ho; clear hr ho)
  go_ret
  exact ⟨rfl, HR0.out, HO0.out⟩

/-- What End answers. -/
def endV (xs : List UInt8) (er : Int) : Int := if er = 0 then (if xs = [] then 0 else 2) else er

set_option maxHeartbeats 1000000 in
theorem end_any (g : Nat) (xs : List UInt8) (er : Int) (w : World) (h : RS w g tR xs er) :
    Calls Try.prog 18 #[.pointer (some ⟨g, 0, none⟩)] w fun e w' => e = .returned (.int .i64 (endV xs er)) ∧ w = w' := by
  obtain ⟨A, n, c, hw, hn, hm, hy⟩ := h
  have h0 : w.cell? ⟨g, 0, none⟩ = some (.slice A n c) := by rw [cell_of_row w g 0 _ _ _ hw]; rfl
  have h1 : w.cell? ⟨g, 1, none⟩ = some (.int .i64 er) := by rw [cell_of_row w g 1 _ _ _ hw]; rfl
  unfold endV
  by_cases he : er = 0
  · have hl := (hy he).len
    subst he
    clear hw hy
    by_cases hn0 : n = 0
    · subst hn0
      obtain rfl : xs = [] := List.eq_nil_of_length_eq_zero hl
      clear hl
      go_enter Try.func18, Try.ntmps18
      go_wp2
      go_ret
      exact ⟨rfl, rfl⟩
    · have hpos : 0 < n := by omega
      have hne : xs ≠ [] := by rintro rfl; simp at hl; omega
      simp only [if_true, if_neg hne]
      clear hl hn0 hne
      go_enter Try.func18, Try.ntmps18
      go_wp2
      go_ret
      exact ⟨rfl, rfl⟩
  · simp only [if_neg he]
    have hb : (er != 0) = true := by simpa using he
    clear hw hy
    go_enter Try.func18, Try.ntmps18
    go_wp2
    go_ret
    exact ⟨rfl, rfl⟩

theorem RS.new {w : World} {base n c : Nat} {B : Option Addr} {xs : List UInt8} (t : TypeId) (h : w.ownsRow base 5 1 (.slice B n c) n (vs xs)) :
    RS (w.alloc (.cells #[.slice B n c, .int .i64 0] t)) w.heap.size t xs 0 := by
  obtain ⟨B', c', e, hn, hm, _⟩ := own_form h
  injection e with _ _ ec
  subst ec
  exact ⟨B, n, c, heap_alloc_new w _, hn, hm, fun _ => ((By.of_own h).alloc _).weak fun b hb => by
    obtain ⟨cs, hcs⟩ := hb.2.2
    exact ⟨cs, (Below.heap_alloc w _ b hb.2.1).trans hcs⟩⟩

set_option maxHeartbeats 1000000 in
theorem read_any (Q : Nat → Prop) (A : Option Addr) (n c : Nat) (xs : List UInt8) (w : World) (h : By w Q A n xs) (hn : n ≤ 1099511627776) :
    Calls Try.prog 7 #[.slice A n c] w fun e w' => ∃ g, e = .returned (.pointer (some ⟨g, 0, none⟩)) ∧ RS w' g tR xs 0 ∧ Below w.heap.size w w' ∧ w.heap.size ≤ g := by
  have H := Lib.hid h
  clear h
  go_enter Try.func7, Try.ntmps7
  go_wp2_with (go_at_call 24; refine (clone_any Q A n c _ _ H.out (by omega)).mono ?_; rintro e w1 ⟨v1, rfl, hown, hb⟩; obtain ⟨B, cc, rfl, hcc, hmx, _⟩ := own_form hown; have O := Lib.hid hown; clear hown)
  go_ret
  exact ⟨w1.heap.size, rfl, RS.new tR O.out, hb.alloc hb.size _, hb.size⟩

end Go.Proofs.Ytjjfleiebebblaa
