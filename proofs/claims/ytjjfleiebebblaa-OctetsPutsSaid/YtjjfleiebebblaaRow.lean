/-
  Row, the program's and the document's: a row's length in four bytes, and its bytes.
-/
import Derived.Test.YtjjfleiebebblaaRPut
namespace Go.Proofs.Ytjjfleiebebblaa
open Go.RowKit

set_option maxHeartbeats 1000000 in
theorem row_any (Q : Nat → Prop) (A : Option Addr) (n c : Nat) (xs : List UInt8) (Q2 : Nat → Prop) (B : Option Addr) (m d : Nat) (ys : List UInt8) (w : World) (h : By w Q A n xs) (h2 : By w Q2 B m ys) (hn : n ≤ 1099511627776) (hm : m ≤ 1099511627776) (hnc : n ≤ c) :
    Calls Try.prog 21 #[.slice A n c, .slice B m d] w (Made w (n + 4 + m) (xs ++ beB m 4 ++ ys)) := by
  obtain ⟨i0, hi, hz0, hz1, hz2⟩ := info_parts Try.info_u8
  have H := Lib.hid h
  have H2 := Lib.hid h2
  clear h h2
  have C : ∀ W : World, By W Q A n xs → Calls Try.prog 20 #[.slice A n c, .int .u64 (m : Int), .int .i64 4] W (Made W (n + 4) (xs ++ beB m 4)) := fun W hW => by
    have := put_any Q A n c xs (m : Int) 4 (by omega) (by omega) W hW hn hnc
    simpa [putN, putB, wid] using this
  have CH := Lib.hid C
  clear C
  go_enter Try.func21, Try.ntmps21
  go_wp2_with (first
    | (go_at_call 20; refine (CH.out _ H.out).mono ?_; rintro e w1 ⟨v1, rfl, hown1, hb1⟩; have O1 := Lib.hid hown1; clear hown1)
    | (at_builtin; refine wpList_append_by _ rfl (.tmp 9) (.tmp 10) 22 rfl w.heap.size i0 Try.underlying22 hi hz0 hz1 hz2 v1 (n + 4) (vs (xs ++ beB m 4)) rfl O1.out Q2 B m d ys rfl (H2.out.through hb1) (by omega) hb1.size ?_; intro v2 w2 hown2 hgrow2 _))
  go_wp2
  go_ret
  exact ⟨v2, rfl, by rw [← vs_append]; exact hown2, hb1.grown hgrow2 hb1.size (fun g hg => (O1.out.lt g hg).1)⟩

set_option maxHeartbeats 1000000 in
theorem rrow_any (Q : Nat → Prop) (A : Option Addr) (n c : Nat) (xs : List UInt8) (Q2 : Nat → Prop) (B : Option Addr) (m d : Nat) (ys : List UInt8) (w : World) (h : By w Q A n xs) (h2 : By w Q2 B m ys) (hn : n ≤ 1099511627776) (hm : m ≤ 1099511627776) :
    Calls Try.prog 22 #[.slice A n c, .slice B m d] w (Made w (n + 4 + m) (xs ++ beB m 4 ++ ys)) := by
  obtain ⟨i0, hi, hz0, hz1, hz2⟩ := info_parts Try.info_u8
  have H := Lib.hid h
  have H2 := Lib.hid h2
  clear h h2
  have C : ∀ W : World, By W Q A n xs → Calls Try.prog 23 #[.slice A n c, .int .u64 (m : Int), .int .i64 4] W (Made W (n + 4) (xs ++ beB m 4)) := fun W hW => by
    have := rput_any Q A n c xs (m : Int) 4 (by omega) (by omega) W hW hn
    simpa [putN, putB, wid] using this
  have CH := Lib.hid C
  clear C
  go_enter Try.func22, Try.ntmps22
  go_wp2_with (first
    | (go_at_call 23; refine (CH.out _ H.out).mono ?_; rintro e w1 ⟨v1, rfl, hown1, hb1⟩; have O1 := Lib.hid hown1; clear hown1)
    | (at_builtin; refine wpList_append_by _ rfl (.tmp 9) (.tmp 10) 22 rfl w.heap.size i0 Try.underlying22 hi hz0 hz1 hz2 v1 (n + 4) (vs (xs ++ beB m 4)) rfl O1.out Q2 B m d ys rfl (H2.out.through hb1) (by omega) hb1.size ?_; intro v2 w2 hown2 hgrow2 _))
  go_wp2
  go_ret
  exact ⟨v2, rfl, by rw [← vs_append]; exact hown2, hb1.grown hgrow2 hb1.size (fun g hg => (O1.out.lt g hg).1)⟩

end Go.Proofs.Ytjjfleiebebblaa
