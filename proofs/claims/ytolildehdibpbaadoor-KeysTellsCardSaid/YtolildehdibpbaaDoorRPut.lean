/-
  The document's Put, as the statements have it.
-/
import Derived.Test.YtolildehdibpbaaDoorPut
namespace Go.Proofs.YtolildehdibpbaaDoor
open Go.RowKit

theorem beB_step (v k m : Nat) (h : m < k) : beB (v / 256 ^ m) (k - m) = beB (v / 256 ^ (m + 1)) (k - (m + 1)) ++ [UInt8.ofNat (v / 256 ^ m)] := by
  obtain ⟨d, rfl⟩ : ∃ d, k = m + 1 + d := ⟨k - (m + 1), by omega⟩
  have e1 : m + 1 + d - m = d + 1 := by omega
  have e2 : m + 1 + d - (m + 1) = d := by omega
  rw [e1, e2, beB, Nat.div_div_eq_div_mul, Nat.pow_succ]

theorem By.one {w : World} {Q : Nat → Prop} {x : Int} {b : UInt8} (t : TypeId) (hQ : Q w.heap.size) (h : u8 b = .int .u8 x) : By (w.alloc (.cells #[.int .u8 x] t)) Q (some ⟨w.heap.size, 0, none⟩) 1 [b] := by
  refine ⟨rfl, fun _ => ⟨_, _, rfl, hQ, fun j u hu => ?_⟩⟩
  match j, hu with
  | 0, hu =>
    simp at hu
    subst hu
    rw [cell_of_row _ w.heap.size _ _ _ _ (heap_alloc_new w _), h]
    rfl

theorem byte_shift (v : Int) (h : 0 ≤ v) (m : Nat) : u8 (UInt8.ofNat (v.toNat / 256 ^ m)) = .int .u8 (v / 2 ^ (8 * m) % 256) := by
  obtain ⟨x, rfl⟩ := Int.eq_ofNat_of_zero_le h
  unfold u8
  congr 1
  have e : (2 : Int) ^ (8 * m) = ((256 ^ m : Nat) : Int) := by
    have e1 : (256 : Nat) ^ m = 2 ^ (8 * m) := by rw [Nat.pow_mul]
    rw [e1]
    simp
  rw [e]
  simp

set_option maxHeartbeats 1000000 in
theorem rput_yes (Q : Nat → Prop) (A : Option Addr) (n c : Nat) (xs : List UInt8) (v : Int) (hv0 : 0 ≤ v) (_hv1 : v < 18446744073709551616) (k : Nat) (hk : wid k = true) (w : World) (h : By w Q A n xs) (hn : n ≤ 1099511627776) :
    Calls Tryd.prog 30 #[.slice A n c, .int .u64 v, .int .i64 k] w (Made w (n + k) (xs ++ beB v.toNat k)) := by
  obtain ⟨i0, hi, hz0, hz1, hz2⟩ := info_parts Tryd.info_u8
  have k1 : 1 ≤ k := by have := wid_iff.1 hk; omega
  have k8 : k ≤ 8 := by have := wid_iff.1 hk; omega
  have H : Hid (By w Q A n xs) := h
  clear h
  go_enter Tryd.func30, Tryd.ntmps30
  go_wp2_with (first
    | (go_at_call 47; refine (size_any _ _).mono ?_; rintro e w' ⟨rfl, rfl⟩)
    | (at_builtin; refine wpList_append_by _ rfl (.tmp 9) (.tmp 10) 22 rfl w.heap.size i0 Tryd.underlying22 hi hz0 hz1 hz2 _ 0 [] rfl (World.ownsRow_made w #[] 0 (Nat.le_refl _) (Nat.zero_le _) rfl) Q A n c xs rfl (H.out.alloc _) (by omega) (by simp) ?_; intro v1 w1 hown1 hgrow1 _))
  have hb1 : Below w.heap.size w w1 := ((Below.refl _ w).alloc (Nat.le_refl _) _).grown hgrow1 (by simp) (by intro k hk; simp [Act.eval, Value.ownBlock] at hk; omega)
  clear hgrow1
  go_loopw [7, 8] (fun o i wr => ∃ (j : Nat) (v' : Value), j ≤ k ∧ i = .int .i64 ((j : Int) - 1) ∧ v' = o ∧ wr.ownsRow w.heap.size 5 1 v' (n + (k - j)) (vs (xs ++ beB (v.toNat / 256 ^ j) (k - j))) ∧ Below w.heap.size w wr) (fun _ i _ => (intOf i + 1).toNat)
  case atStart => exact ⟨k, v1, Nat.le_refl _, rfl, rfl, by simpa [beB, vs] using hown1, hb1⟩
  case round =>
    obtain ⟨j, v', hj, rfl, rfl, hown, hb⟩ := hrel
    have O := Lib.hid hown
    clear hown hown1
    rcases j with _ | m
    · go_wp2_with fail
      go_ret
      exact ⟨v', rfl, by simpa using O.out, hb⟩
    · have hbs := hb.size
      go_wp2_with (at_builtin; refine wpList_append_by _ rfl (.tmp 22) (.tmp 29) 22 rfl w.heap.size i0 Tryd.underlying22 hi hz0 hz1 hz2 v' (n + (k - (m + 1))) (vs (xs ++ beB (v.toNat / 256 ^ (m + 1)) (k - (m + 1)))) rfl (O.out.alloc _) (fun _ => True) _ 1 1 [UInt8.ofNat (v.toNat / 256 ^ m)] rfl (By.one _ trivial ?hx) ?h1 ?h2 ?_)
      case hx => exact byte_shift v hv0 m
      case h1 => omega
      case h2 => simp; omega
      intro v2 w2 hown2 hgrow2 _
      have hown3 : w2.ownsRow w.heap.size 5 1 v2 (n + (k - m)) (vs (xs ++ beB (v.toNat / 256 ^ m) (k - m))) := by
        rw [beB_step v.toNat k m (by omega), ← List.append_assoc, ← vs_append]
        have e : n + (k - m) = n + (k - (m + 1)) + 1 := by omega
        rw [e]
        exact hown2
      have hb2 : Below w.heap.size w w2 := (hb.alloc hbs _).grown hgrow2 (by simp; omega) (fun g hg => (O.out.lt g hg).1)
      have O2 := Lib.hid hown3
      clear hown2 hown3 hgrow2
      go_wp2_with fail
      go_roundw
      case rel => exact ⟨m, v2, by omega, by go_num, rfl, O2.out, hb2⟩
      case measure => simp [intOf]

set_option maxHeartbeats 1000000 in
theorem rput_no (Q : Nat → Prop) (A : Option Addr) (n c : Nat) (xs : List UInt8) (v k : Int) (hk : wid k = false) (w : World) (h : By w Q A n xs) (hn : n ≤ 1099511627776) :
    Calls Tryd.prog 30 #[.slice A n c, .int .u64 v, .int .i64 k] w (Made w n xs) := by
  obtain ⟨i0, hi, hz0, hz1, hz2⟩ := info_parts Tryd.info_u8
  have H : Hid (By w Q A n xs) := h
  clear h
  go_enter Tryd.func30, Tryd.ntmps30
  go_wp2_with (first
    | (go_at_call 47; refine (size_any _ _).mono ?_; rintro e w' ⟨rfl, rfl⟩)
    | (at_builtin; refine wpList_append_by _ rfl (.tmp 9) (.tmp 10) 22 rfl w.heap.size i0 Tryd.underlying22 hi hz0 hz1 hz2 _ 0 [] rfl (World.ownsRow_made w #[] 0 (Nat.le_refl _) (Nat.zero_le _) rfl) Q A n c xs rfl (H.out.alloc _) (by omega) (by simp) ?_; intro v1 w1 hown1 hgrow1 _))
  have hb1 : Below w.heap.size w w1 := ((Below.refl _ w).alloc (Nat.le_refl _) _).grown hgrow1 (by simp) (by intro k hk; simp [Act.eval, Value.ownBlock] at hk; omega)
  clear hgrow1
  go_wp2
  go_ret
  exact ⟨v1, rfl, by simpa using hown1, hb1⟩

/-- PUT AND THE DOCUMENT's: one number's bytes. -/
theorem rput_any (Q : Nat → Prop) (A : Option Addr) (n c : Nat) (xs : List UInt8) (v k : Int) (hv0 : 0 ≤ v) (hv1 : v < 18446744073709551616) (w : World) (h : By w Q A n xs) (hn : n ≤ 1099511627776) :
    Calls Tryd.prog 30 #[.slice A n c, .int .u64 v, .int .i64 k] w (Made w (putN n k) (putB xs v.toNat k)) := by
  unfold putN putB
  cases hk : wid k with
  | false => exact rput_no Q A n c xs v k hk w h hn
  | true =>
    have h0 : 0 ≤ k := by have := wid_iff.1 hk; omega
    obtain ⟨j, rfl⟩ := Int.eq_ofNat_of_zero_le h0
    exact rput_yes Q A n c xs v hv0 hv1 j hk w h hn

end Go.Proofs.YtolildehdibpbaaDoor
