/-
  The program's Key: the key of two, of nil and of a table.
-/
import Derived.Test.YtolildehdibpbaaDoorKeep
namespace Go.Proofs.YtolildehdibpbaaDoor
open Go.RowKit

theorem u16_wrap (a : Int) : IntKind.u16.wrap a = (a16 a : Int) := by
  simp only [IntKind.wrap, IntKind.bits, IntKind.signed]
  unfold a16
  simp
  omega
theorem TM.parts {W : World} {g : Nat} {seed : List UInt8} {m : Option Nat} (h : TM W g seed m) : ∃ As ns cs, Blk W g 66 [.slice As ns cs, .map m] ∧ By W (fun k => k < g) As ns seed ∧ ns ≤ cs ∧ cs ≤ maxLen ∧ MapIs W g (keyB seed) m := h
theorem map_keep {wz W : World} {m : Option Nat} {g : Nat} {f : Nat → Nat → List UInt8} (hm : MapIs wz g f m) (hb : Below wz.heap.size wz W) : ∀ r, m = some r → W.heap[r]? = wz.heap[r]? := fun r e => hb.block r (hm.lt r e)

theorem By.rowBy {w : World} {g n : Nat} {A : Option Addr} {xs : List UInt8} {b : Nat} {cs : Array Value} (h : By w (fun k => k < g) A n xs) (hb : ∀ k, k < g → k ≠ b) : By (w.setRow b cs) (fun k => k < g) A n xs :=
  h.keep fun k hk => setRow_other w b k cs (hb k hk)
theorem map_row {w : World} {g b : Nat} {f : Nat → Nat → List UInt8} {m : Option Nat} {t : TypeId} {cs : List Value} {cs' : Array Value} (h : MapIs w g f m) (hb : Blk w b t cs) : MapIs (w.setRow b cs') g f m :=
  h.keep fun r e => setRow_other w b r cs' (fun e' => by
    obtain ⟨_, es, ck, hm, _⟩ := h r e
    exact absurd (congrArg some e'.symm) (hb.ne_map ⟨es, ck, hm⟩))
theorem map_grown {w w' : World} {g b : Nat} {f : Nat → Nat → List UInt8} {m : Option Nat} {t : TypeId} {cs : List Value} (h : MapIs w g f m) (hb : Blk w b t cs) (ho : w.grownBy w' (some b)) : MapIs w' g f m :=
  h.keep fun r e => ho.block r (h.lt r e) (fun e' => by
    obtain ⟨_, es, ck, hm, _⟩ := h r e
    exact absurd e'.symm (hb.ne_map ⟨es, ck, hm⟩))
/-- The answer's own block is written. -/
theorem KF.row {g b : Nat} {w W : World} {cs : Array Value} (h : KF g w W) (hb : w.heap.size ≤ b) (hg : g ≤ w.heap.size) : KF g w (W.setRow b cs) :=
  ⟨below_row h.1 b (Nat.le_trans hg hb) cs, fun k hk hc => by
    have e := h.2 k hk hc
    obtain ⟨_, _, _, hc⟩ := hc
    have hl := (Array.getElem?_eq_some_iff.1 hc).1
    exact (setRow_other W b k cs (by omega)).trans e⟩
theorem TS.row {w : World} {g b : Nat} {seed : List UInt8} {t : TypeId} {cs : List Value} {cs' : Array Value} (h : TS w g seed) (hb : Blk w b t cs) (hg : g < b) : TS (w.setRow b cs') g seed := by
  obtain ⟨m, As, ns, c, hk, hy, h1, h2, hm⟩ := h
  exact ⟨m, As, ns, c, hk.rowFar (Nat.ne_of_lt hg) _, hy.rowBy (fun k hk => Nat.ne_of_lt (Nat.lt_trans hk hg)), h1, h2, map_row hm hb⟩

set_option maxHeartbeats 4000000 in
set_option maxRecDepth 100000 in
theorem key_nil_lt (a b : Int) (x y : Nat) (hwa : IntKind.u16.wrap a = (x : Int)) (hwb : IntKind.u16.wrap b = (y : Int)) (hx : x < 65536) (hy : y < 65536) (hlt : x < y) (w : World) (ht : Tab w) :
    Calls Tryd.prog 19 #[.pointer none, .int .i64 a, .int .i64 b] w fun e w' => e = .returned (.agg (vs (keyB [] x y)).toArray) ∧ Below w.heap.size w w' := by
  have HT := Lib.hid ht
  have hlt1 : (x : Int) < (y : Int) := by omega
  have hlt2 : ¬ (y : Int) < (x : Int) := by omega
  have hlt3 : ¬ y < x := by omega
  have hlt4 : x ≤ y := by omega
  have hlt5 : ¬ y ≤ x := by omega
  obtain ⟨r, hr⟩ : ∃ r, r = vs (keyB [] x y) := ⟨_, rfl⟩
  have hrl : r.length = 32 := by rw [hr, vs_length, keyB_length]
  have hro : r.toArray.all (·.oneCell') = true := by rw [hr]; exact one_u8
  have hko : ∀ W, Tab W → Calls Tryd.prog 38 #[.slice none 0 0, .agg #[.int .u16 (x : Int), .int .u16 (y : Int)]] W fun e w' => e = .returned (.agg r.toArray) ∧ Below W.heap.size W w' := fun W h => by
    rw [hr]; exact keyOf_any (fun _ => True) [] x y hx hy none 0 0 W By.none_ (by omega) (by unfold maxLen; omega) h (by omega)
  have HKo := Lib.hid hko
  have HRl := Lib.hid hrl
  have HRo := Lib.hid hro
  rw [← hr]
  clear hr hko hrl hro ht
  go_enter Tryd.func19, Tryd.ntmps19
  go_wp2_with (first
    | (go_at_call 38; (with_reducible refine (HKo.out _ (HT.out.through (((Below.refl _ w).alloc (Nat.le_refl _) _).alloc (by simp) _))).mono ?_); rintro e w1 ⟨rfl, hb1⟩; have HX1 : Hid (Below w.heap.size w w1) := Lib.hid ((((Below.refl _ w).alloc (Nat.le_refl _) _).alloc (by simp) _).trans (hb1.mono (by simp only [World.size_alloc]; omega))); have HB1 : Hid (Blk w1 w.heap.size 28 (vs zero32)) := Lib.hid (((Blk.fresh rfl (by kernel_rfl)).alloc _).through hb1); clear hb1)
    | (refine wpList_store_row rfl 28 (.tmp 6) (.tmp 26) rfl w.heap.size r.toArray rfl rfl 28 (vs zero32).toArray HB1.out (by rw [List.size_toArray, HRl.out]; kernel_rfl) (by rw [List.size_toArray, List.size_toArray, HRl.out]; rfl) HRo.out ?_))
  refine bodyPost_ret (v := .agg r.toArray) (results_cell_row rfl _ _ w.heap.size 28 _ (0, 0) _ rfl (HB1.out.row _) Tryd.underlying28 rfl ?r1) rfl ⟨rfl, below_row HX1.out _ (Nat.le_refl _) _⟩
  rw [List.size_toArray, HRl.out]; kernel_rfl

set_option maxHeartbeats 4000000 in
set_option maxRecDepth 100000 in
theorem key_nil_gt (a b : Int) (x y : Nat) (hwa : IntKind.u16.wrap a = (x : Int)) (hwb : IntKind.u16.wrap b = (y : Int)) (hx : x < 65536) (hy : y < 65536) (hlt : y < x) (w : World) (ht : Tab w) :
    Calls Tryd.prog 19 #[.pointer none, .int .i64 a, .int .i64 b] w fun e w' => e = .returned (.agg (vs (keyB [] y x)).toArray) ∧ Below w.heap.size w w' := by
  have HT := Lib.hid ht
  have hlt1 : (y : Int) < (x : Int) := by omega
  have hlt2 : ¬ (x : Int) < (y : Int) := by omega
  have hlt3 : ¬ x < y := by omega
  have hlt4 : y ≤ x := by omega
  have hlt5 : ¬ x ≤ y := by omega
  obtain ⟨r, hr⟩ : ∃ r, r = vs (keyB [] y x) := ⟨_, rfl⟩
  have hrl : r.length = 32 := by rw [hr, vs_length, keyB_length]
  have hro : r.toArray.all (·.oneCell') = true := by rw [hr]; exact one_u8
  have hko : ∀ W, Tab W → Calls Tryd.prog 38 #[.slice none 0 0, .agg #[.int .u16 (y : Int), .int .u16 (x : Int)]] W fun e w' => e = .returned (.agg r.toArray) ∧ Below W.heap.size W w' := fun W h => by
    rw [hr]; exact keyOf_any (fun _ => True) [] y x hy hx none 0 0 W By.none_ (by omega) (by unfold maxLen; omega) h (by omega)
  have HKo := Lib.hid hko
  have HRl := Lib.hid hrl
  have HRo := Lib.hid hro
  rw [← hr]
  clear hr hko hrl hro ht
  go_enter Tryd.func19, Tryd.ntmps19
  go_wp2_with (first
    | (go_at_call 38; (with_reducible refine (HKo.out _ (HT.out.through (((Below.refl _ w).alloc (Nat.le_refl _) _).alloc (by simp) _))).mono ?_); rintro e w1 ⟨rfl, hb1⟩; have HX1 : Hid (Below w.heap.size w w1) := Lib.hid ((((Below.refl _ w).alloc (Nat.le_refl _) _).alloc (by simp) _).trans (hb1.mono (by simp only [World.size_alloc]; omega))); have HB1 : Hid (Blk w1 w.heap.size 28 (vs zero32)) := Lib.hid (((Blk.fresh rfl (by kernel_rfl)).alloc _).through hb1); clear hb1)
    | (refine wpList_store_row rfl 28 (.tmp 6) (.tmp 26) rfl w.heap.size r.toArray rfl rfl 28 (vs zero32).toArray HB1.out (by rw [List.size_toArray, HRl.out]; kernel_rfl) (by rw [List.size_toArray, List.size_toArray, HRl.out]; rfl) HRo.out ?_))
  refine bodyPost_ret (v := .agg r.toArray) (results_cell_row rfl _ _ w.heap.size 28 _ (0, 0) _ rfl (HB1.out.row _) Tryd.underlying28 rfl ?r1) rfl ⟨rfl, below_row HX1.out _ (Nat.le_refl _) _⟩
  rw [List.size_toArray, HRl.out]; kernel_rfl

set_option maxHeartbeats 4000000 in
set_option maxRecDepth 100000 in
theorem key_nil_eq (a b : Int) (x : Nat) (hwa : IntKind.u16.wrap a = (x : Int)) (hwb : IntKind.u16.wrap b = (x : Int)) (hx : x < 65536) (w : World) (ht : Tab w) :
    Calls Tryd.prog 19 #[.pointer none, .int .i64 a, .int .i64 b] w fun e w' => e = .returned (.agg (vs (keyB [] x x)).toArray) ∧ Below w.heap.size w w' := by
  have HT := Lib.hid ht
  obtain ⟨r, hr⟩ : ∃ r, r = vs (keyB [] x x) := ⟨_, rfl⟩
  have hrl : r.length = 32 := by rw [hr, vs_length, keyB_length]
  have hro : r.toArray.all (·.oneCell') = true := by rw [hr]; exact one_u8
  have hko : ∀ W, Tab W → Calls Tryd.prog 38 #[.slice none 0 0, .agg #[.int .u16 (x : Int), .int .u16 (x : Int)]] W fun e w' => e = .returned (.agg r.toArray) ∧ Below W.heap.size W w' := fun W h => by
    rw [hr]; exact keyOf_any (fun _ => True) [] x x hx hx none 0 0 W By.none_ (by omega) (by unfold maxLen; omega) h (by omega)
  have HKo := Lib.hid hko
  have HRl := Lib.hid hrl
  have HRo := Lib.hid hro
  rw [← hr]
  clear hr hko hrl hro ht
  go_enter Tryd.func19, Tryd.ntmps19
  go_wp2_with (first
    | (go_at_call 38; (with_reducible refine (HKo.out _ (HT.out.through (((Below.refl _ w).alloc (Nat.le_refl _) _).alloc (by simp) _))).mono ?_); rintro e w1 ⟨rfl, hb1⟩; have HX1 : Hid (Below w.heap.size w w1) := Lib.hid ((((Below.refl _ w).alloc (Nat.le_refl _) _).alloc (by simp) _).trans (hb1.mono (by simp only [World.size_alloc]; omega))); have HB1 : Hid (Blk w1 w.heap.size 28 (vs zero32)) := Lib.hid (((Blk.fresh rfl (by kernel_rfl)).alloc _).through hb1); clear hb1)
    | (refine wpList_store_row rfl 28 (.tmp 6) (.tmp 26) rfl w.heap.size r.toArray rfl rfl 28 (vs zero32).toArray HB1.out (by rw [List.size_toArray, HRl.out]; kernel_rfl) (by rw [List.size_toArray, List.size_toArray, HRl.out]; rfl) HRo.out ?_))
  refine bodyPost_ret (v := .agg r.toArray) (results_cell_row rfl _ _ w.heap.size 28 _ (0, 0) _ rfl (HB1.out.row _) Tryd.underlying28 rfl ?r1) rfl ⟨rfl, below_row HX1.out _ (Nat.le_refl _) _⟩
  rw [List.size_toArray, HRl.out]; kernel_rfl

theorem key_nil (a b : Int) (w : World) (ht : Tab w) :
    Calls Tryd.prog 19 #[.pointer none, .int .i64 a, .int .i64 b] w fun e w' => e = .returned (.agg (vs (keyAB [] a b)).toArray) ∧ Below w.heap.size w w' := by
  have hx := a16_lt a
  have hy := a16_lt b
  have hwa := u16_wrap a
  have hwb := u16_wrap b
  unfold keyAB
  rcases Nat.lt_trichotomy (a16 a) (a16 b) with h | h | h
  · rw [Nat.min_eq_left (by omega), Nat.max_eq_right (by omega)]
    exact key_nil_lt a b _ _ hwa hwb hx hy h w ht
  · rw [← h] at hwb ⊢
    rw [Nat.min_self, Nat.max_self]
    exact key_nil_eq a b _ hwa hwb hx w ht
  · rw [Nat.min_eq_right (by omega), Nat.max_eq_left (by omega)]
    exact key_nil_gt a b _ _ hwa hwb hx hy h w ht

end Go.Proofs.YtolildehdibpbaaDoor
