/-
  The program's number, howMany.
-/
import Derived.Test.YtnpobhgecfjfgaaDoorTm4
import Derived.Test.YtnpobhgecfjfgaaDoorTShelf
import Derived.Test.YtnpobhgecfjfgaaDoorRPol
namespace Go.Proofs.YtnpobhgecfjfgaaDoor
open Go.RowKit

/-- The variable ErrSyntax holds an error. -/
def EV (w : World) : Prop := ∃ te pe, w.cell? ⟨0, 0, none⟩ = some (.iface te pe)
theorem EV.lt {w : World} (h : EV w) : 0 < w.heap.size := by
  obtain ⟨te, pe, h⟩ := h
  exact World.block_lt_of_cell? w ⟨0, 0, none⟩ h
theorem EV.through {w w' : World} (h : EV w) (hb : Below w.heap.size w w') : EV w' := by
  have hl := h.lt
  obtain ⟨te, pe, h⟩ := h
  exact ⟨te, pe, (World.cell?_of_block (a := ⟨0, 0, none⟩) (hb.block _ hl)).trans h⟩
theorem EV.only {w w' : World} {g : Nat} (h : EV w) (hb : w.grownBy w' (some g)) (hg : g ≠ 0) : EV w' := by
  have hl := h.lt
  obtain ⟨te, pe, h⟩ := h
  exact ⟨te, pe, (World.cell?_of_block (a := ⟨0, 0, none⟩) (hb.block _ hl (fun e => hg (Option.some.inj e).symm))).trans h⟩
theorem EV.alloc {w : World} (h : EV w) (o : Obj) : EV (w.alloc o) := h.through ((Below.refl _ w).alloc (Nat.le_refl _) o)

theorem decFrom_val : ∀ (l : List UInt8) (v : Nat), (∀ x, x ∈ l → isDg x = true) → Lib.decFrom v l = some (valP v l)
  | [], _, _ => rfl
  | x :: l, v, h => by
    have hx := (isDg_iff x).1 (h x (by simp))
    have e : Lib.digitVal x = some (x.toNat - 48) := by unfold Lib.digitVal; rw [if_pos hx]
    show (match Lib.digitVal x with | some d => Lib.decFrom (v * 10 + d) l | none => none) = _
    rw [e]
    exact decFrom_val l _ (fun y hy => h y (by simp [hy]))
theorem atoi_val {d : List UInt8} (h : ∀ x, x ∈ d → isDg x = true) (hne : d ≠ []) : Lib.atoi d = some ((valP 0 d : Nat) : Int) := by
  cases d with
  | nil => exact absurd rfl hne
  | cons x l =>
    have hx := (isDg_iff x).1 (h x (by simp))
    have h1 : (x == 45) = false := by
      rw [beq_eq_false_iff_ne]
      rintro rfl
      exact absurd hx.1 (by decide)
    have h2 : (x == 43) = false := by
      rw [beq_eq_false_iff_ne]
      rintro rfl
      exact absurd hx.1 (by decide)
    show (if (x == 45) = true then Option.map (fun (m : Nat) => -(m : Int)) (Lib.decNat l) else if (x == 43) = true then Option.map (fun (m : Nat) => (m : Int)) (Lib.decNat l) else Option.map (fun (m : Nat) => (m : Int)) (Lib.decNat (x :: l))) = _
    rw [h1, h2, if_neg (by simp), if_neg (by simp)]
    unfold Lib.decNat
    rw [List.isEmpty_cons, if_neg (by simp), decFrom_val _ _ h]
    rfl
def numDV (d : List UInt8) : Int := match numD d with | none => 0 | some v => (v : Int)
theorem numD_lt {d : List UInt8} {v : Nat} (h : ∀ x, x ∈ d → isDg x = true) (hd : numD d = some v) : v ≤ 9999 := by
  unfold numD at hd
  split at hd
  · cases hd
  · rename_i hn
    have e := Option.some.inj hd
    rw [← e]
    exact valP_4 h (by omega)

theorem ret_numD {d : List UInt8} {v : Int} {o : Bool} (h : numDV d = v ∧ (numD d).isSome = o) : Ending.returned (Value.tuple #[.int .i64 v, .bool o]) = Ending.returned (.tuple #[.int .i64 (numDV d), .bool (numD d).isSome]) := by
  obtain ⟨rfl, rfl⟩ := h
  rfl
theorem numD_bad {d : List UInt8} (h : d.length = 0 ∨ 4 < d.length ∨ (1 < d.length ∧ d.head? = some 48)) : numDV d = 0 ∧ (numD d).isSome = false := by
  have : numD d = none := by unfold numD; rw [if_pos h]
  unfold numDV
  rw [this]
  exact ⟨rfl, rfl⟩
theorem numD_good {d : List UInt8} (h : ¬ (d.length = 0 ∨ 4 < d.length ∨ (1 < d.length ∧ d.head? = some 48))) : numDV d = ((valP 0 d : Nat) : Int) ∧ (numD d).isSome = true := by
  have : numD d = some (valP 0 d) := by unfold numD; rw [if_neg h]
  unfold numDV
  rw [this]
  exact ⟨rfl, rfl⟩

set_option maxHeartbeats 4000000 in
set_option maxRecDepth 100000 in
theorem pnum_any (d : List UInt8) (hdg : ∀ x, x ∈ d → isDg x = true) (hl : d.length ≤ 1000) (w : World) (he : EV w) :
    Calls Tryd.prog 29 #[.string (ba d)] w fun e w' => e = .returned (.tuple #[.int .i64 (numDV d), .bool (numD d).isSome]) ∧ Below w.heap.size w w' := by
  have hsz := ba_size
  have h0 : ∀ x, d[0]? = some x → ∀ W, (Instr.index 9 (.string (ba d)) (.int .i64 0)).run Tryd.prog W = .ok (.int .u8 x.toNat) W := fun x hx W => run_index_ba Tryd.underlying9 d .i64 0 0 rfl x hx W
  have H0 := Lib.hid h0
  clear h0
  have hh : d.head? = d[0]? := by cases d <;> rfl
  have HH := Lib.hid hh
  clear hh
  by_cases h4 : 4 < d.length
  · have HB := Lib.hid (numD_bad (.inr (.inl h4)))
    go_enter Tryd.func29, Tryd.ntmps29
    go_wp2
    have hh1 := HB.out
    (try simp only [Exit.inBlock, Exit.then]); refine bodyPost_ret (results_tmp2 rfl _ _ _) rfl ?_
    exact ⟨ret_numD hh1, Below.refl _ _⟩
  · by_cases hz : d = []
    · subst hz
      have HB := Lib.hid (numD_bad (d := []) (.inl rfl))
      have hn : Lib.atoi (ba []).data.toList = none := rfl
      obtain ⟨te, pe, hv⟩ := he
      have hc := Tryd.strconv_Atoi_err (ba []) (by rw [ba_size]; simp) hn _ w hv (.inr ⟨te, pe, rfl⟩)
      have HC := Lib.hid hc
      have hlz : ([] : List UInt8).length = 0 := rfl
      clear hc hv hn
      go_enter Tryd.func29, Tryd.ntmps29
      go_wp2_with (go_at_call 41; (with_reducible refine (HC.out).mono ?_); rintro e w1 ⟨N, rfl, _, _, hb⟩; have HX1 := Lib.hid hb; clear hb)
      go_region
      go_wp2
      have hh1 := HB.out
      (try simp only [Exit.inBlock, Exit.then]); refine bodyPost_ret (results_tmp2 rfl _ _ _) rfl ?_
      exact ⟨ret_numD hh1, HX1.out.drew⟩
    · have hpos : 0 < d.length := by cases d with | nil => exact absurd rfl hz | cons x d => simp
      have hc := Tryd.strconv_Atoi (ba d) _ (by rw [ba_size]; omega) (by show Lib.atoi (d.toArray).toList = _; simpa using atoi_val hdg hz) w
      have hc2 : Calls Tryd.prog 41 #[.string (ba d)] w fun e w' => e = .returned (.tuple #[.int .i64 ((valP 0 d : Nat) : Int), .nilIface]) ∧ Below w.heap.size w w' := hc.mono fun e w' ⟨h1, t, h2⟩ => ⟨h1, by rw [h2]; exact Lib.bytesWorld_below _ _ _⟩
      have HC := Lib.hid hc2
      clear hc hc2 hz hdg he
      by_cases h1 : 1 < d.length
      · obtain ⟨z, hz0⟩ : ∃ z, d[0]? = some z := ⟨_, List.getElem?_eq_getElem (by omega)⟩
        have hi0 := H0.out z hz0
        by_cases h48 : z = 48
        · subst h48
          have HB := Lib.hid (numD_bad (d := d) (.inr (.inr ⟨h1, by rw [HH.out, hz0]⟩)))
          have e48 : ((48 : UInt8).toNat : Int) = 48 := rfl
          clear hz0
          go_enter Tryd.func29, Tryd.ntmps29
          go_wp2
          have hh1 := HB.out
          (try simp only [Exit.inBlock, Exit.then]); refine bodyPost_ret (results_tmp2 rfl _ _ _) rfl ?_
          exact ⟨ret_numD hh1, Below.refl _ _⟩
        · have HB := Lib.hid (numD_good (d := d) (fun h => by rcases h with h | h | ⟨_, h⟩ <;> first | omega | (rw [HH.out, hz0] at h; exact h48 (Option.some.inj h))))
          have hz48b : ((z.toNat : Int) == 48) = false := by
            have : z.toNat ≠ 48 := fun e => h48 (UInt8.toNat_inj.1 (by rw [e]; rfl))
            simp; omega
          clear hz0 h48
          go_enter Tryd.func29, Tryd.ntmps29
          go_wp2_with (go_at_call 41; (with_reducible refine (HC.out).mono ?_); rintro e w1 ⟨rfl, hb⟩; have HX1 := Lib.hid hb; clear hb)
          go_region
          go_wp2
          have hh1 := HB.out
          (try simp only [Exit.inBlock, Exit.then]); refine bodyPost_ret (results_tmp2 rfl _ _ _) rfl ?_
          exact ⟨ret_numD hh1, HX1.out.drew⟩
      · have HB := Lib.hid (numD_good (d := d) (fun h => by rcases h with h | h | ⟨h, _⟩ <;> omega))
        go_enter Tryd.func29, Tryd.ntmps29
        go_wp2_with (go_at_call 41; (with_reducible refine (HC.out).mono ?_); rintro e w1 ⟨rfl, hb⟩; have HX1 := Lib.hid hb; clear hb)
        go_region
        go_wp2
        have hh1 := HB.out
        (try simp only [Exit.inBlock, Exit.then]); refine bodyPost_ret (results_tmp2 rfl _ _ _) rfl ?_
        exact ⟨ret_numD hh1, HX1.out.drew⟩

end Go.Proofs.YtnpobhgecfjfgaaDoor
