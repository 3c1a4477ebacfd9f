/-
  The document's number.
-/
import Derived.Test.YtnpobhgecfjfgaaDoorRA
import Derived.RegionTactic
import Derived.ChangeAlike
namespace Go.Proofs.YtnpobhgecfjfgaaDoor
open Go.RowKit

theorem valP_snoc (x : UInt8) : ∀ (l : List UInt8) (v : Nat), valP v (l ++ [x]) = valP v l * 10 + (x.toNat - 48)
  | [], _ => rfl
  | y :: l, v => valP_snoc x l (v * 10 + (y.toNat - 48))
theorem isDg_iff (x : UInt8) : isDg x = true ↔ 48 ≤ x.toNat ∧ x.toNat ≤ 57 := by simp [isDg]
theorem digP_mem : ∀ {t : List UInt8} {x : UInt8}, x ∈ digP t → isDg x = true
  | [], _, h => by cases h
  | y :: t, x, h => by
    rw [digP_cons] at h
    split at h
    · rcases List.mem_cons.1 h with rfl | h
      · assumption
      · exact digP_mem h
    · cases h
theorem valP_lt : ∀ (l : List UInt8) (v m : Nat), (∀ x, x ∈ l → isDg x = true) → v < m → valP v l < m * 10 ^ l.length
  | [], v, m, _, h => by show v < m * 1; omega
  | x :: l, v, m, hl, h => by
    have hx := (isDg_iff x).1 (hl x (by simp))
    have h1 := valP_lt l (v * 10 + (x.toNat - 48)) (m * 10) (fun y hy => hl y (by simp [hy])) (by omega)
    show valP (v * 10 + (x.toNat - 48)) l < _
    rw [List.length_cons, Nat.pow_succ]
    have e : m * (10 ^ l.length * 10) = m * 10 * 10 ^ l.length := by rw [Nat.mul_comm (10 ^ l.length) 10, Nat.mul_assoc]
    omega
theorem digP_take : ∀ (t : List UInt8), t.take (digP t).length = digP t
  | [] => rfl
  | x :: t => by
    rw [digP_cons]
    split
    · rw [List.length_cons, List.take_succ_cons, digP_take t]
    · rfl
theorem digP_le (t : List UInt8) : (digP t).length ≤ t.length := by
  have h := congrArg List.length (digP_take t)
  rw [List.length_take] at h
  omega
/-- the byte behind so many digits -/
theorem digP_at : ∀ (t : List UInt8) (n : Nat), n ≤ (digP t).length → (n < (digP t).length ↔ ∃ x, t[n]? = some x ∧ isDg x = true)
  | [], n, h => by simp [digP] at h ⊢
  | x :: t, n, h => by
    rw [digP_cons] at h ⊢
    cases hx : isDg x with
    | false =>
      rw [hx] at h
      simp at h
      subst h
      simp [hx]
    | true =>
      rw [hx] at h
      simp only [if_true, List.length_cons] at h ⊢
      cases n with
      | zero => simp [hx]
      | succ n =>
        have := digP_at t n (by omega)
        simp only [List.getElem?_cons_succ]
        rw [← this]
        omega
theorem take_succ' {l : List UInt8} {n : Nat} {x : UInt8} (h : l[n]? = some x) : l.take (n + 1) = l.take n ++ [x] := by
  rw [List.take_add_one, h]; rfl

/-- what number tells -/
def numV (t : List UInt8) : Int := match numP t with | none => 0 | some (v, _) => v
def numR (t : List UInt8) : List UInt8 := match numP t with | none => t | some (_, r) => r
def numO (t : List UInt8) : Bool := (numP t).isSome
theorem num_bad {t : List UInt8} (h : (digP t).length = 0 ∨ 4 < (digP t).length ∨ (1 < (digP t).length ∧ t.head? = some 48)) : numV t = 0 ∧ numR t = t ∧ numO t = false := by
  unfold numV numR numO
  rw [numP_of rfl, if_pos h]
  exact ⟨rfl, rfl, rfl⟩
theorem num_good {t : List UInt8} (h : ¬ ((digP t).length = 0 ∨ 4 < (digP t).length ∨ (1 < (digP t).length ∧ t.head? = some 48))) : numV t = valP 0 (digP t) ∧ numR t = t.drop (digP t).length ∧ numO t = true := by
  unfold numV numR numO
  rw [numP_of rfl, if_neg h]
  exact ⟨rfl, rfl, rfl⟩

theorem ret_num {t r : List UInt8} {v : Int} {o : Bool} (h : numV t = v ∧ numR t = r ∧ numO t = o) : Ending.returned (Value.tuple #[.int .i64 v, .string (ba r), .bool o]) = Ending.returned (.tuple #[.int .i64 (numV t), .string (ba (numR t)), .bool (numO t)]) := by
  obtain ⟨rfl, rfl, rfl⟩ := h
  rfl

set_option maxHeartbeats 4000000 in
theorem number_any (t : List UInt8) (hl : t.length ≤ 1000000) (w : World) :
    Calls Tryd.prog 37 #[.string (ba t)] w fun e w' => e = .returned (.tuple #[.int .i64 (numV t), .string (ba (numR t)), .bool (numO t)]) ∧ Below w.heap.size w w' := by
  have hsz := ba_size
  have hD := digP_le t
  obtain ⟨d, hd⟩ : ∃ d, d = (digP t).length := ⟨_, rfl⟩
  rw [← hd] at hD
  have HD := Lib.hid hd
  clear hd
  have hidx : ∀ (n : Nat) (x : UInt8), t[n]? = some x → ∀ W, (Instr.index 9 (.string (ba t)) (.int .i64 (n : Int))).run Tryd.prog W = .ok (.int .u8 x.toNat) W := fun n x hx W => run_index_ba Tryd.underlying9 t .i64 n n rfl x hx W
  have HI := Lib.hid hidx
  clear hidx
  go_enter Tryd.func37, Tryd.ntmps37
  go_wp2
  go_loop [5, 6] (fun a b => ∃ n v : Nat, a = .int .i64 (n : Int) ∧ b = .int .i64 (v : Int) ∧ n ≤ d ∧ v ≤ 99999 ∧ Hid (v = valP 0 ((digP t).take (min n 5)))) (fun a _ => match a with | .int _ i => d - i.toNat | _ => 0)
  case atStart => exact ⟨0, 0, rfl, rfl, Nat.zero_le _, by omega, Lib.hid rfl⟩
  case round =>
    obtain ⟨n, v, rfl, rfl, hn, hv, hV⟩ := hrel
    by_cases hnd : n < d
    · obtain ⟨x, hx, hdg⟩ := (digP_at t n (by rw [← HD.out]; omega)).1 (by rw [← HD.out]; exact hnd)
      have hx2 : (digP t)[n]? = some x := by
        rw [← digP_take t, ← HD.out, List.getElem?_take_of_lt hnd]
        exact hx
      obtain ⟨y, hy⟩ : ∃ y, y = x.toNat := ⟨_, rfl⟩
      have hi := HI.out n x hx
      have hb := (isDg_iff x).1 hdg
      rw [← hy] at hi hb
      have hlt : (n : Int) < t.length := by omega
      by_cases h5 : n < 5
      · have hval : valP 0 ((digP t).take (min (n + 1) 5)) = v * 10 + (y - 48) := by
          rw [Nat.min_eq_left (by omega), take_succ' hx2, valP_snoc, ← hy, hV.out, Nat.min_eq_left (by omega)]
        have hlen : valP 0 ((digP t).take (min (n + 1) 5)) < 1 * 10 ^ ((digP t).take (min (n + 1) 5)).length := valP_lt _ 0 1 (fun z hz => digP_mem (List.mem_of_mem_take hz)) (by omega)
        have hpow : 10 ^ ((digP t).take (min (n + 1) 5)).length ≤ 10 ^ 5 := Nat.pow_le_pow_right (by omega) (by rw [List.length_take]; omega)
        have hb9 : v * 10 + (y - 48) ≤ 99999 := by rw [← hval]; omega
        have HX := Lib.hid hval
        clear hval hlen hpow hx hx2 hy hdg
        go_wp2
        go_round
        case rel => exact ⟨n + 1, v * 10 + (y - 48), by norm_cast, by congr 1; omega, by omega, by omega, Lib.hid HX.out.symm⟩
        case measure => simp; omega
      · have hval : v = valP 0 ((digP t).take (min (n + 1) 5)) := by rw [hV.out, Nat.min_eq_right (by omega), Nat.min_eq_right (by omega)]
        have HX := Lib.hid hval
        clear hval hx hx2 hy hdg
        go_wp2
        go_round
        case rel => exact ⟨n + 1, v, by norm_cast, rfl, by omega, hv, Lib.hid HX.out⟩
        case measure => simp; omega
    · have hnd2 : n = d := by omega
      subst hnd2
      have hdr := run_from_ba Tryd.underlying9 t .i64 n n rfl hD
      have hbad : n = 0 ∨ 4 < n ∨ (1 < n ∧ t.head? = some 48) → numV t = 0 ∧ numR t = t ∧ numO t = false := fun h => num_bad (by rw [← HD.out]; exact h)
      have hgood : ¬ (n = 0 ∨ 4 < n ∨ (1 < n ∧ t.head? = some 48)) → numV t = v ∧ numR t = t.drop n ∧ numO t = true := fun h => by
        have h1 := num_good (t := t) (by rw [← HD.out]; exact h)
        have h2 : v = valP 0 (digP t) := by rw [hV.out, Nat.min_eq_left (by omega), List.take_of_length_le (by rw [← HD.out]; omega)]
        rw [h2, HD.out]
        exact h1
      have hstop : (t.length ≤ n) ∨ ∃ x, t[n]? = some x ∧ (x.toNat < 48 ∨ 57 < x.toNat) := by
        rcases Nat.lt_or_ge n t.length with hlt | hge
        · refine .inr ⟨t[n], List.getElem?_eq_getElem hlt, ?_⟩
          have h1 := digP_at t n (by rw [← HD.out]; exact Nat.le_refl _)
          rw [← HD.out] at h1
          have h2 : ¬ isDg t[n] = true := fun h => by have := h1.2 ⟨_, List.getElem?_eq_getElem hlt, h⟩; omega
          rw [isDg_iff] at h2
          omega
        · exact .inl hge
      have HB := Lib.hid hbad
      have HG := Lib.hid hgood
      clear hbad hgood hn hv hV
      have h0 : ∀ x, t[0]? = some x → ∀ W, (Instr.index 9 (.string (ba t)) (.int .i64 0)).run Tryd.prog W = .ok (.int .u8 x.toNat) W := fun x hx W => run_index_ba Tryd.underlying9 t .i64 0 0 rfl x hx W
      have H0 := Lib.hid h0
      clear h0
      have hh : t.head? = t[0]? := by cases t <;> rfl
      have HH := Lib.hid hh
      clear hh
      rcases hstop with hge | ⟨x, hx, hlo | hhi⟩
      · have hlt : ¬ ((n : Int) < t.length) := by omega
        clear hge
        by_cases hz : n = 0
        · have HHH := Lib.hid (HB.out (.inl hz))
          clear hnd
          subst hz
          go_wp2
          try (go_region; go_wp2)
          have hh1 := HHH.out
          (try simp only [Exit.inBlock, Exit.then]); refine bodyPost_ret (results_tmp3 rfl _ _ _) rfl ?_
          exact ⟨ret_num hh1, by first | exact Below.refl _ _ | exact (Below.refl _ _).drew⟩
        · have hzb : ((n : Int) == 0) = false := by simp; omega
          by_cases h4 : 4 < n
          · have hh1 := HB.out (.inr (.inl h4))
            have HHH := Lib.hid hh1
            clear hh1
            go_wp2
            try (go_region; go_wp2)
            (try simp only [Exit.inBlock, Exit.then]); refine bodyPost_ret (results_tmp3 rfl _ _ _) rfl ?_
            have hh1 := HHH.out
            exact ⟨ret_num hh1, by first | exact Below.refl _ _ | exact (Below.refl _ _).drew⟩
          · by_cases h1 : 1 < n
            · obtain ⟨z, hz0⟩ : ∃ z, t[0]? = some z := ⟨_, List.getElem?_eq_getElem (by omega)⟩
              have hi0 := H0.out z hz0
              by_cases h48 : z = 48
              · subst h48
                have hh1 := HB.out (.inr (.inr ⟨h1, by rw [HH.out, hz0]⟩))
                have HHH := Lib.hid hh1
                clear hh1 hz0
                have e48 : ((48 : UInt8).toNat : Int) = 48 := rfl
                go_wp2
                try (go_region; go_wp2)
                (try simp only [Exit.inBlock, Exit.then]); refine bodyPost_ret (results_tmp3 rfl _ _ _) rfl ?_
                have hh1 := HHH.out
                exact ⟨ret_num hh1, by first | exact Below.refl _ _ | exact (Below.refl _ _).drew⟩
              · have hh1 := HG.out (fun h => by rcases h with h | h | ⟨_, h⟩ <;> first | omega | (rw [HH.out, hz0] at h; exact h48 (Option.some.inj h)))
                have HHH := Lib.hid hh1
                clear hh1 hz0
                have hz48b : ((z.toNat : Int) == 48) = false := by
                  have : z.toNat ≠ 48 := fun e => h48 (UInt8.toNat_inj.1 (by rw [e]; rfl))
                  simp; omega
                clear h48
                go_wp2
                try (go_region; go_wp2)
                (try simp only [Exit.inBlock, Exit.then]); refine bodyPost_ret (results_tmp3 rfl _ _ _) rfl ?_
                have hh1 := HHH.out
                exact ⟨ret_num hh1, by first | exact Below.refl _ _ | exact (Below.refl _ _).drew⟩
            · have hh1 := HG.out (fun h => by rcases h with h | h | ⟨h, _⟩ <;> omega)
              have HHH := Lib.hid hh1
              clear hh1
              go_wp2
              try (go_region; go_wp2)
              (try simp only [Exit.inBlock, Exit.then]); refine bodyPost_ret (results_tmp3 rfl _ _ _) rfl ?_
              have hh1 := HHH.out
              exact ⟨ret_num hh1, by first | exact Below.refl _ _ | exact (Below.refl _ _).drew⟩
      · have hi := HI.out n x hx
        obtain ⟨y, hy⟩ : ∃ y, y = x.toNat := ⟨_, rfl⟩
        rw [← hy] at hi hlo
        have hlt : (n : Int) < t.length := by have := (List.getElem?_eq_some_iff.1 hx).1; omega
        clear hx hy
        by_cases hz : n = 0
        · have HHH := Lib.hid (HB.out (.inl hz))
          clear hnd
          subst hz
          have hi2 : ∀ W, (Instr.index 9 (.string (ba t)) (.int .i64 0)).run Tryd.prog W = .ok (.int .u8 y) W := hi
          go_wp2
          try (go_region; go_wp2)
          have hh1 := HHH.out
          (try simp only [Exit.inBlock, Exit.then]); refine bodyPost_ret (results_tmp3 rfl _ _ _) rfl ?_
          exact ⟨ret_num hh1, by first | exact Below.refl _ _ | exact (Below.refl _ _).drew⟩
        · have hzb : ((n : Int) == 0) = false := by simp; omega
          by_cases h4 : 4 < n
          · have hh1 := HB.out (.inr (.inl h4))
            have HHH := Lib.hid hh1
            clear hh1
            go_wp2
            try (go_region; go_wp2)
            (try simp only [Exit.inBlock, Exit.then]); refine bodyPost_ret (results_tmp3 rfl _ _ _) rfl ?_
            have hh1 := HHH.out
            exact ⟨ret_num hh1, by first | exact Below.refl _ _ | exact (Below.refl _ _).drew⟩
          · by_cases h1 : 1 < n
            · obtain ⟨z, hz0⟩ : ∃ z, t[0]? = some z := ⟨_, List.getElem?_eq_getElem (by omega)⟩
              have hi0 := H0.out z hz0
              by_cases h48 : z = 48
              · subst h48
                have hh1 := HB.out (.inr (.inr ⟨h1, by rw [HH.out, hz0]⟩))
                have HHH := Lib.hid hh1
                clear hh1 hz0
                have e48 : ((48 : UInt8).toNat : Int) = 48 := rfl
                go_wp2
                try (go_region; go_wp2)
                (try simp only [Exit.inBlock, Exit.then]); refine bodyPost_ret (results_tmp3 rfl _ _ _) rfl ?_
                have hh1 := HHH.out
                exact ⟨ret_num hh1, by first | exact Below.refl _ _ | exact (Below.refl _ _).drew⟩
              · have hh1 := HG.out (fun h => by rcases h with h | h | ⟨_, h⟩ <;> first | omega | (rw [HH.out, hz0] at h; exact h48 (Option.some.inj h)))
                have HHH := Lib.hid hh1
                clear hh1 hz0
                have hz48b : ((z.toNat : Int) == 48) = false := by
                  have : z.toNat ≠ 48 := fun e => h48 (UInt8.toNat_inj.1 (by rw [e]; rfl))
                  simp; omega
                clear h48
                go_wp2
                try (go_region; go_wp2)
                (try simp only [Exit.inBlock, Exit.then]); refine bodyPost_ret (results_tmp3 rfl _ _ _) rfl ?_
                have hh1 := HHH.out
                exact ⟨ret_num hh1, by first | exact Below.refl _ _ | exact (Below.refl _ _).drew⟩
            · have hh1 := HG.out (fun h => by rcases h with h | h | ⟨h, _⟩ <;> omega)
              have HHH := Lib.hid hh1
              clear hh1
              go_wp2
              try (go_region; go_wp2)
              (try simp only [Exit.inBlock, Exit.then]); refine bodyPost_ret (results_tmp3 rfl _ _ _) rfl ?_
              have hh1 := HHH.out
              exact ⟨ret_num hh1, by first | exact Below.refl _ _ | exact (Below.refl _ _).drew⟩
      · have hi := HI.out n x hx
        obtain ⟨y, hy⟩ : ∃ y, y = x.toNat := ⟨_, rfl⟩
        rw [← hy] at hi hhi
        have hlt : (n : Int) < t.length := by have := (List.getElem?_eq_some_iff.1 hx).1; omega
        clear hx hy
        by_cases hz : n = 0
        · have HHH := Lib.hid (HB.out (.inl hz))
          clear hnd
          subst hz
          have hi2 : ∀ W, (Instr.index 9 (.string (ba t)) (.int .i64 0)).run Tryd.prog W = .ok (.int .u8 y) W := hi
          go_wp2
          try (go_region; go_wp2)
          have hh1 := HHH.out
          (try simp only [Exit.inBlock, Exit.then]); refine bodyPost_ret (results_tmp3 rfl _ _ _) rfl ?_
          exact ⟨ret_num hh1, by first | exact Below.refl _ _ | exact (Below.refl _ _).drew⟩
        · have hzb : ((n : Int) == 0) = false := by simp; omega
          by_cases h4 : 4 < n
          · have hh1 := HB.out (.inr (.inl h4))
            have HHH := Lib.hid hh1
            clear hh1
            go_wp2
            try (go_region; go_wp2)
            (try simp only [Exit.inBlock, Exit.then]); refine bodyPost_ret (results_tmp3 rfl _ _ _) rfl ?_
            have hh1 := HHH.out
            exact ⟨ret_num hh1, by first | exact Below.refl _ _ | exact (Below.refl _ _).drew⟩
          · by_cases h1 : 1 < n
            · obtain ⟨z, hz0⟩ : ∃ z, t[0]? = some z := ⟨_, List.getElem?_eq_getElem (by omega)⟩
              have hi0 := H0.out z hz0
              by_cases h48 : z = 48
              · subst h48
                have hh1 := HB.out (.inr (.inr ⟨h1, by rw [HH.out, hz0]⟩))
                have HHH := Lib.hid hh1
                clear hh1 hz0
                have e48 : ((48 : UInt8).toNat : Int) = 48 := rfl
                go_wp2
                try (go_region; go_wp2)
                (try simp only [Exit.inBlock, Exit.then]); refine bodyPost_ret (results_tmp3 rfl _ _ _) rfl ?_
                have hh1 := HHH.out
                exact ⟨ret_num hh1, by first | exact Below.refl _ _ | exact (Below.refl _ _).drew⟩
              · have hh1 := HG.out (fun h => by rcases h with h | h | ⟨_, h⟩ <;> first | omega | (rw [HH.out, hz0] at h; exact h48 (Option.some.inj h)))
                have HHH := Lib.hid hh1
                clear hh1 hz0
                have hz48b : ((z.toNat : Int) == 48) = false := by
                  have : z.toNat ≠ 48 := fun e => h48 (UInt8.toNat_inj.1 (by rw [e]; rfl))
                  simp; omega
                clear h48
                go_wp2
                try (go_region; go_wp2)
                (try simp only [Exit.inBlock, Exit.then]); refine bodyPost_ret (results_tmp3 rfl _ _ _) rfl ?_
                have hh1 := HHH.out
                exact ⟨ret_num hh1, by first | exact Below.refl _ _ | exact (Below.refl _ _).drew⟩
            · have hh1 := HG.out (fun h => by rcases h with h | h | ⟨h, _⟩ <;> omega)
              have HHH := Lib.hid hh1
              clear hh1
              go_wp2
              try (go_region; go_wp2)
              (try simp only [Exit.inBlock, Exit.then]); refine bodyPost_ret (results_tmp3 rfl _ _ _) rfl ?_
              have hh1 := HHH.out
              exact ⟨ret_num hh1, by first | exact Below.refl _ _ | exact (Below.refl _ _).drew⟩

end Go.Proofs.YtnpobhgecfjfgaaDoor
