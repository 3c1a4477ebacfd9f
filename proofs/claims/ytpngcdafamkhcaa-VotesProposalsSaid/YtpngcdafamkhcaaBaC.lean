/-
  The program's checkSizes, checkEntry.
-/
import Derived.Test.YtpngcdafamkhcaaBaM
import Derived.WalkSpells
import Derived.Deep.QuietTactic
namespace Go.Proofs.Ytpngcdafamkhcaa
open Go.RowKit

set_option maxHeartbeats 1000000 in
theorem checksizes_any (many : Nat) (n : Int) (w : World) : Calls Try.prog 49 #[.int .i64 (many : Int), .int .i64 n] w fun e w' => e = .returned (.int .i64 (sizesE many n)) ∧ w' = w := by
  by_cases h1 : n < 1
  · have d1 : decide (n < 1) = true := by simpa using h1
    have HV : Hid (sizesE many n = 1) := Lib.hid (by unfold sizesE; rw [if_pos (.inl h1)])
    go_enter Try.func49, Try.ntmps49
    go_wp2
    go_ret
    exact ⟨ret_i HV.out.symm, rfl⟩
  have d1 : decide (n < 1) = false := by simpa using h1
  by_cases h2 : 7 < n
  · have d2 : decide (7 < n) = true := by simpa using h2
    have HV : Hid (sizesE many n = 1) := Lib.hid (by unfold sizesE; rw [if_pos (.inr h2)])
    go_enter Try.func49, Try.ntmps49
    go_wp2
    go_ret
    exact ⟨ret_i HV.out.symm, rfl⟩
  have d2 : decide (7 < n) = false := by simpa using h2
  by_cases h3 : 4 < many
  · have d3 : decide ((4 : Int) < (many : Int)) = true := by simp; omega
    have HV : Hid (sizesE many n = 4) := Lib.hid (by unfold sizesE; rw [if_neg (by omega), if_pos h3])
    go_enter Try.func49, Try.ntmps49
    go_wp2
    go_ret
    exact ⟨ret_i HV.out.symm, rfl⟩
  · have d3 : decide ((4 : Int) < (many : Int)) = false := by simp; omega
    have HV : Hid (sizesE many n = 0) := Lib.hid (by unfold sizesE; rw [if_neg (by omega), if_neg h3])
    go_enter Try.func49, Try.ntmps49
    go_wp2
    go_ret
    exact ⟨ret_i HV.out.symm, rfl⟩

theorem pow_w (n : Int) (h1 : 1 ≤ n) (h7 : n ≤ 7) : (2 : Int) ^ n.toNat % 4294967296 = ((2 ^ n.toNat : Nat) : Int) := by
  have : n = 1 ∨ n = 2 ∨ n = 3 ∨ n = 4 ∨ n = 5 ∨ n = 6 ∨ n = 7 := by omega
  rcases this with rfl | rfl | rfl | rfl | rfl | rfl | rfl <;> rfl
set_option maxHeartbeats 4000000 in
set_option maxRecDepth 100000 in
theorem checkentry_any (ahead : List Ey) (y : Ey) (er n : Int) (A : Option Addr) (k c : Nat) (w : World) (h : EysIn w A k ahead) (hk : k ≤ 1000000) (hn : er = 0 → 1 ≤ n ∧ n ≤ 7) :
    Calls Try.prog 51 #[.slice A k c, .agg #[.int .i64 y.co.cl, .int .i64 y.co.sp, .int .i64 y.co.op, .string (ba y.co.lt), .int .i64 y.co.a, .int .i64 y.co.b, .string (ba y.co.tx), .int .u32 (y.ms : Int)], .int .i64 er, .int .i64 n] w fun e w' => e = .returned (.int .i64 (chk1 n (lastC ahead) er y)) ∧ Below w.heap.size w w' := by
  have HX : Hid (Below w.heap.size w (w.alloc (.cells #[.int .i64 y.co.cl, .int .i64 y.co.sp, .int .i64 y.co.op, .string (ba y.co.lt), .int .i64 y.co.a, .int .i64 y.co.b, .string (ba y.co.tx), .int .u32 (y.ms : Int)] 30))) := Lib.hid ((Below.refl _ w).alloc (Nat.le_refl _) _)
  have HB : Hid (Blk (w.alloc (.cells #[.int .i64 y.co.cl, .int .i64 y.co.sp, .int .i64 y.co.op, .string (ba y.co.lt), .int .i64 y.co.a, .int .i64 y.co.b, .string (ba y.co.tx), .int .u32 (y.ms : Int)] 30)) w.heap.size 30 [.int .i64 y.co.cl, .int .i64 y.co.sp, .int .i64 y.co.op, .string (ba y.co.lt), .int .i64 y.co.a, .int .i64 y.co.b, .string (ba y.co.tx), .int .u32 (y.ms : Int)]) := Lib.hid (Blk.fresh rfl rfl)
  have c0 := HB.out.cellAt (i := 0) rfl
  have c7 := HB.out.cellAt (i := 7) rfl
  by_cases he : er = 0
  case neg =>
    have e1 : (er == 0) = false := by simpa using he
    have e2 : (er != 0) = true := by simpa using he
    have HV : Hid (chk1 n (lastC ahead) er y = er) := Lib.hid (by unfold chk1; rw [if_pos he])
    clear h hn he hk
    go_enter Try.func51, Try.ntmps51
    go_wp2
    go_ret
    exact ⟨ret_i HV.out.symm, HX.out⟩
  obtain ⟨n1, n7⟩ := hn he
  subst he
  have hpw := pow_w n n1 n7
  obtain ⟨B, hB⟩ : ∃ B : Nat, 2 ^ n.toNat = B := ⟨_, rfl⟩
  rw [hB] at hpw
  by_cases hm : B ≤ y.ms
  case pos =>
    have d1 : decide ((2 : Int) ^ n.toNat % 4294967296 ≤ (y.ms : Int)) = true := by rw [hpw]; simpa using hm
    have HV : Hid (chk1 n (lastC ahead) 0 y = 5) := Lib.hid (by unfold chk1; rw [if_neg (by simp), hB, if_pos hm])
    clear h hn hm hk hpw hB
    go_enter Try.func51, Try.ntmps51
    go_wp2
    go_quiet (fail)
    go_wp2
    go_ret
    exact ⟨ret_i HV.out.symm, below_drewN HX.out _⟩
  have d1 : decide ((2 : Int) ^ n.toNat % 4294967296 ≤ (y.ms : Int)) = false := by rw [hpw]; simpa using hm
  by_cases hk0 : k = 0
  · subst hk0
    have ha : ahead = [] := List.eq_nil_of_length_eq_zero h.len
    have HV : Hid (chk1 n (lastC ahead) 0 y = 0) := Lib.hid (by unfold chk1; rw [if_neg (by simp), hB, if_neg hm, ha]; rfl)
    clear h hn hm hk hpw hB ha
    go_enter Try.func51, Try.ntmps51
    go_wp2
    go_quiet (fail)
    go_wp2
    go_quiet (fail)
    go_wp2
    go_ret
    exact ⟨ret_i HV.out.symm, below_drewN (below_drewN HX.out _) _⟩
  have hlt : k - 1 < k := by omega
  obtain ⟨g, o, x, rfl, hx, _, _, hrx⟩ := h.at hlt
  have hl := h.len
  have hla : lastC ahead = some x.co.cl := by
    have h9 := lastC_take (es := ahead) (i := k - 1) (by omega)
    rw [show k - 1 + 1 = ahead.length by omega, List.take_length] at h9
    rw [h9]
    rw [List.getElem?_eq_getElem (by omega)] at hx
    rw [Option.some.inj hx]
  obtain ⟨k', rfl⟩ : ∃ k', k = k' + 1 := ⟨k - 1, by omega⟩
  have hx0 : (w.alloc (.cells #[.int .i64 y.co.cl, .int .i64 y.co.sp, .int .i64 y.co.op, .string (ba y.co.lt), .int .i64 y.co.a, .int .i64 y.co.b, .string (ba y.co.tx), .int .u32 (y.ms : Int)] 30)).cell? ⟨g, o + k' * 8, none⟩ = some (.int .i64 x.co.cl) := (HX.out.cell (p := ⟨g, o + k' * 8, none⟩) (World.block_lt_of_cell? w ⟨g, o + k' * 8 + 0, none⟩ (hrx 0 _ rfl))).trans (hrx 0 _ rfl)
  have hix := fun (W : World) => Try.ix_ey W g o (k' + 1) c k' (by omega)
  have hw : IntKind.i64.wrap (k' : Int) = (k' : Int) := IntWalk.i64_in _ (by omega)
  by_cases hc : y.co.cl ≤ x.co.cl
  · have d3 : decide (y.co.cl ≤ x.co.cl) = true := by simpa using hc
    have HV : Hid (chk1 n (lastC ahead) 0 y = 15) := Lib.hid (by unfold chk1; rw [if_neg (by simp), hB, if_neg hm, hla]; simp [hc])
    clear h hn hm hk hpw hB hx hrx hl hla hc
    go_enter Try.func51, Try.ntmps51
    go_wp2
    go_quiet (fail)
    go_wp2
    go_quiet (fail)
    go_wp2
    go_ret
    exact ⟨ret_i HV.out.symm, below_drewN (below_drewN HX.out _) _⟩
  · have d3 : decide (y.co.cl ≤ x.co.cl) = false := by simpa using hc
    have HV : Hid (chk1 n (lastC ahead) 0 y = 0) := Lib.hid (by unfold chk1; rw [if_neg (by simp), hB, if_neg hm, hla]; simp [hc])
    clear h hn hm hk hpw hB hx hrx hl hla hc
    go_enter Try.func51, Try.ntmps51
    go_wp2
    go_quiet (fail)
    go_wp2
    go_quiet (fail)
    go_wp2
    go_ret
    exact ⟨ret_i HV.out.symm, below_drewN (below_drewN HX.out _) _⟩

end Go.Proofs.Ytpngcdafamkhcaa
