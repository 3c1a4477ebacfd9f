/-
  TermsBlanks, walked.
-/
import Derived.Test.YtnpobhgecfjfgaaDoorLPrints
namespace Go.Proofs.YtnpobhgecfjfgaaDoor
open Go.RowKit

/-- The slice '.slice A n _' reads, in w, as these bytes. -/
def Bb (w : World) (A : Option Addr) (n : Nat) (xs : List UInt8) : Prop :=
  xs.length = n ∧ (0 < n → ∃ g o, A = some ⟨g, o, none⟩ ∧ ∀ (j : Nat) (u : UInt8), xs[j]? = some u → w.cell? ⟨g, o + j, none⟩ = some (.int .u8 (u.toNat : Int)))
theorem Bb.through {w w' : World} {A : Option Addr} {n : Nat} {xs : List UInt8} (h : Bb w A n xs) (hb : Below w.heap.size w w') : Bb w' A n xs :=
  ⟨h.1, fun hn => by
    obtain ⟨g, o, e, hc⟩ := h.2 hn
    exact ⟨g, o, e, fun j u hu => (World.cell?_of_block (a := ⟨g, o + j, none⟩) (hb.block g (World.block_lt_of_cell? w ⟨g, o + j, none⟩ (hc j u hu)))).trans (hc j u hu)⟩⟩
theorem run_one_ba {P : Program} {t : TypeId} (ht : P.underlying t = some .string) (l : List UInt8) (n : Nat) (x : UInt8) (hx : l[n]? = some x) (w : World) : (Instr.slice t (.string (ba l)) (some (.int .i64 (n : Int))) (some (.int .i64 ((n : Int) + 1))) none).run P w = .ok (.string (ba [x])) w := by
  have hn : n < l.length := (List.getElem?_eq_some_iff.1 hx).1
  rw [run_slice_string w t (ba l) .i64 .i64 n (n + 1) ht (by omega) (by omega) (by rw [ba_size]; omega)]
  have e : ((n : Int) + 1).toNat = n + 1 := by omega
  rw [Int.toNat_natCast, e, ba_extract, take_succ' hx, List.drop_append, List.drop_take]
  simp [show n ≤ l.length by omega]
/-- whether '(' or ',' stands ahead of place i -/
def opAt (P : List UInt8) (i : Nat) : Bool := if i = 0 then false else isOp (P.getD (i - 1) 0)
theorem opAt_succ {P : List UInt8} {i : Nat} {x : UInt8} (hx : P[i]? = some x) : opAt P (i + 1) = isOp x := by
  unfold opAt
  rw [if_neg (by omega), Nat.add_sub_cancel, List.getD, hx]
  rfl
theorem ins_step {P u : List UInt8} {i m : Nat} {x : UInt8} (hx : P[i]? = some x) (hinv : ∀ t', Ins (opAt P i) (P.drop i) t' → Ins false P (u ++ t')) (hc : m = 0 ∨ opAt P i = true ∨ isSep x = true) :
    ∀ t', Ins (opAt P (i + 1)) (P.drop (i + 1)) t' → Ins false P (u ++ List.replicate m 32 ++ [x] ++ t') := fun t' ht => by
  have hi : i < P.length := (List.getElem?_eq_some_iff.1 hx).1
  have hd : P.drop i = x :: P.drop (i + 1) := by rw [List.drop_eq_getElem_cons hi, (List.getElem?_eq_some_iff.1 hx).2]
  rw [opAt_succ hx] at ht
  have h1 := hinv (List.replicate m 32 ++ x :: t') (by
    rw [hd]
    refine ⟨List.replicate m 32, t', fun y hy => (List.mem_replicate.1 hy).2, ?_, rfl, ht⟩
    rcases hc with rfl | h | h
    · exact .inl rfl
    · exact .inr (.inl h)
    · exact .inr (.inr h))
  simpa [List.append_assoc] using h1
theorem ins_start (P : List UInt8) : ∀ t', Ins (opAt P 0) (P.drop 0) t' → Ins false P ([] ++ t') := fun t' h => by
  rw [List.nil_append]
  exact h
theorem ins_end {P u : List UInt8} {i : Nat} (hi : P.length ≤ i) (hinv : ∀ t', Ins (opAt P i) (P.drop i) t' → Ins false P (u ++ t')) : Ins false P u := by
  have h := hinv [] (by rw [List.drop_of_length_le hi]; exact rfl)
  rwa [List.append_nil] at h
theorem parse_blanks {f : Fm} {u : List UInt8} (h : f.check 7 = 0) (hi : Ins false (printO f) u) (hl : u.length ≤ 200) : parseP u 7 = (f, 0) := by
  have hm := Fm.check_mb h
  obtain ⟨h1, h2, h3⟩ := (Fm.mb_iff f).1 hm
  have e : printO f = printP f := by unfold printO; rw [if_pos hm]
  rw [e] at hi
  exact parse_sp (ins_sp h3 (by omega) hi) hl h3 h1 h2 h
theorem sep_of {x : UInt8} (h : x = 40 ∨ x = 41 ∨ x = 44) : isSep x = true := by rcases h with rfl | rfl | rfl <;> rfl
theorem op_of {x : UInt8} (h : x = 40 ∨ x = 44) : isOp x = true := by rcases h with rfl | rfl <;> rfl

set_option maxHeartbeats 16000000 in
set_option maxRecDepth 100000 in
theorem lblanks_any (f : Fm) (A : Option Addr) (m c : Nat) (bA : Option Addr) (bn bc : Nat) (xs : List UInt8) (w : World) (h : f.In w (fun _ => True) A m) (hbb : Bb w bA bn xs) (he : EV w) :
    Calls Tryd.prog 5 #[f.val A m c, .slice bA bn bc] w fun e w' => e = .returned (.bool true) ∧ Below w.heap.size w w' := by
  have hsz := ba_size
  have hli := ba_list
  have hap := ba_append
  have hfw : ∀ W : World, f.In W (fun _ => True) A m → Calls Tryd.prog 10 #[.agg #[.int .i64 f.org, .int .i64 f.nd, .slice A m c], .int .i64 1] W fun e w' => e = .returned (.tuple #[.int .i64 (fewP 1 f).1, .bool (fewP 1 f).2]) ∧ Below W.heap.size W w' := fun W h => few_walk f 1 A m c W h
  have HX0 : Hid (Below w.heap.size w (w.alloc (.cells #[.int .i64 f.org, .int .i64 f.nd, .slice A m c] 25))) := Lib.hid ((Below.refl _ w).alloc (Nat.le_refl _) _)
  have HB0 : Hid (Blk (w.alloc (.cells #[.int .i64 f.org, .int .i64 f.nd, .slice A m c] 25)) w.heap.size 25 [.int .i64 f.org, .int .i64 f.nd, .slice A m c]) := Lib.hid (Blk.fresh rfl rfl)
  have HI0 := Lib.hid (h.alloc (.cells #[.int .i64 f.org, .int .i64 f.nd, .slice A m c] 25))
  have HE0 := Lib.hid (he.alloc (.cells #[.int .i64 f.org, .int .i64 f.nd, .slice A m c] 25))
  have HD0 := Lib.hid (hbb.through HX0.out)
  unfold Fm.val
  cases hok : (fewP 1 f).2 with
  | false =>
    rw [hok] at hfw
    have HW := Lib.hid hfw
    clear hfw h he hok hbb
    go_enter Tryd.func5, Tryd.ntmps5
    go_wp2_with (first
      | (go_at_call 6; (with_reducible refine (fixed_any _ HE0.out).mono ?_); rintro e w1 ⟨rfl, hb⟩; have HX1 := Lib.hid (below_step HX0.out hb); have HB1 := Lib.hid (HB0.out.through hb); have HI1 := Lib.hid (HI0.out.through hb); have HE1 := Lib.hid (HE0.out.through hb); have HD1 := Lib.hid (HD0.out.through hb); clear hb)
      | (refine wpList_load_blk rfl 25 (.tmp 2) rfl w.heap.size rfl 25 [.int .i64 f.org, .int .i64 f.nd, .slice A m c] _ HB1.out Tryd.underlying25 rfl (by kernel_rfl) ?_)
      | (go_at_call 10; (with_reducible refine (HW.out _ HI1.out).mono ?_); rintro e w2 ⟨rfl, hb⟩; have HX2 := Lib.hid (below_step HX1.out hb); have HB2 := Lib.hid (HB1.out.through hb); have HI2 := Lib.hid (HI1.out.through hb); have HE2 := Lib.hid (HE1.out.through hb); have HD2 := Lib.hid (HD1.out.through hb); clear hb))
    go_ret
    exact ⟨rfl, HX2.out⟩
  | true =>
    have hz := few_ok hok
    have hpr : ∀ W : World, f.In W (fun _ => True) A m → Calls Tryd.prog 11 #[.agg #[.int .i64 f.org, .int .i64 f.nd, .slice A m c]] W fun e w' => e = .returned (.string (ba (printO f))) ∧ Below W.heap.size W w' := fun W h => pprint_any f A m c W hz h
    have hck : ∀ W : World, f.In W (fun _ => True) A m → Calls Tryd.prog 13 #[.agg #[.int .i64 f.org, .int .i64 f.nd, .slice A m c], .int .i64 7] W fun e w' => e = .returned (.int .i64 (f.check 7)) ∧ Below W.heap.size W w' := fun W h => rcheck_any f 7 A m c W hz h
    rw [hok] at hfw
    have HW := Lib.hid hfw
    by_cases hc : f.check 7 = 0
    · rw [hc] at hck
      have HC := Lib.hid hck
      by_cases hn : 300 < bn
      · clear hfw h he hok hbb hck hpr hz hc
        go_enter Tryd.func5, Tryd.ntmps5
        go_wp2_with (first
          | (go_at_call 6; (with_reducible refine (fixed_any _ HE0.out).mono ?_); rintro e w1 ⟨rfl, hb⟩; have HX1 := Lib.hid (below_step HX0.out hb); have HB1 := Lib.hid (HB0.out.through hb); have HI1 := Lib.hid (HI0.out.through hb); have HE1 := Lib.hid (HE0.out.through hb); have HD1 := Lib.hid (HD0.out.through hb); clear hb)
          | (refine wpList_load_blk rfl 25 (.tmp 2) rfl w.heap.size rfl 25 [.int .i64 f.org, .int .i64 f.nd, .slice A m c] _ HB1.out Tryd.underlying25 rfl (by kernel_rfl) ?_)
          | (go_at_call 10; (with_reducible refine (HW.out _ HI1.out).mono ?_); rintro e w2 ⟨rfl, hb⟩; have HX2 := Lib.hid (below_step HX1.out hb); have HB2 := Lib.hid (HB1.out.through hb); have HI2 := Lib.hid (HI1.out.through hb); have HE2 := Lib.hid (HE1.out.through hb); have HD2 := Lib.hid (HD1.out.through hb); clear hb)
          | (refine wpList_load_blk_g 25 (.tmp 2) rfl (by kernel_rfl) w.heap.size rfl 25 [.int .i64 f.org, .int .i64 f.nd, .slice A m c] _ HB2.out Tryd.underlying25 rfl (by kernel_rfl) ?_)
          | (go_at_call 13; (with_reducible refine (HC.out _ HI2.out).mono ?_); rintro e w3 ⟨rfl, hb⟩; have HX3 := Lib.hid (below_step HX2.out hb); have HB3 := Lib.hid (HB2.out.through hb); have HI3 := Lib.hid (HI2.out.through hb); have HE3 := Lib.hid (HE2.out.through hb); have HD3 := Lib.hid (HD2.out.through hb); clear hb))
        go_ret
        exact ⟨rfl, HX3.out⟩
      · have hs : ∀ (B : Option Addr) (m' c' : Nat) (W : World), f.In W (fun _ => True) A m → f.In W (fun _ => True) B m' → Calls Tryd.prog 9 #[.agg #[.int .i64 f.org, .int .i64 f.nd, .slice A m c], .agg #[.int .i64 f.org, .int .i64 f.nd, .slice B m' c']] W fun e w' => e = .returned (.bool true) ∧ Below W.heap.size W w' := fun B m' c' W h1 h2 => by
          have := rsame_any f f A B m c m' c' W h1 h2
          rw [f.same_self] at this
          exact this
        have hpa : ∀ u : List UInt8, u.length ≤ 200 → Ins false (printO f) u → ∀ W : World, EV W → Calls Tryd.prog 7 #[.string (ba u), .int .i64 7] W fun e w' => ∃ B m' c', e = .returned (.tuple #[.agg #[.int .i64 f.org, .int .i64 f.nd, .slice B m' c'], .int .i64 0]) ∧ f.In w' (fun _ => True) B m' ∧ Below W.heap.size W w' := fun u hl hi W he => (pparse_any u 7 W (by omega) he).mono fun e w' ⟨⟨B, m', c', h1, h2⟩, h3⟩ => by
          rw [parse_blanks hc hi hl] at h1 h2
          exact ⟨B, m', c', h1, h2.any, h3⟩
        have hplen : (printO f).length ≤ 2000 := by
          unfold printO
          split
          · rename_i hm
            obtain ⟨h1, h2, h3⟩ := (Fm.mb_iff f).1 hm
            have := printP_len f h3 (by omega)
            omega
          · simp
        have HP := Lib.hid hpr
        have HS := Lib.hid hs
        have HPaA := Lib.hid hpa
        have hxl : xs.length = bn := hbb.1
        clear hfw h he hok hbb hck hpr hz hc hs hpa
        obtain ⟨P, hP⟩ : ∃ P, printO f = P := ⟨_, rfl⟩
        rw [hP] at HP HPaA hplen
        clear hP
        have hsp : (⟨#[32]⟩ : ByteArray) = ba [32] := rfl
        go_enter Tryd.func5, Tryd.ntmps5
        go_wp2_with (first
          | (go_at_call 6; (with_reducible refine (fixed_any _ HE0.out).mono ?_); rintro e w1 ⟨rfl, hb⟩; have HX1 := Lib.hid (below_step HX0.out hb); have HB1 := Lib.hid (HB0.out.through hb); have HI1 := Lib.hid (HI0.out.through hb); have HE1 := Lib.hid (HE0.out.through hb); have HD1 := Lib.hid (HD0.out.through hb); clear hb)
          | (refine wpList_load_blk rfl 25 (.tmp 2) rfl w.heap.size rfl 25 [.int .i64 f.org, .int .i64 f.nd, .slice A m c] _ HB1.out Tryd.underlying25 rfl (by kernel_rfl) ?_)
          | (go_at_call 10; (with_reducible refine (HW.out _ HI1.out).mono ?_); rintro e w2 ⟨rfl, hb⟩; have HX2 := Lib.hid (below_step HX1.out hb); have HB2 := Lib.hid (HB1.out.through hb); have HI2 := Lib.hid (HI1.out.through hb); have HE2 := Lib.hid (HE1.out.through hb); have HD2 := Lib.hid (HD1.out.through hb); clear hb)
          | (refine wpList_load_blk_g 25 (.tmp 2) rfl (by kernel_rfl) w.heap.size rfl 25 [.int .i64 f.org, .int .i64 f.nd, .slice A m c] _ HB2.out Tryd.underlying25 rfl (by kernel_rfl) ?_)
          | (go_at_call 13; (with_reducible refine (HC.out _ HI2.out).mono ?_); rintro e w3 ⟨rfl, hb⟩; have HX3 := Lib.hid (below_step HX2.out hb); have HB3 := Lib.hid (HB2.out.through hb); have HI3 := Lib.hid (HI2.out.through hb); have HE3 := Lib.hid (HE2.out.through hb); have HD3 := Lib.hid (HD2.out.through hb); clear hb)
          | (refine wpList_load_blk rfl 25 (.tmp 2) rfl w.heap.size rfl 25 [.int .i64 f.org, .int .i64 f.nd, .slice A m c] _ HB3.out Tryd.underlying25 rfl (by kernel_rfl) ?_)
          | (go_at_call 11; (with_reducible refine (HP.out _ HI3.out).mono ?_); rintro e w4 ⟨rfl, hb⟩; have HX4 := Lib.hid (below_step HX3.out hb); have HB4 := Lib.hid (HB3.out.through hb); have HI4 := Lib.hid (HI3.out.through hb); have HE4 := Lib.hid (HE3.out.through hb); have HD4 := Lib.hid (HD3.out.through hb); clear hb))
        go_loop [8, 9] (fun tv iv => ∃ (i : Nat) (u : List UInt8), i ≤ P.length ∧ iv = .int .i64 (i : Int) ∧ tv = .string (ba u) ∧ u.length ≤ 4 * i ∧ Hid (∀ t', Ins (opAt P i) (P.drop i) t' → Ins false P (u ++ t'))) (fun _ iv => P.length - (intOf iv).toNat)
        case atStart => exact ⟨0, [], Nat.zero_le _, rfl, rfl, Nat.zero_le _, Lib.hid (ins_start P)⟩
        case round =>
          obtain ⟨i, u, hi, rfl, rfl, hul, hinv⟩ := hrel
          by_cases hlt : i < P.length
          · obtain ⟨x, hx⟩ : ∃ x, P[i]? = some x := ⟨_, List.getElem?_eq_getElem hlt⟩
            have hix := fun W => run_index_ba Tryd.underlying9 P .i64 i i rfl x hx W
            have hone := fun W => run_one_ba Tryd.underlying9 P i x hx W
            obtain ⟨a, ha⟩ : ∃ a : Int, (x.toNat : Int) = a := ⟨_, rfl⟩
            rw [ha] at hix
            have hne : ∀ n : UInt8, x ≠ n → a ≠ (n.toNat : Int) := fun n hn e => hn (UInt8.toNat_inj.1 (by omega))
            have HNe := Lib.hid hne
            clear hne
            by_cases hib : i < bn
            · obtain ⟨z, hz⟩ : ∃ z, xs[i]? = some z := ⟨_, List.getElem?_eq_getElem (by omega)⟩
              obtain ⟨g, og, rfl, hcell⟩ := HD4.out.2 (by omega)
              have hc0 := hcell i z hz
              obtain ⟨zz, hzz⟩ : ∃ zz : Int, (z.toNat : Int) = zz := ⟨_, rfl⟩
              rw [hzz] at hc0
              obtain ⟨k, hk, hk4⟩ : ∃ k : Nat, zz.tmod 4 = (k : Int) ∧ k < 4 := ⟨z.toNat % 4, by rw [← hzz, Int.tmod_eq_emod_of_nonneg (by omega)]; omega, by omega⟩
              clear hz hzz hcell
              by_cases x40 : x = 40
              · have fa40 : (a == 40) = true := by rw [← ha, x40]; rfl
                have HFin := Lib.hid (ins_step (m := k) hx hinv.out (.inr (.inr (sep_of (.inl x40)))))
                clear hx ha x40
                go_wp2
                go_loop [8, 84] (fun tv jv => ∃ j : Nat, j ≤ k ∧ jv = .int .u8 (j : Int) ∧ tv = .string (ba (u ++ List.replicate j 32))) (fun _ jv => k - (intOf jv).toNat)
                case atStart => exact ⟨0, Nat.zero_le _, rfl, by simp⟩
                case round =>
                  obtain ⟨j, hj, rfl, rfl⟩ := hrel
                  by_cases hjk : j < k
                  · go_wp2
                    go_round
                    case rel => exact ⟨j + 1, by omega, by go_num, by rw [List.replicate_succ']⟩
                    case measure => simp [intOf]; omega
                  · obtain rfl : j = k := by omega
                    go_wp2
                    go_round
                    case rel => exact ⟨i + 1, u ++ List.replicate j 32 ++ [x], by omega, by go_num, by rw [List.append_assoc], by simp; omega, HFin⟩
                    case measure => simp [intOf]; omega
              · have fa40 : (a == 40) = false := by have h9 := HNe.out 40 x40; have h8 : (((40 : UInt8).toNat : Nat) : Int) = 40 := rfl; rw [h8] at h9; simp; omega
                by_cases x44 : x = 44
                · have fa44 : (a == 44) = true := by rw [← ha, x44]; rfl
                  have HFin := Lib.hid (ins_step (m := k) hx hinv.out (.inr (.inr (sep_of (.inr (.inr x44))))))
                  clear hx ha x44
                  go_wp2
                  go_loop [8, 84] (fun tv jv => ∃ j : Nat, j ≤ k ∧ jv = .int .u8 (j : Int) ∧ tv = .string (ba (u ++ List.replicate j 32))) (fun _ jv => k - (intOf jv).toNat)
                  case atStart => exact ⟨0, Nat.zero_le _, rfl, by simp⟩
                  case round =>
                    obtain ⟨j, hj, rfl, rfl⟩ := hrel
                    by_cases hjk : j < k
                    · go_wp2
                      go_round
                      case rel => exact ⟨j + 1, by omega, by go_num, by rw [List.replicate_succ']⟩
                      case measure => simp [intOf]; omega
                    · obtain rfl : j = k := by omega
                      go_wp2
                      go_round
                      case rel => exact ⟨i + 1, u ++ List.replicate j 32 ++ [x], by omega, by go_num, by rw [List.append_assoc], by simp; omega, HFin⟩
                      case measure => simp [intOf]; omega
                · have fa44 : (a == 44) = false := by have h9 := HNe.out 44 x44; have h8 : (((44 : UInt8).toNat : Nat) : Int) = 44 := rfl; rw [h8] at h9; simp; omega
                  by_cases x41 : x = 41
                  · have fa41 : (a == 41) = true := by rw [← ha, x41]; rfl
                    have HFin := Lib.hid (ins_step (m := k) hx hinv.out (.inr (.inr (sep_of (.inr (.inl x41))))))
                    clear hx ha x41
                    go_wp2
                    go_loop [8, 84] (fun tv jv => ∃ j : Nat, j ≤ k ∧ jv = .int .u8 (j : Int) ∧ tv = .string (ba (u ++ List.replicate j 32))) (fun _ jv => k - (intOf jv).toNat)
                    case atStart => exact ⟨0, Nat.zero_le _, rfl, by simp⟩
                    case round =>
                      obtain ⟨j, hj, rfl, rfl⟩ := hrel
                      by_cases hjk : j < k
                      · go_wp2
                        go_round
                        case rel => exact ⟨j + 1, by omega, by go_num, by rw [List.replicate_succ']⟩
                        case measure => simp [intOf]; omega
                      · obtain rfl : j = k := by omega
                        go_wp2
                        go_round
                        case rel => exact ⟨i + 1, u ++ List.replicate j 32 ++ [x], by omega, by go_num, by rw [List.append_assoc], by simp; omega, HFin⟩
                        case measure => simp [intOf]; omega
                  · have fa41 : (a == 41) = false := by have h9 := HNe.out 41 x41; have h8 : (((41 : UInt8).toNat : Nat) : Int) = 41 := rfl; rw [h8] at h9; simp; omega
                    by_cases hi0 : i = 0
                    · subst hi0
                      have hix0 : ∀ W, (Instr.index 9 (.string (ba P)) (.int .i64 0)).run Tryd.prog W = .ok (.int .u8 a) W := hix
                      have hone0 : ∀ W, (Instr.slice 9 (.string (ba P)) (some (.int .i64 0)) (some (.int .i64 1)) none).run Tryd.prog W = .ok (.string (ba [x])) W := hone
                      have HFin := Lib.hid (ins_step (m := 0) hx hinv.out (.inl rfl))
                      clear hx ha
                      go_wp2
                      go_round
                      case rel => exact ⟨1, u ++ [x], by omega, by go_num, rfl, by simp; omega, by simpa using HFin⟩
                      case measure => simp [intOf]; omega
                    · obtain ⟨y, hy⟩ : ∃ y, P[i - 1]? = some y := ⟨_, List.getElem?_eq_getElem (by omega)⟩
                      have hiy := fun W => run_index_ba Tryd.underlying9 P .i64 ((i : Int) - 1) (i - 1) (by omega) y hy W
                      have hop : opAt P i = isOp y := by unfold opAt; rw [if_neg hi0, List.getD, hy]; rfl
                      obtain ⟨b, hb⟩ : ∃ b : Int, (y.toNat : Int) = b := ⟨_, rfl⟩
                      rw [hb] at hiy
                      have hney : ∀ n : UInt8, y ≠ n → b ≠ (n.toNat : Int) := fun n hn e => hn (UInt8.toNat_inj.1 (by omega))
                      have HNy := Lib.hid hney
                      clear hney hy
                      by_cases y40 : y = 40
                      · have fb40 : (b == 40) = true := by rw [← hb, y40]; rfl
                        clear hb
                        have HFin := Lib.hid (ins_step (m := k) hx hinv.out (.inr (.inl (by rw [hop]; exact op_of (.inl y40)))))
                        clear hx ha y40
                        go_wp2
                        go_loop [8, 84] (fun tv jv => ∃ j : Nat, j ≤ k ∧ jv = .int .u8 (j : Int) ∧ tv = .string (ba (u ++ List.replicate j 32))) (fun _ jv => k - (intOf jv).toNat)
                        case atStart => exact ⟨0, Nat.zero_le _, rfl, by simp⟩
                        case round =>
                          obtain ⟨j, hj, rfl, rfl⟩ := hrel
                          by_cases hjk : j < k
                          · go_wp2
                            go_round
                            case rel => exact ⟨j + 1, by omega, by go_num, by rw [List.replicate_succ']⟩
                            case measure => simp [intOf]; omega
                          · obtain rfl : j = k := by omega
                            go_wp2
                            go_round
                            case rel => exact ⟨i + 1, u ++ List.replicate j 32 ++ [x], by omega, by go_num, by rw [List.append_assoc], by simp; omega, HFin⟩
                            case measure => simp [intOf]; omega
                      · have fb40 : (b == 40) = false := by have h9 := HNy.out 40 y40; have h8 : (((40 : UInt8).toNat : Nat) : Int) = 40 := rfl; rw [h8] at h9; simp; omega
                        by_cases y44 : y = 44
                        · have fb44 : (b == 44) = true := by rw [← hb, y44]; rfl
                          clear hb
                          have HFin := Lib.hid (ins_step (m := k) hx hinv.out (.inr (.inl (by rw [hop]; exact op_of (.inr y44)))))
                          clear hx ha y44
                          go_wp2
                          go_loop [8, 84] (fun tv jv => ∃ j : Nat, j ≤ k ∧ jv = .int .u8 (j : Int) ∧ tv = .string (ba (u ++ List.replicate j 32))) (fun _ jv => k - (intOf jv).toNat)
                          case atStart => exact ⟨0, Nat.zero_le _, rfl, by simp⟩
                          case round =>
                            obtain ⟨j, hj, rfl, rfl⟩ := hrel
                            by_cases hjk : j < k
                            · go_wp2
                              go_round
                              case rel => exact ⟨j + 1, by omega, by go_num, by rw [List.replicate_succ']⟩
                              case measure => simp [intOf]; omega
                            · obtain rfl : j = k := by omega
                              go_wp2
                              go_round
                              case rel => exact ⟨i + 1, u ++ List.replicate j 32 ++ [x], by omega, by go_num, by rw [List.append_assoc], by simp; omega, HFin⟩
                              case measure => simp [intOf]; omega
                        · have fb44 : (b == 44) = false := by have h9 := HNy.out 44 y44; have h8 : (((44 : UInt8).toNat : Nat) : Int) = 44 := rfl; rw [h8] at h9; simp; omega
                          clear hb
                          have HFin := Lib.hid (ins_step (m := 0) hx hinv.out (.inl rfl))
                          clear hx ha
                          go_wp2
                          go_round
                          case rel => exact ⟨i + 1, u ++ [x], by omega, by go_num, rfl, by simp; omega, by simpa using HFin⟩
                          case measure => simp [intOf]; omega
            · have HFin := Lib.hid (ins_step (m := 0) hx hinv.out (.inl rfl))
              clear hx ha
              go_wp2
              go_round
              case rel => exact ⟨i + 1, u ++ [x], by omega, by go_num, rfl, by simp; omega, by simpa using HFin⟩
              case measure => simp [intOf]; omega
          · have hie : i = P.length := by omega
            have hins := ins_end (i := i) (by omega) hinv.out
            clear hinv
            by_cases hl2 : 200 < u.length
            · go_wp2
              go_ret
              exact ⟨rfl, HX4.out⟩
            · have HPa := Lib.hid (HPaA.out u (by omega) hins)
              clear hins
              go_wp2_with (first
                | (go_at_call 7; (with_reducible refine (HPa.out _ HE4.out).mono ?_); rintro e w6 ⟨B, m2, c2, rfl, hf, hb⟩; have HX6 := Lib.hid ((below_step HX4.out hb).alloc (below_step HX4.out hb).size (.cells #[.int .i64 f.org, .int .i64 f.nd, .slice B m2 c2] 25)); have HB6 := Lib.hid ((HB4.out.through hb).alloc (.cells #[.int .i64 f.org, .int .i64 f.nd, .slice B m2 c2] 25)); have HI6 := Lib.hid ((HI4.out.through hb).alloc (.cells #[.int .i64 f.org, .int .i64 f.nd, .slice B m2 c2] 25)); have HJ6 := Lib.hid (hf.alloc (.cells #[.int .i64 f.org, .int .i64 f.nd, .slice B m2 c2] 25)); have HC6 : Hid (Blk (w6.alloc (.cells #[.int .i64 f.org, .int .i64 f.nd, .slice B m2 c2] 25)) w6.heap.size 25 [.int .i64 f.org, .int .i64 f.nd, .slice B m2 c2]) := Lib.hid (Blk.fresh rfl rfl); clear hb hf)
                | (refine wpList_load_blk_g 25 (.tmp 2) rfl (by kernel_rfl) w.heap.size rfl 25 [.int .i64 f.org, .int .i64 f.nd, .slice A m c] _ HB6.out Tryd.underlying25 rfl (by kernel_rfl) ?_)
                | (refine wpList_load_blk_g 25 (.tmp 10) rfl (by kernel_rfl) w6.heap.size rfl 25 [.int .i64 f.org, .int .i64 f.nd, .slice B m2 c2] _ HC6.out Tryd.underlying25 rfl (by kernel_rfl) ?_)
                | (go_at_call 9; (with_reducible refine (HS.out _ _ _ _ HI6.out HJ6.out).mono ?_); rintro e w7 ⟨rfl, hb⟩; have HX7 := Lib.hid (below_step HX6.out hb); clear hb))
              go_ret
              exact ⟨rfl, HX7.out⟩
    · obtain ⟨x, hx⟩ : ∃ x, f.check 7 = x := ⟨_, rfl⟩
      rw [hx] at hck hc
      have hxb : (x == 0) = false := by simp; omega
      have HC := Lib.hid hck
      clear hfw h he hok hbb hck hpr hz hx
      go_enter Tryd.func5, Tryd.ntmps5
      go_wp2_with (first
        | (go_at_call 6; (with_reducible refine (fixed_any _ HE0.out).mono ?_); rintro e w1 ⟨rfl, hb⟩; have HX1 := Lib.hid (below_step HX0.out hb); have HB1 := Lib.hid (HB0.out.through hb); have HI1 := Lib.hid (HI0.out.through hb); have HE1 := Lib.hid (HE0.out.through hb); have HD1 := Lib.hid (HD0.out.through hb); clear hb)
        | (refine wpList_load_blk rfl 25 (.tmp 2) rfl w.heap.size rfl 25 [.int .i64 f.org, .int .i64 f.nd, .slice A m c] _ HB1.out Tryd.underlying25 rfl (by kernel_rfl) ?_)
        | (go_at_call 10; (with_reducible refine (HW.out _ HI1.out).mono ?_); rintro e w2 ⟨rfl, hb⟩; have HX2 := Lib.hid (below_step HX1.out hb); have HB2 := Lib.hid (HB1.out.through hb); have HI2 := Lib.hid (HI1.out.through hb); have HE2 := Lib.hid (HE1.out.through hb); have HD2 := Lib.hid (HD1.out.through hb); clear hb)
        | (refine wpList_load_blk_g 25 (.tmp 2) rfl (by kernel_rfl) w.heap.size rfl 25 [.int .i64 f.org, .int .i64 f.nd, .slice A m c] _ HB2.out Tryd.underlying25 rfl (by kernel_rfl) ?_)
        | (go_at_call 13; (with_reducible refine (HC.out _ HI2.out).mono ?_); rintro e w3 ⟨rfl, hb⟩; have HX3 := Lib.hid (below_step HX2.out hb); have HB3 := Lib.hid (HB2.out.through hb); have HI3 := Lib.hid (HI2.out.through hb); have HE3 := Lib.hid (HE2.out.through hb); have HD3 := Lib.hid (HD2.out.through hb); clear hb))
      go_ret
      exact ⟨rfl, HX3.out⟩

end Go.Proofs.YtnpobhgecfjfgaaDoor
