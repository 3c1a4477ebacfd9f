/-
  RequestBack.
-/
import Derived.Test.YtfonkdcpghbaoaaRqL3
import Derived.Test.YtfonkdcpghbaoaaRqBd
namespace Go.Proofs.Ytfonkdcpghbaoaa
open Go.RowKit

theorem encAll_le {α : Type} {f : α → List UInt8} {M : Nat} : ∀ (xs : List α), (∀ x ∈ xs, (f x).length ≤ M) → (encAll f xs).length ≤ xs.length * M
  | [], _ => Nat.zero_le _
  | x :: xs, h => by
    have h1 := h x (List.mem_cons_self ..)
    have h2 := encAll_le xs fun y hy => h y (List.mem_cons_of_mem _ hy)
    simp only [encAll, List.length_append, List.length_cons, Nat.add_mul]
    omega
theorem bytes_le {co : Cr} {es : List En} (hlt : co.lt.length ≤ 300) (htx : co.tx.length ≤ 300) (hn : es.length ≤ 20) (ht : ∀ e ∈ es, e.ts.length ≤ 20) (h32 : ∀ e ∈ es, ∀ t ∈ e.ts, t.length = 32) : (Rq.bytes ⟨co, es⟩).length ≤ 20000 := by
  have h1 : (encAll encEn es).length ≤ es.length * 641 := encAll_le es fun e he => by
    have h2 : (encAll encTg e.ts).length ≤ e.ts.length * 32 := encAll_le e.ts fun t h9 => by
      have := h32 e he t h9
      unfold encTg
      omega
    have h3 := ht e he
    unfold encEn
    rw [List.length_append, beB_length]
    omega
  unfold Rq.bytes
  simp only [List.length_append, beB_length, rowB_len, encCr_len]
  omega

set_option maxHeartbeats 16000000 in
set_option maxRecDepth 100000 in
theorem requestback_any (co : Cr) (es : List En) (A : Option Addr) (n c1 : Nat) (N : Int) (w : World) (h : EsIn w A n es) (hn0 : n ≤ maxLen) (ha : -9223372036854775808 ≤ co.a ∧ co.a ≤ 9223372036854775807) (hb : -9223372036854775808 ≤ co.b ∧ co.b ≤ 9223372036854775807) :
    Calls Try.prog 5 #[.agg #[.int .i64 co.cl, .int .i64 co.sp, .int .i64 co.op, .string (ba co.lt), .int .i64 co.a, .int .i64 co.b, .string (ba co.tx), .slice A n c1], .int .i64 N] w fun e w' => e = .returned (.bool true) ∧ Below w.heap.size w w' := by
  have hsz := ba_size
  have HI := Lib.hid h
  have HB0 : Hid (Blk (w.alloc (.cells #[.int .i64 co.cl, .int .i64 co.sp, .int .i64 co.op, .string (ba co.lt), .int .i64 co.a, .int .i64 co.b, .string (ba co.tx), .slice A n c1] 34)) w.heap.size 34 [.int .i64 co.cl, .int .i64 co.sp, .int .i64 co.op, .string (ba co.lt), .int .i64 co.a, .int .i64 co.b, .string (ba co.tx), .slice A n c1]) := Lib.hid (Blk.fresh rfl rfl)
  by_cases h1 : 300 < co.lt.length
  · have d1 : decide ((300 : Int) < (co.lt.length : Int)) = true := by simp; omega
    clear h1 h
    go_enter Try.func5, Try.ntmps5
    go_wp2_with (first
      | (go_at_call 8; (with_reducible refine (fixed12_any _).mono ?_); rintro e w1 ⟨rfl, hb1⟩; have HX1 : Hid (Below w.heap.size w w1) := Lib.hid (below_step (below1_ w (.cells #[.int .i64 co.cl, .int .i64 co.sp, .int .i64 co.op, .string (ba co.lt), .int .i64 co.a, .int .i64 co.b, .string (ba co.tx), .slice A n c1] 34)) hb1); have HB1 := Lib.hid (HB0.out.through hb1); have c3 := HB1.out.cellAt (i := 3) rfl; have c6 := HB1.out.cellAt (i := 6) rfl; have c7 := HB1.out.cellAt (i := 7) rfl; clear hb1))
    go_ret
    exact ⟨rfl, HX1.out⟩
  have d1 : decide ((300 : Int) < (co.lt.length : Int)) = false := by simp; omega
  by_cases h2 : 300 < co.tx.length
  · have d2 : decide ((300 : Int) < (co.tx.length : Int)) = true := by simp; omega
    clear h1 h2 h
    go_enter Try.func5, Try.ntmps5
    go_wp2_with (first
      | (go_at_call 8; (with_reducible refine (fixed12_any _).mono ?_); rintro e w1 ⟨rfl, hb1⟩; have HX1 : Hid (Below w.heap.size w w1) := Lib.hid (below_step (below1_ w (.cells #[.int .i64 co.cl, .int .i64 co.sp, .int .i64 co.op, .string (ba co.lt), .int .i64 co.a, .int .i64 co.b, .string (ba co.tx), .slice A n c1] 34)) hb1); have HB1 := Lib.hid (HB0.out.through hb1); have c3 := HB1.out.cellAt (i := 3) rfl; have c6 := HB1.out.cellAt (i := 6) rfl; have c7 := HB1.out.cellAt (i := 7) rfl; clear hb1))
    go_ret
    exact ⟨rfl, HX1.out⟩
  have d2 : decide ((300 : Int) < (co.tx.length : Int)) = false := by simp; omega
  by_cases h3 : 20 < n
  · have d3 : decide ((20 : Int) < (n : Int)) = true := by simp; omega
    clear h1 h2 h3 h
    go_enter Try.func5, Try.ntmps5
    go_wp2_with (first
      | (go_at_call 8; (with_reducible refine (fixed12_any _).mono ?_); rintro e w1 ⟨rfl, hb1⟩; have HX1 : Hid (Below w.heap.size w w1) := Lib.hid (below_step (below1_ w (.cells #[.int .i64 co.cl, .int .i64 co.sp, .int .i64 co.op, .string (ba co.lt), .int .i64 co.a, .int .i64 co.b, .string (ba co.tx), .slice A n c1] 34)) hb1); have HB1 := Lib.hid (HB0.out.through hb1); have c3 := HB1.out.cellAt (i := 3) rfl; have c6 := HB1.out.cellAt (i := 6) rfl; have c7 := HB1.out.cellAt (i := 7) rfl; clear hb1))
    go_ret
    exact ⟨rfl, HX1.out⟩
  have d3 : decide ((20 : Int) < (n : Int)) = false := by simp; omega
  have H12 := Lib.hid (And.intro (Nat.le_of_not_lt h1) (And.intro (Nat.le_of_not_lt h2) (And.intro ha hb)))
  have HIX := Lib.hid Try.ix_en
  have hn20 : n ≤ 20 := by omega
  clear h1 h2 h3 h ha hb hn0
  go_enter Try.func5, Try.ntmps5
  go_wp2_with (first
    | (go_at_call 8; (with_reducible refine (fixed12_any _).mono ?_); rintro e w1 ⟨rfl, hb1⟩; have HX1 : Hid (Below w.heap.size w w1) := Lib.hid (below_step (below1_ w (.cells #[.int .i64 co.cl, .int .i64 co.sp, .int .i64 co.op, .string (ba co.lt), .int .i64 co.a, .int .i64 co.b, .string (ba co.tx), .slice A n c1] 34)) hb1); have HB1 := Lib.hid (HB0.out.through hb1); have c3 := HB1.out.cellAt (i := 3) rfl; have c6 := HB1.out.cellAt (i := 6) rfl; have c7 := HB1.out.cellAt (i := 7) rfl; clear hb1))
  clear c3 c6 c7
  go_loopw [33] (fun iv wr => ∃ i : Nat, i ≤ n ∧ iv = .int .i64 (i : Int) ∧ (∀ e ∈ es.take i, e.ts.length ≤ 20) ∧ Below w1.heap.size w1 wr) (fun iv _ => n - (intOf iv).toNat)
  case atStart => exact ⟨0, Nat.zero_le _, rfl, fun e he => by simp at he, Below.refl _ _⟩
  case round =>
    obtain ⟨i, hi, rfl, hq, hx⟩ := hrel
    have HQ := Lib.hid hq
    have HX := Lib.hid hx
    have HXl := Lib.hid (below_step HX1.out hx)
    have HBl := Lib.hid (HB1.out.through hx)
    clear hq hx
    by_cases hlt : i < n
    · obtain ⟨g, o, e, B, k1, dd, rfl, hei, _, _, hrx, hts⟩ := (HI.out.through HXl.out).at hlt
      have HRx := Lib.hid hrx
      have hix := HIX.out wr g o n c1 i hlt
      have HTk : Hid (e.ts.length = k1) := Lib.hid hts.len
      have HEi := Lib.hid hei
      clear hrx hts hei
      by_cases h4 : 20 < k1
      · have d4 : decide ((20 : Int) < (k1 : Int)) = true := by simp; omega
        clear h4
        go_wp2_with (first
          | (refine wpList_load_mid rfl 41 (.tmp 35) rfl g (o + i * 2) rfl [.int .i64 e.og, .slice B k1 dd] _ HRx.out Try.underlying41 rfl (by kernel_rfl) ?_))
        go_ret
        exact ⟨rfl, HXl.out.alloc HXl.out.size _⟩
      · have d4 : decide ((20 : Int) < (k1 : Int)) = false := by simp; omega
        have h5 : k1 ≤ 20 := by omega
        clear h4
        go_wp2_with (first
          | (refine wpList_load_mid rfl 41 (.tmp 35) rfl g (o + i * 2) rfl [.int .i64 e.og, .slice B k1 dd] _ HRx.out Try.underlying41 rfl (by kernel_rfl) ?_))
        go_roundw
        case rel => exact ⟨i + 1, by omega, by go_num, (fun x hx => by
          rw [List.take_add_one, HEi.out] at hx
          rcases List.mem_append.1 hx with h9 | h9
          · exact HQ.out x h9
          · have h8 : x = e := by simpa using h9
            rw [h8, HTk.out]
            exact h5), HX.out.alloc HX.out.size _⟩
        case measure => simp [intOf]; omega
    · have hin : i = n := by omega
      subst hin
      have hall : ∀ e ∈ es, e.ts.length ≤ 20 := fun e he => HQ.out e (by rw [List.take_of_length_le (by have := HI.out.len; omega)]; exact he)
      have hbl : (Rq.bytes ⟨co, es⟩).length ≤ 20000 := bytes_le H12.out.1 H12.out.2.1 (by have := HI.out.len; omega) hall HI.out.en_len
      have HPl0 : ∀ (A : Option Addr) (m d : Nat) (W : World), By W (fun _ => True) A m (Rq.bytes ⟨co, es⟩) → chkC co N = 0 → endsOk N es = true → Calls Try.prog 15 #[.slice A m d, .int .i64 N] W (RqOut W ⟨co, es⟩ 0) := fun A m d W hY hk he => by
        have h9 := parsereq_any (Rq.bytes ⟨co, es⟩) N A m d W hY (by rw [← hY.len]; omega)
        rw [parseP_eq (m := 1048576) N (by omega), parseRq_back (q := ⟨co, es⟩) (by omega) (by omega) hk he H12.out.2.2.1 H12.out.2.2.2 HI.out.en_len] at h9
        exact h9
      have HCb0 : ∀ W, EsIn W A i es → Calls Try.prog 18 #[.agg #[.int .i64 co.cl, .int .i64 co.sp, .int .i64 co.op, .string (ba co.lt), .int .i64 co.a, .int .i64 co.b, .string (ba co.tx), .slice A i c1]] W (Byt W (Rq.bytes ⟨co, es⟩)) := fun W hE => bytes_any co es A i c1 W hE (by omega) (by have := H12.out.1; omega) (by have := H12.out.2.1; omega) (by omega)
      have HRb0 : ∀ W, EsIn W A i es → Calls Try.prog 19 #[.agg #[.int .i64 co.cl, .int .i64 co.sp, .int .i64 co.op, .string (ba co.lt), .int .i64 co.a, .int .i64 co.b, .string (ba co.tx), .slice A i c1]] W (Byt W (Rq.bytes ⟨co, es⟩)) := fun W hE => rbytes_any co es A i c1 W hE (by omega) (by have := H12.out.1; omega) (by have := H12.out.2.1; omega) (by omega)
      obtain ⟨OUT, hO⟩ : ∃ OUT, Rq.bytes ⟨co, es⟩ = OUT := ⟨_, rfl⟩
      rw [hO] at HPl0 HCb0 HRb0
      have HPl := Lib.hid HPl0
      have HCb := Lib.hid HCb0
      have HRb := Lib.hid HRb0
      have HRk : Hid (∀ W : World, Calls Try.prog 11 #[.agg #[.int .i64 co.cl, .int .i64 co.sp, .int .i64 co.op, .string (ba co.lt), .int .i64 co.a, .int .i64 co.b, .string (ba co.tx)], .int .i64 N] W fun e w' => e = .returned (.int .i64 (chkC co N)) ∧ Below W.heap.size W w') := Lib.hid (fun W => rchkC_any co N W (by have := H12.out.1; omega))
      have HRe : Hid (∀ W : World, EsIn W A i es → Calls Try.prog 20 #[.slice A i c1, .int .i64 N] W fun e w' => e = .returned (.bool (endsOk N es)) ∧ Below W.heap.size W w') := Lib.hid (fun W hE => rends_any N es A i c1 W hE (by omega))
      have HSm : Hid (∀ (W : World) (A1 : Option Addr) (n1 c1 : Nat) (A2 : Option Addr) (n2 c2 : Nat), EsIn W A1 n1 es → EsIn W A2 n2 es → Calls Try.prog 17 #[.agg #[.int .i64 co.cl, .int .i64 co.sp, .int .i64 co.op, .string (ba co.lt), .int .i64 co.a, .int .i64 co.b, .string (ba co.tx), .slice A1 n1 c1], .agg #[.int .i64 co.cl, .int .i64 co.sp, .int .i64 co.op, .string (ba co.lt), .int .i64 co.a, .int .i64 co.b, .string (ba co.tx), .slice A2 n2 c2]] W fun e w' => e = .returned (.bool true) ∧ Below W.heap.size W w') := Lib.hid (fun W A1 n1 c1 A2 n2 c2 hE1 hE2 => by
        have h9 := rsame_any co co es es A1 n1 c1 A2 n2 c2 W hE1 hE2 (by have := hE1.len; have := HI.out.len; omega) (by have := hE2.len; have := HI.out.len; omega)
        rw [Rq.same_self] at h9
        exact h9)
      have HE1 := Lib.hid (HI.out.through HXl.out)
      clear HPl0 HCb0 HRb0 hall hbl hO HQ HX
      go_wp2_with (first
        | (refine wpList_load_blk rfl 34 (.tmp 2) rfl w.heap.size rfl 34 [.int .i64 co.cl, .int .i64 co.sp, .int .i64 co.op, .string (ba co.lt), .int .i64 co.a, .int .i64 co.b, .string (ba co.tx), .slice A i c1] _ HBl.out Try.underlying34 rfl (by kernel_rfl) ?_)
        | (go_at_call 18; (with_reducible refine (HCb.out _ HE1.out).mono ?_); rintro e w2 ⟨A2, n2, d2, rfl, hy2, hn2, hm2, hb2⟩; have HY2 := Lib.hid hy2; have HX2 : Hid (Below w.heap.size w w2) := Lib.hid (below_step HXl.out hb2); have HB2 := Lib.hid (HBl.out.through hb2); have HE2 := Lib.hid (HE1.out.through hb2); clear hy2 hn2 hm2 hb2))
      refine wp_region_held_drew (S := fun W => Below w2.heap.size w2 W) (by kernel_rfl) (Below.refl _ _).drew (fun hHeld => ?_)
      change wpAnyH _ _ _ _ _ _ #[false, false, false, false, false, false] _ _
      refine wpAnyH_take (i := 0) (v := (.slice A2 n2 d2)) rfl (by kernel_rfl) (by kernel_rfl) (by kernel_rfl) (fun _ _ _ h => h) (Or.inl ⟨by kernel_rfl, fun w hSw => ?_⟩) (by assumption) ?_
      · (try dsimp only at hSw); go_simp <;> (try rfl)
      change wpAnyH _ _ _ _ _ _ _ (Act.put _ (some (44 : Nat)) (.slice A2 n2 d2)) _
      simp only [Act.put, List.setIfInBounds_toArray, List.set_cons_zero, List.set_cons_succ]
      refine wpAnyH_take (i := 1) (v := (.string (ba OUT))) rfl (by kernel_rfl) (by kernel_rfl) (by kernel_rfl) (fun _ _ _ h => h) (yields_conv (by kernel_rfl) 25 9 (.tmp 44) rfl (.slice A2 n2 d2) (by simp [Act.eval]) (.string (ba OUT)) (fun W hW => run_string_by W 25 9 5 Try.underlying25 Try.underlying5 Try.underlying9 _ _ _ _ _ (HY2.out.through hW))) (by assumption) ?_
      change wpAnyH _ _ _ _ _ _ _ (Act.put _ (some (45 : Nat)) (.string (ba OUT))) _
      simp only [Act.put, List.setIfInBounds_toArray, List.set_cons_zero, List.set_cons_succ]
      refine wpAnyH_take (i := 2) (v := (.agg #[.int .i64 co.cl, .int .i64 co.sp, .int .i64 co.op, .string (ba co.lt), .int .i64 co.a, .int .i64 co.b, .string (ba co.tx), .slice A i c1])) rfl (by kernel_rfl) (by kernel_rfl) (by kernel_rfl) (fun _ _ _ h => h) (yieldsIf_load_mid (by kernel_rfl) 34 (.tmp 2) rfl w.heap.size 0 (by simp [Act.eval]) [.int .i64 co.cl, .int .i64 co.sp, .int .i64 co.op, .string (ba co.lt), .int .i64 co.a, .int .i64 co.b, .string (ba co.tx), .slice A i c1] _ (fun W hW => (HB2.out.through hW).whole) Try.underlying34 rfl (by kernel_rfl)) (by assumption) ?_
      change wpAnyH _ _ _ _ _ _ _ (Act.put _ (some (46 : Nat)) (.agg #[.int .i64 co.cl, .int .i64 co.sp, .int .i64 co.op, .string (ba co.lt), .int .i64 co.a, .int .i64 co.b, .string (ba co.tx), .slice A i c1])) _
      simp only [Act.put, List.setIfInBounds_toArray, List.set_cons_zero, List.set_cons_succ]
      refine wpAnyH_ready (rs := [3]) (by kernel_rfl) (by simp) ?_
      refine AllReadyH.cons rfl (fun K hK => ?_) AllReadyH.nil
      go_simp
      refine (HRb.out _ (HE2.out.through hHeld)).mono ?_
      rintro e w9 ⟨A9, n9, d9, rfl, hy9, _, _, hb9⟩; have HY9 := Lib.hid hy9; have HK9 := Lib.hid (below_step hHeld hb9); clear hy9 hb9
      go_wp2_with fail
      refine hK.out _ _ HK9.out (fun hHeld1 => ?_)
      clear hHeld hK K
      have hHeld := hHeld1
      clear hHeld1
      refine wpAnyH_weaken (S' := fun W => Below w2.heap.size w2 W ∧ By W (fun _ => True) A9 n9 OUT) (fun W h => h.1) _ _ _ _ ?_
      have hHeld2 := And.intro hHeld HY9.out
      clear hHeld
      have hHeld := hHeld2
      clear hHeld2
      refine wpAnyH_take (i := 4) (v := (.string (ba OUT))) rfl (by kernel_rfl) (by kernel_rfl) (by kernel_rfl) (fun _ _ _ h => h) (yields_conv (by kernel_rfl) 25 9 (.tmp 47) rfl (.slice A9 n9 d9) (by simp [Act.eval]) (.string (ba OUT)) (fun W hW => run_string_by W 25 9 5 Try.underlying25 Try.underlying5 Try.underlying9 _ _ _ _ _ hW.2)) (by assumption) ?_
      change wpAnyH _ _ _ _ _ _ _ (Act.put _ (some (48 : Nat)) (.string (ba OUT))) _
      simp only [Act.put, List.setIfInBounds_toArray, List.set_cons_zero, List.set_cons_succ]
      refine wpAnyH_take (i := 5) (v := (.bool false)) rfl (by kernel_rfl) (by kernel_rfl) (by kernel_rfl) (fun _ _ _ h => h) (Or.inl ⟨by kernel_rfl, fun w hSw => ?_⟩) (by assumption) ?_
      · (try dsimp only at hSw); go_simp <;> (try rfl)
      change wpAnyH _ _ _ _ _ _ _ (Act.put _ (some (49 : Nat)) (.bool false)) _
      simp only [Act.put, List.setIfInBounds_toArray, List.set_cons_zero, List.set_cons_succ]
      refine wpAnyH_done (by kernel_rfl) ?_ _
      have HX3 : Hid (Below w.heap.size w _) := Lib.hid (below_step HX2.out hHeld.1)
      have HB3 := Lib.hid (HB2.out.through hHeld.1)
      have HY3 := Lib.hid (HY2.out.through hHeld.1)
      have HE3 := Lib.hid (HE2.out.through hHeld.1)
      clear hHeld
      by_cases hk : chkC co N = 0
      case neg =>
        obtain ⟨er, her⟩ : ∃ er, chkC co N = er := ⟨_, rfl⟩
        rw [her] at HRk hk
        have hkb : (er == 0) = false := by simpa using hk
        have hkd : (er != 0) = true := by simpa using hk
        clear hk her
        go_wp2_with (first
          | (refine wpList_load_mid rfl 23 (.tmp 50) rfl w.heap.size 0 rfl [.int .i64 co.cl, .int .i64 co.sp, .int .i64 co.op, .string (ba co.lt), .int .i64 co.a, .int .i64 co.b, .string (ba co.tx)] _ (Blk.front (post := [.slice A i c1]) HB3.out) Try.underlying23 rfl (by kernel_rfl) ?_)
          | (go_at_call 11; (with_reducible refine (HRk.out _).mono ?_); rintro e w4 ⟨rfl, hb4⟩; have HX4 := Lib.hid (below_step HX3.out hb4); have HB4 := Lib.hid (HB3.out.through hb4); have HY4 := Lib.hid (HY3.out.through hb4); have HE4 := Lib.hid (HE3.out.through hb4); have k7 := HB4.out.cellAt (i := 7) rfl; clear hb4))
        go_ret
        exact ⟨rfl, HX4.out⟩
      have HKk := Lib.hid hk
      rw [hk] at HRk
      clear hk
      cases he : endsOk N es with
      | false =>
        rw [he] at HRe
        clear he
        go_wp2_with (first
          | (refine wpList_load_mid rfl 23 (.tmp 50) rfl w.heap.size 0 rfl [.int .i64 co.cl, .int .i64 co.sp, .int .i64 co.op, .string (ba co.lt), .int .i64 co.a, .int .i64 co.b, .string (ba co.tx)] _ (Blk.front (post := [.slice A i c1]) HB3.out) Try.underlying23 rfl (by kernel_rfl) ?_)
          | (go_at_call 11; (with_reducible refine (HRk.out _).mono ?_); rintro e w4 ⟨rfl, hb4⟩; have HX4 := Lib.hid (below_step HX3.out hb4); have HB4 := Lib.hid (HB3.out.through hb4); have HY4 := Lib.hid (HY3.out.through hb4); have HE4 := Lib.hid (HE3.out.through hb4); have k7 := HB4.out.cellAt (i := 7) rfl; clear hb4)
          | (go_at_call 20; (with_reducible refine (HRe.out _ HE4.out).mono ?_); rintro e w5 ⟨rfl, hb5⟩; have HX5 := Lib.hid (below_step HX4.out hb5); have HB5 := Lib.hid (HB4.out.through hb5); have HY5 := Lib.hid (HY4.out.through hb5); have HE5 := Lib.hid (HE4.out.through hb5); clear hb5))
        go_ret
        exact ⟨rfl, HX5.out⟩
      | true =>
        have HPq : Hid (∀ W, By W (fun _ => True) A2 n2 OUT → Calls Try.prog 15 #[.slice A2 n2 d2, .int .i64 N] W (RqOut W ⟨co, es⟩ 0)) := Lib.hid (fun W hY => HPl.out A2 n2 d2 W hY HKk.out he)
        rw [he] at HRe
        clear he
        go_wp2_with (first
          | (refine wpList_load_mid rfl 23 (.tmp 50) rfl w.heap.size 0 rfl [.int .i64 co.cl, .int .i64 co.sp, .int .i64 co.op, .string (ba co.lt), .int .i64 co.a, .int .i64 co.b, .string (ba co.tx)] _ (Blk.front (post := [.slice A i c1]) HB3.out) Try.underlying23 rfl (by kernel_rfl) ?_)
          | (go_at_call 11; (with_reducible refine (HRk.out _).mono ?_); rintro e w4 ⟨rfl, hb4⟩; have HX4 := Lib.hid (below_step HX3.out hb4); have HB4 := Lib.hid (HB3.out.through hb4); have HY4 := Lib.hid (HY3.out.through hb4); have HE4 := Lib.hid (HE3.out.through hb4); have k7 := HB4.out.cellAt (i := 7) rfl; clear hb4)
          | (go_at_call 20; (with_reducible refine (HRe.out _ HE4.out).mono ?_); rintro e w5 ⟨rfl, hb5⟩; have HX5 := Lib.hid (below_step HX4.out hb5); have HB5 := Lib.hid (HB4.out.through hb5); have HY5 := Lib.hid (HY4.out.through hb5); have HE5 := Lib.hid (HE4.out.through hb5); clear hb5)
          | (go_at_call 15; (with_reducible refine (HPq.out _ HY5.out).mono ?_); rintro e w6 ⟨A6, m6, d6, rfl, hes6, _, _, hb6⟩; have HX6 : Hid (Below w.heap.size w (w6.alloc (.cells #[.int .i64 co.cl, .int .i64 co.sp, .int .i64 co.op, .string (ba co.lt), .int .i64 co.a, .int .i64 co.b, .string (ba co.tx), .slice A6 m6 d6] 34))) := Lib.hid ((below_step HX5.out hb6).alloc (below_step HX5.out hb6).size (.cells #[.int .i64 co.cl, .int .i64 co.sp, .int .i64 co.op, .string (ba co.lt), .int .i64 co.a, .int .i64 co.b, .string (ba co.tx), .slice A6 m6 d6] 34)); have HB6 := Lib.hid ((HB5.out.through hb6).alloc (.cells #[.int .i64 co.cl, .int .i64 co.sp, .int .i64 co.op, .string (ba co.lt), .int .i64 co.a, .int .i64 co.b, .string (ba co.tx), .slice A6 m6 d6] 34)); have HE6 := Lib.hid ((HE5.out.through hb6).alloc (.cells #[.int .i64 co.cl, .int .i64 co.sp, .int .i64 co.op, .string (ba co.lt), .int .i64 co.a, .int .i64 co.b, .string (ba co.tx), .slice A6 m6 d6] 34)); have HF6 := Lib.hid (hes6.alloc (.cells #[.int .i64 co.cl, .int .i64 co.sp, .int .i64 co.op, .string (ba co.lt), .int .i64 co.a, .int .i64 co.b, .string (ba co.tx), .slice A6 m6 d6] 34)); have HD6 : Hid (Blk (w6.alloc (.cells #[.int .i64 co.cl, .int .i64 co.sp, .int .i64 co.op, .string (ba co.lt), .int .i64 co.a, .int .i64 co.b, .string (ba co.tx), .slice A6 m6 d6] 34)) w6.heap.size 34 [.int .i64 co.cl, .int .i64 co.sp, .int .i64 co.op, .string (ba co.lt), .int .i64 co.a, .int .i64 co.b, .string (ba co.tx), .slice A6 m6 d6]) := Lib.hid (Blk.fresh rfl rfl); clear hb6 hes6)
          | (refine wpList_load_blk_g 34 (.tmp 8) rfl (by kernel_rfl) w6.heap.size rfl 34 [.int .i64 co.cl, .int .i64 co.sp, .int .i64 co.op, .string (ba co.lt), .int .i64 co.a, .int .i64 co.b, .string (ba co.tx), .slice A6 m6 d6] _ HD6.out Try.underlying34 rfl (by kernel_rfl) ?_)
          | (refine wpList_load_blk_g 34 (.tmp 2) rfl (by kernel_rfl) w.heap.size rfl 34 [.int .i64 co.cl, .int .i64 co.sp, .int .i64 co.op, .string (ba co.lt), .int .i64 co.a, .int .i64 co.b, .string (ba co.tx), .slice A i c1] _ HB6.out Try.underlying34 rfl (by kernel_rfl) ?_)
          | (go_at_call 17; (with_reducible refine (HSm.out _ _ _ _ _ _ _ HF6.out HE6.out).mono ?_); rintro e w7 ⟨rfl, hb7⟩; have HX7 := Lib.hid (below_step HX6.out hb7); clear hb7))
        go_ret
        exact ⟨rfl, HX7.out⟩


end Go.Proofs.Ytfonkdcpghbaoaa
