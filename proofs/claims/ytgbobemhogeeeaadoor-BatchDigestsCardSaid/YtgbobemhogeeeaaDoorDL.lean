/-
  BatchDigests.
-/
import Derived.Test.YtgbobemhogeeeaaDoorDT
namespace Go.Proofs.YtgbobemhogeeeaaDoor
open Go.RowKit

theorem ord_two {x y : DK} (h : x ≠ y) : ord y (also y (also x [])) = 2 ∧ ord x (also x []) = 1 := by
  have e1 : also x ([] : List DK) = [x] := by rw [also_new (by simp)]; rfl
  rw [e1]
  refine ⟨?_, ?_⟩
  · rw [ord_new (by simp; exact fun h9 => h h9.symm)]; rfl
  · rw [show ([x] : List DK) = also x [] from e1.symm, ord_new (by simp)]; rfl
theorem ord_same (x : DK) : ord x (also x (also x [])) = ord x (also x []) := ord_also (mem_also x [])
theorem digB_eq (a b : List Ey) : (digB a [] == digB b (also (kb 101, encB a) [])) = decide (encB a = encB b) := by
  by_cases h : encB a = encB b
  · rw [decide_eq_true h]
    have e : digB b (also (kb 101, encB a) []) = digB a [] := by unfold digB; rw [← h, ord_same]
    rw [e]
    simp
  · rw [decide_eq_false h]
    have hne : ((kb 101, encB a) : DK) ≠ (kb 101, encB b) := fun h9 => h (congrArg Prod.snd h9)
    obtain ⟨h1, h2⟩ := ord_two hne
    unfold digB
    rw [h1, h2]
    rw [beq_eq_false_iff_ne]
    intro h9
    have h8 := (numB_inj (by omega) (by omega)).1 h9
    omega
theorem dig_eq (xs ys : List UInt8) (hx : xs.length = 32) (hy : ys.length = 32) (w : World) : (binOp .eql 30 (.agg (vs xs).toArray) (.agg (vs ys).toArray)).run Tryd.prog w = .ok (.bool (xs == ys)) w :=
  run_eql_bytes w 30 5 32 Tryd.underlying30 Tryd.underlying5 (by kernel_rfl) (by kernel_rfl) xs ys hx hy

set_option maxHeartbeats 16000000 in
set_option maxRecDepth 100000 in
theorem batchdigests_any (a b : List Ey) (N : Int) (A : Option Addr) (n c : Nat) (B : Option Addr) (m d : Nat) (w : World) (ht : Tab w) (h : EysIn w A n a) (h' : EysIn w B m b) (hnc : n ≤ c) (hc : c ≤ maxLen) (hmd : m ≤ d) (hd : d ≤ maxLen) (hia : ∀ y ∈ a, y.In) (hib : ∀ y ∈ b, y.In) :
    Calls Tryd.prog 3 #[.slice A n c, .slice B m d, .int .i64 N] w fun e w' => e = .returned (.bool true) ∧ Below w.heap.size w w' := by
  have HI := Lib.hid h
  have HJ := Lib.hid h'
  have HT := Lib.hid ht
  have hn9 : n ≤ 9223372036854775807 := by unfold maxLen at hc; omega
  have hm9 : m ≤ 9223372036854775807 := by unfold maxLen at hd; omega
  have HFa0 : Hid (∀ W : World, EysIn W A n a → Calls Tryd.prog 5 #[.slice A n c] W fun e w' => e = .returned (.bool (fewB a)) ∧ Below W.heap.size W w') := Lib.hid (fun W hI => few15_any a A n c W hI hn9)
  have HFb0 : Hid (∀ W : World, EysIn W B m b → Calls Tryd.prog 5 #[.slice B m d] W fun e w' => e = .returned (.bool (fewB b)) ∧ Below W.heap.size W w') := Lib.hid (fun W hI => few15_any b B m d W hI hm9)
  cases hfa : fewB a with
  | false =>
    have HFa : Hid (∀ W : World, EysIn W A n a → Calls Tryd.prog 5 #[.slice A n c] W fun e w' => e = .returned (.bool false) ∧ Below W.heap.size W w') := Lib.hid (fun W hI => hfa ▸ HFa0.out W hI)
    clear ht h h' hnc hc hmd hd hia hib hfa
    go_enter Tryd.func3, Tryd.ntmps3
    go_wp2_with (first
      | (go_at_call 4; (with_reducible refine (fixed15_any _).mono ?_); rintro e w1 ⟨rfl, hb1⟩; have HX1 := Lib.hid hb1; clear hb1)
      | (go_at_call 5; (with_reducible refine (HFa.out _ (HI.out.through HX1.out)).mono ?_); rintro e w2 ⟨rfl, hb2⟩; have HX2 := Lib.hid (below_step HX1.out hb2); clear hb2))
    go_ret
    exact ⟨rfl, HX2.out⟩
  | true =>
  have HFa : Hid (∀ W : World, EysIn W A n a → Calls Tryd.prog 5 #[.slice A n c] W fun e w' => e = .returned (.bool true) ∧ Below W.heap.size W w') := Lib.hid (fun W hI => hfa ▸ HFa0.out W hI)
  cases hfb : fewB b with
  | false =>
    have HFb : Hid (∀ W : World, EysIn W B m b → Calls Tryd.prog 5 #[.slice B m d] W fun e w' => e = .returned (.bool false) ∧ Below W.heap.size W w') := Lib.hid (fun W hI => hfb ▸ HFb0.out W hI)
    clear ht h h' hnc hc hmd hd hia hib hfa hfb
    go_enter Tryd.func3, Tryd.ntmps3
    go_wp2_with (first
      | (go_at_call 4; (with_reducible refine (fixed15_any _).mono ?_); rintro e w1 ⟨rfl, hb1⟩; have HX1 := Lib.hid hb1; clear hb1)
      | (go_at_call 5; (with_reducible refine (HFa.out _ (HI.out.through HX1.out)).mono ?_); rintro e w2 ⟨rfl, hb2⟩; have HX2 := Lib.hid (below_step HX1.out hb2); clear hb2)
      | (go_at_call 5; (with_reducible refine (HFb.out _ (HJ.out.through HX2.out)).mono ?_); rintro e w3 ⟨rfl, hb3⟩; have HX3 := Lib.hid (below_step HX2.out hb3); clear hb3))
    go_ret
    exact ⟨rfl, HX3.out⟩
  | true =>
  have HFb : Hid (∀ W : World, EysIn W B m b → Calls Tryd.prog 5 #[.slice B m d] W fun e w' => e = .returned (.bool true) ∧ Below W.heap.size W w') := Lib.hid (fun W hI => hfb ▸ HFb0.out W hI)
  obtain ⟨hla, hma⟩ := fewB_yes hfa
  obtain ⟨hlb, hmb⟩ := fewB_yes hfb
  have hma2 : ∀ y ∈ a, y.co.lt.length ≤ 1000000 ∧ y.co.tx.length ≤ 1000000 := fun y hy => by have := hma y hy; omega
  have hmb2 : ∀ y ∈ b, y.co.lt.length ≤ 1000000 ∧ y.co.tx.length ≤ 1000000 := fun y hy => by have := hmb y hy; omega
  have hLa : (encB a).length ≤ 100000 := by
    have h9 := encB_len (es := a) 400 (fun y hy => by have := hma y hy; omega)
    have : a.length * (39 + 400) ≤ 40 * (39 + 400) := Nat.mul_le_mul_right _ hla
    omega
  have hLb : (encB b).length ≤ 100000 := by
    have h9 := encB_len (es := b) 400 (fun y hy => by have := hmb y hy; omega)
    have : b.length * (39 + 400) ≤ 40 * (39 + 400) := Nat.mul_le_mul_right _ hlb
    omega
  obtain ⟨r1, hr1⟩ : ∃ r1, r1 = vs zero32 := ⟨_, rfl⟩
  have hz : ∀ W, (zeroValue 30).run Tryd.prog W = .ok (.agg r1.toArray) W := fun W => by rw [hr1]; exact Tryd.zero_dig W
  have HL1 : Hid (r1.length = 32) := Lib.hid (by rw [hr1]; rfl)
  obtain ⟨rX, hrX⟩ : ∃ rX, rX = vs (digB a []) := ⟨_, rfl⟩
  obtain ⟨rY, hrY⟩ : ∃ rY, rY = vs (digB b (also (kb 101, encB a) [])) := ⟨_, rfl⟩
  obtain ⟨rT, hrT⟩ : ∃ rT, rT = vs (digK 101 (encB a)) := ⟨_, rfl⟩
  have HLx : Hid (rX.length = 32) := Lib.hid (by rw [hrX, vs_length]; exact numB_length _ _)
  have HLy : Hid (rY.length = 32) := Lib.hid (by rw [hrY, vs_length]; exact numB_length _ _)
  have HOx : Hid (rX.toArray.all (·.oneCell') = true) := Lib.hid (by rw [hrX]; exact one_u8)
  have HOy : Hid (rY.toArray.all (·.oneCell') = true) := Lib.hid (by rw [hrY]; exact one_u8)
  obtain ⟨E, hE⟩ : ∃ E, decide (encB a = encB b) = E := ⟨_, rfl⟩
  have heq : ∀ W, (binOp .eql 30 (.agg rX.toArray) (.agg rY.toArray)).run Tryd.prog W = .ok (.bool E) W := fun W => by
    have h9 := dig_eq (digB a []) (digB b (also (kb 101, encB a) [])) (numB_length _ _) (numB_length _ _) W
    rw [digB_eq, hE] at h9
    rw [hrX, hrY]
    exact h9
  have hneT : ∀ W, (binOp .neq 30 (.agg rT.toArray) (.agg rT.toArray)).run Tryd.prog W = .ok (.bool false) W := fun W => by
    have h9 := dig_ne (digK 101 (encB a)) (digK 101 (encB a)) (sha_length _) (sha_length _) W
    rw [beq_self_eq_true] at h9
    rw [hrT]
    exact h9
  have HDa : Hid (∀ (W : World) (g : Nat), BS W g [] [] → EysIn W A n a → Calls Tryd.prog 8 #[.iface 25 (.pointer (some ⟨g, 0, none⟩)), .slice A n c] W fun e w' => e = .returned (.agg rX.toArray) ∧ BS w' g (also (kb 101, encB a) []) [] ∧ KF g W w') := Lib.hid (fun W g hS hI => by
    rw [hrX]
    exact digest_book g [] [] a A n c W hS hI (by rw [← hI.len]; omega) hma2 (by omega) (by decide))
  have HDb : Hid (∀ (W : World) (g : Nat), BS W g (also (kb 101, encB a) []) [] → EysIn W B m b → Calls Tryd.prog 8 #[.iface 25 (.pointer (some ⟨g, 0, none⟩)), .slice B m d] W fun e w' => e = .returned (.agg rY.toArray) ∧ KF g W w') := Lib.hid (fun W g hS hI => by
    rw [hrY]
    exact (digest_book g (also (kb 101, encB a) []) [] b B m d W hS hI (by rw [← hI.len]; omega) hmb2 (by omega) (by have := also_length (kb 101, encB a) ([] : List DK); simp at this; omega)).mono fun _ _ h => ⟨h.1, h.2.2⟩)
  have HDt : Hid (∀ (W : World) (g : Nat), Tab W → EysIn W A n a → Calls Tryd.prog 8 #[.iface 27 (.pointer (some ⟨g, 0, none⟩)), .slice A n c] W fun e w' => e = .returned (.agg rT.toArray) ∧ Below W.heap.size W w') := Lib.hid (fun W g hT hI => by
    rw [hrT]
    exact digest_table g a A n c W hT hI (by rw [← hI.len]; omega) hma2 (by omega))
  have HTd : Hid (∀ (W : World) (g : Nat) (D : Option Addr) (k d : Nat), Tab W → By W (fun _ => True) D k (encB a) → Calls Tryd.prog 11 #[.pointer (some ⟨g, 0, none⟩), .int .i64 101, .slice D k d] W fun e w' => e = .returned (.agg rT.toArray) ∧ Below W.heap.size W w') := Lib.hid (fun W g D k d hT hY => by
    rw [hrT]
    exact digest_any (fun _ => True) _ 101 (encB a) D k d W hY hT (by rw [← hY.len]; omega))
  have HRb : Hid (∀ W : World, EysIn W A n a → Calls Tryd.prog 12 #[.slice A n c] W (Byt W (encB a))) := Lib.hid (fun W hI => rbytesB_any a A n c W hI (by rw [← hI.len]; omega) hma2 (by omega))
  obtain ⟨sab, hsab⟩ : ∃ sab, sameB a b = sab := ⟨_, rfl⟩
  have HSm : Hid (∀ W : World, EysIn W A n a → EysIn W B m b → Calls Tryd.prog 9 #[.slice A n c, .slice B m d] W fun e w' => e = .returned (.bool sab) ∧ Below W.heap.size W w') := Lib.hid (fun W hI hJ => by rw [← hsab]; exact sameB_any a b A n c B m d W hI hJ hn9)
  have HRs : Hid (∀ W : World, EysIn W A n a → EysIn W B m b → Calls Tryd.prog 10 #[.slice A n c, .slice B m d] W fun e w' => e = .returned (.bool sab) ∧ Below W.heap.size W w') := Lib.hid (fun W hI hJ => by rw [← hsab]; exact rsame15_any a b A n c B m d W hI hJ hn9)
  have HCa0 : Hid (∀ W : World, EysIn W A n a → Calls Tryd.prog 13 #[.slice A n c, .int .i64 N] W fun e w' => e = .returned (.int .i64 (chkB a N)) ∧ Below W.heap.size W w') := Lib.hid (fun W hI => rcheck15_any a N A n c W hI (fun y hy => (hma2 y hy).1))
  have HCb0 : Hid (∀ W : World, EysIn W B m b → Calls Tryd.prog 13 #[.slice B m d, .int .i64 N] W fun e w' => e = .returned (.int .i64 (chkB b N)) ∧ Below W.heap.size W w') := Lib.hid (fun W hI => rcheck15_any b N B m d W hI (fun y hy => (hmb2 y hy).1))
  have hsE : sab = true → E = true := fun h9 => by
    rw [h9] at hsab
    rw [← hE, sameB_iff.1 hsab]
    exact decide_eq_true rfl
  have hok : chkB a N = 0 → chkB b N = 0 → E = sab := fun ha hb => by
    cases hs : sab with
    | true => exact hsE hs
    | false =>
      rw [← hE]
      refine decide_eq_false fun h9 => ?_
      have h8 := encB_inj ha hb hia hib h9
      rw [h8, sameB_self, hs] at hsab
      cases hsab
  clear ht h h' hnc hc hmd hd hia hib hfa hfb hla hma hlb hmb hma2 hmb2 hLa hLb hr1 hrX hrY hrT hE hsab hn9 hm9
  by_cases hca : chkB a N = 0
  case neg =>
    obtain ⟨ea, hea⟩ : ∃ ea, chkB a N = ea := ⟨_, rfl⟩
    have HCa : Hid (∀ W : World, EysIn W A n a → Calls Tryd.prog 13 #[.slice A n c, .int .i64 N] W fun e w' => e = .returned (.int .i64 ea) ∧ Below W.heap.size W w') := Lib.hid (fun W hI => hea ▸ HCa0.out W hI)
    rw [hea] at hca
    have eb : (ea == 0) = false := by simpa using hca
    have ed : (ea != 0) = true := by simpa using hca
    clear hca hea hok
    cases sab with
    | false =>
      clear hsE
      go_enter Tryd.func3, Tryd.ntmps3
      go_wp2_with (first
        | (go_at_call 4; (with_reducible refine (fixed15_any _).mono ?_); rintro e w1 ⟨rfl, hb1⟩; have HX1 := Lib.hid hb1; clear hb1)
        | (go_at_call 5; (with_reducible refine (HFa.out _ (HI.out.through HX1.out)).mono ?_); rintro e w2 ⟨rfl, hb2⟩; have HX2 := Lib.hid (below_step HX1.out hb2); clear hb2)
        | (go_at_call 5; (with_reducible refine (HFb.out _ (HJ.out.through HX2.out)).mono ?_); rintro e w3 ⟨rfl, hb3⟩; have HX3 := Lib.hid (below_step HX2.out hb3); clear hb3)
        | (go_at_call 6; (with_reducible refine (bnew_any _).mono ?_); rintro e w4 ⟨rfl, hs4, hb4⟩; have HS4 := Lib.hid hs4; have HX4 := Lib.hid (below_step HX3.out hb4); clear hs4 hb4)
        | (go_at_call 7; (with_reducible refine (knew_nil _).mono ?_); rintro e w5 ⟨gt, rfl, hb5⟩; have HS5 := Lib.hid (HS4.out.through hb5); have HX5 := Lib.hid (below_step HX4.out hb5); clear hb5)
        | (go_at_call 8; (with_reducible refine (HDa.out _ _ HS5.out (HI.out.through HX5.out)).mono ?_); rintro e w6 ⟨rfl, hs6, hk6⟩; have HS6 := Lib.hid hs6; have HX6 := Lib.hid (HX5.out.trans (hk6.low.mono HX3.out.size)); clear hs6 hk6)
        | (go_at_call 8; (with_reducible refine (HDb.out _ _ HS6.out (HJ.out.through HX6.out)).mono ?_); rintro e w7 ⟨rfl, hk7⟩; have HX7 := Lib.hid (HX6.out.trans (hk7.low.mono HX3.out.size)); clear hk7)
        | (refine wpList_store_blk rfl 30 (.tmp 9) (.tmp 26) rfl w7.heap.size rX rfl rfl 30 r1 ((Blk.fresh rfl rfl : Blk (w7.alloc (.cells r1.toArray 30)) w7.heap.size 30 r1).alloc _) (by rw [HLx.out]; kernel_rfl) (by rw [HL1.out, HLx.out]) HOx.out ?_; intro w8 hb8 hg8; have HA8 := Lib.hid hb8; have HB8 : Hid (Blk w8 (w7.heap.size + 1) 30 r1) := Lib.hid ((Blk.fresh (by simp) rfl : Blk ((w7.alloc (.cells r1.toArray 30)).alloc (.cells r1.toArray 30)) (w7.heap.size + 1) 30 r1).grown hg8 (fun e => by have := Option.some.inj e; omega)); have HX8 : Hid (Below w.heap.size w w8) := Lib.hid (((HX7.out.alloc HX7.out.size (.cells r1.toArray 30)).alloc (by have := HX7.out.size; simp; omega) (.cells r1.toArray 30)).grown hg8 (by have := HX7.out.size; simp; omega) (fun k hk => by have := Option.some.inj hk; have := HX7.out.size; omega)); clear hb8 hg8)
        | (refine wpList_store_blk rfl 30 (.tmp 10) (.tmp 30) rfl (w7.heap.size + 1) rY rfl rfl 30 r1 HB8.out (by rw [HLy.out]; kernel_rfl) (by rw [HL1.out, HLy.out]) HOy.out ?_; intro w9 hb9 hg9; have HB9 := Lib.hid hb9; have HA9 := Lib.hid (HA8.out.grown hg9 (fun e => by have := Option.some.inj e; omega)); have HX9 : Hid (Below w.heap.size w w9) := Lib.hid (HX8.out.grown hg9 HX8.out.size (fun k hk => by have := Option.some.inj hk; have := HX7.out.size; omega)); clear hb9 hg9)
        | (go_at_call 9; (with_reducible refine (HSm.out _ (HI.out.through HX9.out) (HJ.out.through HX9.out)).mono ?_); rintro e w10 ⟨rfl, hb10⟩; have HX10 := Lib.hid (below_step HX9.out hb10); have HA10 := Lib.hid (HA9.out.through hb10); have HB10 := Lib.hid (HB9.out.through hb10); clear hb10)
        | (go_at_call 10; (with_reducible refine (HRs.out _ (HI.out.through HX10.out) (HJ.out.through HX10.out)).mono ?_); rintro e w11 ⟨rfl, hb11⟩; have HX11 := Lib.hid (below_step HX10.out hb11); have HA11 := Lib.hid (HA10.out.through hb11); have HB11 := Lib.hid (HB10.out.through hb11); clear hb11)
        | (go_at_call 8; (with_reducible refine (HDt.out _ _ (HT.out.through HX11.out) (HI.out.through HX11.out)).mono ?_); rintro e w12 ⟨rfl, hb12⟩; have HX12 := Lib.hid (below_step HX11.out hb12); have HA12 := Lib.hid (HA11.out.through hb12); have HB12 := Lib.hid (HB11.out.through hb12); clear hb12)
        | (go_at_call 12; (with_reducible refine (HRb.out _ (HI.out.through HX12.out)).mono ?_); rintro e w13 ⟨A13, n13, c13, rfl, hy13, _, _, hb13⟩; have HY13 := Lib.hid hy13; clear hy13; have HX13 := Lib.hid (below_step HX12.out hb13); have HA13 := Lib.hid (HA12.out.through hb13); have HB13 := Lib.hid (HB12.out.through hb13); clear hb13)
        | (go_at_call 11; (with_reducible refine (HTd.out _ _ _ _ _ (HT.out.through HX13.out) HY13.out).mono ?_); rintro e w14 ⟨rfl, hb14⟩; have HX14 := Lib.hid (below_step HX13.out hb14); have HA14 := Lib.hid (HA13.out.through hb14); have HB14 := Lib.hid (HB13.out.through hb14); clear hb14)
        | (go_at_call 13; (with_reducible refine (HCa.out _ (HI.out.through HX14.out)).mono ?_); rintro e w15 ⟨rfl, hb15⟩; have HX15 := Lib.hid (below_step HX14.out hb15); have HA15 := Lib.hid (HA14.out.through hb15); have HB15 := Lib.hid (HB14.out.through hb15); clear hb15)
        | (go_at_call 10; (with_reducible refine (HRs.out _ (HI.out.through HX15.out) (HJ.out.through HX15.out)).mono ?_); rintro e w17 ⟨rfl, hb17⟩; have HX17 := Lib.hid (below_step HX15.out hb17); have HA17 := Lib.hid (HA15.out.through hb17); have HB17 := Lib.hid (HB15.out.through hb17); clear hb17))
      go_ret
      exact ⟨rfl, HX17.out⟩
    | true =>
      obtain rfl : E = true := hsE rfl
      clear hsE
      go_enter Tryd.func3, Tryd.ntmps3
      go_wp2_with (first
        | (go_at_call 4; (with_reducible refine (fixed15_any _).mono ?_); rintro e w1 ⟨rfl, hb1⟩; have HX1 := Lib.hid hb1; clear hb1)
        | (go_at_call 5; (with_reducible refine (HFa.out _ (HI.out.through HX1.out)).mono ?_); rintro e w2 ⟨rfl, hb2⟩; have HX2 := Lib.hid (below_step HX1.out hb2); clear hb2)
        | (go_at_call 5; (with_reducible refine (HFb.out _ (HJ.out.through HX2.out)).mono ?_); rintro e w3 ⟨rfl, hb3⟩; have HX3 := Lib.hid (below_step HX2.out hb3); clear hb3)
        | (go_at_call 6; (with_reducible refine (bnew_any _).mono ?_); rintro e w4 ⟨rfl, hs4, hb4⟩; have HS4 := Lib.hid hs4; have HX4 := Lib.hid (below_step HX3.out hb4); clear hs4 hb4)
        | (go_at_call 7; (with_reducible refine (knew_nil _).mono ?_); rintro e w5 ⟨gt, rfl, hb5⟩; have HS5 := Lib.hid (HS4.out.through hb5); have HX5 := Lib.hid (below_step HX4.out hb5); clear hb5)
        | (go_at_call 8; (with_reducible refine (HDa.out _ _ HS5.out (HI.out.through HX5.out)).mono ?_); rintro e w6 ⟨rfl, hs6, hk6⟩; have HS6 := Lib.hid hs6; have HX6 := Lib.hid (HX5.out.trans (hk6.low.mono HX3.out.size)); clear hs6 hk6)
        | (go_at_call 8; (with_reducible refine (HDb.out _ _ HS6.out (HJ.out.through HX6.out)).mono ?_); rintro e w7 ⟨rfl, hk7⟩; have HX7 := Lib.hid (HX6.out.trans (hk7.low.mono HX3.out.size)); clear hk7)
        | (refine wpList_store_blk rfl 30 (.tmp 9) (.tmp 26) rfl w7.heap.size rX rfl rfl 30 r1 ((Blk.fresh rfl rfl : Blk (w7.alloc (.cells r1.toArray 30)) w7.heap.size 30 r1).alloc _) (by rw [HLx.out]; kernel_rfl) (by rw [HL1.out, HLx.out]) HOx.out ?_; intro w8 hb8 hg8; have HA8 := Lib.hid hb8; have HB8 : Hid (Blk w8 (w7.heap.size + 1) 30 r1) := Lib.hid ((Blk.fresh (by simp) rfl : Blk ((w7.alloc (.cells r1.toArray 30)).alloc (.cells r1.toArray 30)) (w7.heap.size + 1) 30 r1).grown hg8 (fun e => by have := Option.some.inj e; omega)); have HX8 : Hid (Below w.heap.size w w8) := Lib.hid (((HX7.out.alloc HX7.out.size (.cells r1.toArray 30)).alloc (by have := HX7.out.size; simp; omega) (.cells r1.toArray 30)).grown hg8 (by have := HX7.out.size; simp; omega) (fun k hk => by have := Option.some.inj hk; have := HX7.out.size; omega)); clear hb8 hg8)
        | (refine wpList_store_blk rfl 30 (.tmp 10) (.tmp 30) rfl (w7.heap.size + 1) rY rfl rfl 30 r1 HB8.out (by rw [HLy.out]; kernel_rfl) (by rw [HL1.out, HLy.out]) HOy.out ?_; intro w9 hb9 hg9; have HB9 := Lib.hid hb9; have HA9 := Lib.hid (HA8.out.grown hg9 (fun e => by have := Option.some.inj e; omega)); have HX9 : Hid (Below w.heap.size w w9) := Lib.hid (HX8.out.grown hg9 HX8.out.size (fun k hk => by have := Option.some.inj hk; have := HX7.out.size; omega)); clear hb9 hg9)
        | (go_at_call 9; (with_reducible refine (HSm.out _ (HI.out.through HX9.out) (HJ.out.through HX9.out)).mono ?_); rintro e w10 ⟨rfl, hb10⟩; have HX10 := Lib.hid (below_step HX9.out hb10); have HA10 := Lib.hid (HA9.out.through hb10); have HB10 := Lib.hid (HB9.out.through hb10); clear hb10)
        | (go_at_call 10; (with_reducible refine (HRs.out _ (HI.out.through HX10.out) (HJ.out.through HX10.out)).mono ?_); rintro e w11 ⟨rfl, hb11⟩; have HX11 := Lib.hid (below_step HX10.out hb11); have HA11 := Lib.hid (HA10.out.through hb11); have HB11 := Lib.hid (HB10.out.through hb11); clear hb11)
        | (go_at_call 8; (with_reducible refine (HDt.out _ _ (HT.out.through HX11.out) (HI.out.through HX11.out)).mono ?_); rintro e w12 ⟨rfl, hb12⟩; have HX12 := Lib.hid (below_step HX11.out hb12); have HA12 := Lib.hid (HA11.out.through hb12); have HB12 := Lib.hid (HB11.out.through hb12); clear hb12)
        | (go_at_call 12; (with_reducible refine (HRb.out _ (HI.out.through HX12.out)).mono ?_); rintro e w13 ⟨A13, n13, c13, rfl, hy13, _, _, hb13⟩; have HY13 := Lib.hid hy13; clear hy13; have HX13 := Lib.hid (below_step HX12.out hb13); have HA13 := Lib.hid (HA12.out.through hb13); have HB13 := Lib.hid (HB12.out.through hb13); clear hb13)
        | (go_at_call 11; (with_reducible refine (HTd.out _ _ _ _ _ (HT.out.through HX13.out) HY13.out).mono ?_); rintro e w14 ⟨rfl, hb14⟩; have HX14 := Lib.hid (below_step HX13.out hb14); have HA14 := Lib.hid (HA13.out.through hb14); have HB14 := Lib.hid (HB13.out.through hb14); clear hb14)
        | (go_at_call 13; (with_reducible refine (HCa.out _ (HI.out.through HX14.out)).mono ?_); rintro e w15 ⟨rfl, hb15⟩; have HX15 := Lib.hid (below_step HX14.out hb15); have HA15 := Lib.hid (HA14.out.through hb15); have HB15 := Lib.hid (HB14.out.through hb15); clear hb15)
        | (go_at_call 10; (with_reducible refine (HRs.out _ (HI.out.through HX15.out) (HJ.out.through HX15.out)).mono ?_); rintro e w17 ⟨rfl, hb17⟩; have HX17 := Lib.hid (below_step HX15.out hb17); have HA17 := Lib.hid (HA15.out.through hb17); have HB17 := Lib.hid (HB15.out.through hb17); clear hb17)
        | (refine wpList_load_blk_g 30 (.tmp 9) rfl (by kernel_rfl) w7.heap.size rfl 30 rX _ HA17.out Tryd.underlying30 rfl (by rw [HLx.out]; kernel_rfl) ?_)
        | (refine wpList_load_blk_g 30 (.tmp 10) rfl (by kernel_rfl) (w7.heap.size + 1) rfl 30 rY _ HB17.out Tryd.underlying30 rfl (by rw [HLy.out]; kernel_rfl) ?_))
      go_ret
      exact ⟨rfl, HX17.out⟩
  rw [hca] at HCa0
  have HCa := HCa0
  by_cases hcb : chkB b N = 0
  case neg =>
    obtain ⟨ea, hea⟩ : ∃ ea, chkB b N = ea := ⟨_, rfl⟩
    have HCb : Hid (∀ W : World, EysIn W B m b → Calls Tryd.prog 13 #[.slice B m d, .int .i64 N] W fun e w' => e = .returned (.int .i64 ea) ∧ Below W.heap.size W w') := Lib.hid (fun W hI => hea ▸ HCb0.out W hI)
    rw [hea] at hcb
    have eb : (ea == 0) = false := by simpa using hcb
    have ed : (ea != 0) = true := by simpa using hcb
    clear hca hcb hea hok
    cases sab with
    | false =>
      clear hsE
      go_enter Tryd.func3, Tryd.ntmps3
      go_wp2_with (first
        | (go_at_call 4; (with_reducible refine (fixed15_any _).mono ?_); rintro e w1 ⟨rfl, hb1⟩; have HX1 := Lib.hid hb1; clear hb1)
        | (go_at_call 5; (with_reducible refine (HFa.out _ (HI.out.through HX1.out)).mono ?_); rintro e w2 ⟨rfl, hb2⟩; have HX2 := Lib.hid (below_step HX1.out hb2); clear hb2)
        | (go_at_call 5; (with_reducible refine (HFb.out _ (HJ.out.through HX2.out)).mono ?_); rintro e w3 ⟨rfl, hb3⟩; have HX3 := Lib.hid (below_step HX2.out hb3); clear hb3)
        | (go_at_call 6; (with_reducible refine (bnew_any _).mono ?_); rintro e w4 ⟨rfl, hs4, hb4⟩; have HS4 := Lib.hid hs4; have HX4 := Lib.hid (below_step HX3.out hb4); clear hs4 hb4)
        | (go_at_call 7; (with_reducible refine (knew_nil _).mono ?_); rintro e w5 ⟨gt, rfl, hb5⟩; have HS5 := Lib.hid (HS4.out.through hb5); have HX5 := Lib.hid (below_step HX4.out hb5); clear hb5)
        | (go_at_call 8; (with_reducible refine (HDa.out _ _ HS5.out (HI.out.through HX5.out)).mono ?_); rintro e w6 ⟨rfl, hs6, hk6⟩; have HS6 := Lib.hid hs6; have HX6 := Lib.hid (HX5.out.trans (hk6.low.mono HX3.out.size)); clear hs6 hk6)
        | (go_at_call 8; (with_reducible refine (HDb.out _ _ HS6.out (HJ.out.through HX6.out)).mono ?_); rintro e w7 ⟨rfl, hk7⟩; have HX7 := Lib.hid (HX6.out.trans (hk7.low.mono HX3.out.size)); clear hk7)
        | (refine wpList_store_blk rfl 30 (.tmp 9) (.tmp 26) rfl w7.heap.size rX rfl rfl 30 r1 ((Blk.fresh rfl rfl : Blk (w7.alloc (.cells r1.toArray 30)) w7.heap.size 30 r1).alloc _) (by rw [HLx.out]; kernel_rfl) (by rw [HL1.out, HLx.out]) HOx.out ?_; intro w8 hb8 hg8; have HA8 := Lib.hid hb8; have HB8 : Hid (Blk w8 (w7.heap.size + 1) 30 r1) := Lib.hid ((Blk.fresh (by simp) rfl : Blk ((w7.alloc (.cells r1.toArray 30)).alloc (.cells r1.toArray 30)) (w7.heap.size + 1) 30 r1).grown hg8 (fun e => by have := Option.some.inj e; omega)); have HX8 : Hid (Below w.heap.size w w8) := Lib.hid (((HX7.out.alloc HX7.out.size (.cells r1.toArray 30)).alloc (by have := HX7.out.size; simp; omega) (.cells r1.toArray 30)).grown hg8 (by have := HX7.out.size; simp; omega) (fun k hk => by have := Option.some.inj hk; have := HX7.out.size; omega)); clear hb8 hg8)
        | (refine wpList_store_blk rfl 30 (.tmp 10) (.tmp 30) rfl (w7.heap.size + 1) rY rfl rfl 30 r1 HB8.out (by rw [HLy.out]; kernel_rfl) (by rw [HL1.out, HLy.out]) HOy.out ?_; intro w9 hb9 hg9; have HB9 := Lib.hid hb9; have HA9 := Lib.hid (HA8.out.grown hg9 (fun e => by have := Option.some.inj e; omega)); have HX9 : Hid (Below w.heap.size w w9) := Lib.hid (HX8.out.grown hg9 HX8.out.size (fun k hk => by have := Option.some.inj hk; have := HX7.out.size; omega)); clear hb9 hg9)
        | (go_at_call 9; (with_reducible refine (HSm.out _ (HI.out.through HX9.out) (HJ.out.through HX9.out)).mono ?_); rintro e w10 ⟨rfl, hb10⟩; have HX10 := Lib.hid (below_step HX9.out hb10); have HA10 := Lib.hid (HA9.out.through hb10); have HB10 := Lib.hid (HB9.out.through hb10); clear hb10)
        | (go_at_call 10; (with_reducible refine (HRs.out _ (HI.out.through HX10.out) (HJ.out.through HX10.out)).mono ?_); rintro e w11 ⟨rfl, hb11⟩; have HX11 := Lib.hid (below_step HX10.out hb11); have HA11 := Lib.hid (HA10.out.through hb11); have HB11 := Lib.hid (HB10.out.through hb11); clear hb11)
        | (go_at_call 8; (with_reducible refine (HDt.out _ _ (HT.out.through HX11.out) (HI.out.through HX11.out)).mono ?_); rintro e w12 ⟨rfl, hb12⟩; have HX12 := Lib.hid (below_step HX11.out hb12); have HA12 := Lib.hid (HA11.out.through hb12); have HB12 := Lib.hid (HB11.out.through hb12); clear hb12)
        | (go_at_call 12; (with_reducible refine (HRb.out _ (HI.out.through HX12.out)).mono ?_); rintro e w13 ⟨A13, n13, c13, rfl, hy13, _, _, hb13⟩; have HY13 := Lib.hid hy13; clear hy13; have HX13 := Lib.hid (below_step HX12.out hb13); have HA13 := Lib.hid (HA12.out.through hb13); have HB13 := Lib.hid (HB12.out.through hb13); clear hb13)
        | (go_at_call 11; (with_reducible refine (HTd.out _ _ _ _ _ (HT.out.through HX13.out) HY13.out).mono ?_); rintro e w14 ⟨rfl, hb14⟩; have HX14 := Lib.hid (below_step HX13.out hb14); have HA14 := Lib.hid (HA13.out.through hb14); have HB14 := Lib.hid (HB13.out.through hb14); clear hb14)
        | (go_at_call 13; (with_reducible refine (HCa.out _ (HI.out.through HX14.out)).mono ?_); rintro e w15 ⟨rfl, hb15⟩; have HX15 := Lib.hid (below_step HX14.out hb15); have HA15 := Lib.hid (HA14.out.through hb15); have HB15 := Lib.hid (HB14.out.through hb15); clear hb15)
        | (go_at_call 13; (with_reducible refine (HCb.out _ (HJ.out.through HX15.out)).mono ?_); rintro e w16 ⟨rfl, hb16⟩; have HX16 := Lib.hid (below_step HX15.out hb16); have HA16 := Lib.hid (HA15.out.through hb16); have HB16 := Lib.hid (HB15.out.through hb16); clear hb16)
        | (go_at_call 10; (with_reducible refine (HRs.out _ (HI.out.through HX16.out) (HJ.out.through HX16.out)).mono ?_); rintro e w17 ⟨rfl, hb17⟩; have HX17 := Lib.hid (below_step HX16.out hb17); have HA17 := Lib.hid (HA16.out.through hb17); have HB17 := Lib.hid (HB16.out.through hb17); clear hb17))
      go_ret
      exact ⟨rfl, HX17.out⟩
    | true =>
      obtain rfl : E = true := hsE rfl
      clear hsE
      go_enter Tryd.func3, Tryd.ntmps3
      go_wp2_with (first
        | (go_at_call 4; (with_reducible refine (fixed15_any _).mono ?_); rintro e w1 ⟨rfl, hb1⟩; have HX1 := Lib.hid hb1; clear hb1)
        | (go_at_call 5; (with_reducible refine (HFa.out _ (HI.out.through HX1.out)).mono ?_); rintro e w2 ⟨rfl, hb2⟩; have HX2 := Lib.hid (below_step HX1.out hb2); clear hb2)
        | (go_at_call 5; (with_reducible refine (HFb.out _ (HJ.out.through HX2.out)).mono ?_); rintro e w3 ⟨rfl, hb3⟩; have HX3 := Lib.hid (below_step HX2.out hb3); clear hb3)
        | (go_at_call 6; (with_reducible refine (bnew_any _).mono ?_); rintro e w4 ⟨rfl, hs4, hb4⟩; have HS4 := Lib.hid hs4; have HX4 := Lib.hid (below_step HX3.out hb4); clear hs4 hb4)
        | (go_at_call 7; (with_reducible refine (knew_nil _).mono ?_); rintro e w5 ⟨gt, rfl, hb5⟩; have HS5 := Lib.hid (HS4.out.through hb5); have HX5 := Lib.hid (below_step HX4.out hb5); clear hb5)
        | (go_at_call 8; (with_reducible refine (HDa.out _ _ HS5.out (HI.out.through HX5.out)).mono ?_); rintro e w6 ⟨rfl, hs6, hk6⟩; have HS6 := Lib.hid hs6; have HX6 := Lib.hid (HX5.out.trans (hk6.low.mono HX3.out.size)); clear hs6 hk6)
        | (go_at_call 8; (with_reducible refine (HDb.out _ _ HS6.out (HJ.out.through HX6.out)).mono ?_); rintro e w7 ⟨rfl, hk7⟩; have HX7 := Lib.hid (HX6.out.trans (hk7.low.mono HX3.out.size)); clear hk7)
        | (refine wpList_store_blk rfl 30 (.tmp 9) (.tmp 26) rfl w7.heap.size rX rfl rfl 30 r1 ((Blk.fresh rfl rfl : Blk (w7.alloc (.cells r1.toArray 30)) w7.heap.size 30 r1).alloc _) (by rw [HLx.out]; kernel_rfl) (by rw [HL1.out, HLx.out]) HOx.out ?_; intro w8 hb8 hg8; have HA8 := Lib.hid hb8; have HB8 : Hid (Blk w8 (w7.heap.size + 1) 30 r1) := Lib.hid ((Blk.fresh (by simp) rfl : Blk ((w7.alloc (.cells r1.toArray 30)).alloc (.cells r1.toArray 30)) (w7.heap.size + 1) 30 r1).grown hg8 (fun e => by have := Option.some.inj e; omega)); have HX8 : Hid (Below w.heap.size w w8) := Lib.hid (((HX7.out.alloc HX7.out.size (.cells r1.toArray 30)).alloc (by have := HX7.out.size; simp; omega) (.cells r1.toArray 30)).grown hg8 (by have := HX7.out.size; simp; omega) (fun k hk => by have := Option.some.inj hk; have := HX7.out.size; omega)); clear hb8 hg8)
        | (refine wpList_store_blk rfl 30 (.tmp 10) (.tmp 30) rfl (w7.heap.size + 1) rY rfl rfl 30 r1 HB8.out (by rw [HLy.out]; kernel_rfl) (by rw [HL1.out, HLy.out]) HOy.out ?_; intro w9 hb9 hg9; have HB9 := Lib.hid hb9; have HA9 := Lib.hid (HA8.out.grown hg9 (fun e => by have := Option.some.inj e; omega)); have HX9 : Hid (Below w.heap.size w w9) := Lib.hid (HX8.out.grown hg9 HX8.out.size (fun k hk => by have := Option.some.inj hk; have := HX7.out.size; omega)); clear hb9 hg9)
        | (go_at_call 9; (with_reducible refine (HSm.out _ (HI.out.through HX9.out) (HJ.out.through HX9.out)).mono ?_); rintro e w10 ⟨rfl, hb10⟩; have HX10 := Lib.hid (below_step HX9.out hb10); have HA10 := Lib.hid (HA9.out.through hb10); have HB10 := Lib.hid (HB9.out.through hb10); clear hb10)
        | (go_at_call 10; (with_reducible refine (HRs.out _ (HI.out.through HX10.out) (HJ.out.through HX10.out)).mono ?_); rintro e w11 ⟨rfl, hb11⟩; have HX11 := Lib.hid (below_step HX10.out hb11); have HA11 := Lib.hid (HA10.out.through hb11); have HB11 := Lib.hid (HB10.out.through hb11); clear hb11)
        | (go_at_call 8; (with_reducible refine (HDt.out _ _ (HT.out.through HX11.out) (HI.out.through HX11.out)).mono ?_); rintro e w12 ⟨rfl, hb12⟩; have HX12 := Lib.hid (below_step HX11.out hb12); have HA12 := Lib.hid (HA11.out.through hb12); have HB12 := Lib.hid (HB11.out.through hb12); clear hb12)
        | (go_at_call 12; (with_reducible refine (HRb.out _ (HI.out.through HX12.out)).mono ?_); rintro e w13 ⟨A13, n13, c13, rfl, hy13, _, _, hb13⟩; have HY13 := Lib.hid hy13; clear hy13; have HX13 := Lib.hid (below_step HX12.out hb13); have HA13 := Lib.hid (HA12.out.through hb13); have HB13 := Lib.hid (HB12.out.through hb13); clear hb13)
        | (go_at_call 11; (with_reducible refine (HTd.out _ _ _ _ _ (HT.out.through HX13.out) HY13.out).mono ?_); rintro e w14 ⟨rfl, hb14⟩; have HX14 := Lib.hid (below_step HX13.out hb14); have HA14 := Lib.hid (HA13.out.through hb14); have HB14 := Lib.hid (HB13.out.through hb14); clear hb14)
        | (go_at_call 13; (with_reducible refine (HCa.out _ (HI.out.through HX14.out)).mono ?_); rintro e w15 ⟨rfl, hb15⟩; have HX15 := Lib.hid (below_step HX14.out hb15); have HA15 := Lib.hid (HA14.out.through hb15); have HB15 := Lib.hid (HB14.out.through hb15); clear hb15)
        | (go_at_call 13; (with_reducible refine (HCb.out _ (HJ.out.through HX15.out)).mono ?_); rintro e w16 ⟨rfl, hb16⟩; have HX16 := Lib.hid (below_step HX15.out hb16); have HA16 := Lib.hid (HA15.out.through hb16); have HB16 := Lib.hid (HB15.out.through hb16); clear hb16)
        | (go_at_call 10; (with_reducible refine (HRs.out _ (HI.out.through HX16.out) (HJ.out.through HX16.out)).mono ?_); rintro e w17 ⟨rfl, hb17⟩; have HX17 := Lib.hid (below_step HX16.out hb17); have HA17 := Lib.hid (HA16.out.through hb17); have HB17 := Lib.hid (HB16.out.through hb17); clear hb17)
        | (refine wpList_load_blk_g 30 (.tmp 9) rfl (by kernel_rfl) w7.heap.size rfl 30 rX _ HA17.out Tryd.underlying30 rfl (by rw [HLx.out]; kernel_rfl) ?_)
        | (refine wpList_load_blk_g 30 (.tmp 10) rfl (by kernel_rfl) (w7.heap.size + 1) rfl 30 rY _ HB17.out Tryd.underlying30 rfl (by rw [HLy.out]; kernel_rfl) ?_))
      go_ret
      exact ⟨rfl, HX17.out⟩
  rw [hcb] at HCb0
  have HCb := HCb0
  obtain rfl : E = sab := hok hca hcb
  clear hca hcb hok hsE
  cases E with
  | false =>
    go_enter Tryd.func3, Tryd.ntmps3
    go_wp2_with (first
      | (go_at_call 4; (with_reducible refine (fixed15_any _).mono ?_); rintro e w1 ⟨rfl, hb1⟩; have HX1 := Lib.hid hb1; clear hb1)
      | (go_at_call 5; (with_reducible refine (HFa.out _ (HI.out.through HX1.out)).mono ?_); rintro e w2 ⟨rfl, hb2⟩; have HX2 := Lib.hid (below_step HX1.out hb2); clear hb2)
      | (go_at_call 5; (with_reducible refine (HFb.out _ (HJ.out.through HX2.out)).mono ?_); rintro e w3 ⟨rfl, hb3⟩; have HX3 := Lib.hid (below_step HX2.out hb3); clear hb3)
      | (go_at_call 6; (with_reducible refine (bnew_any _).mono ?_); rintro e w4 ⟨rfl, hs4, hb4⟩; have HS4 := Lib.hid hs4; have HX4 := Lib.hid (below_step HX3.out hb4); clear hs4 hb4)
      | (go_at_call 7; (with_reducible refine (knew_nil _).mono ?_); rintro e w5 ⟨gt, rfl, hb5⟩; have HS5 := Lib.hid (HS4.out.through hb5); have HX5 := Lib.hid (below_step HX4.out hb5); clear hb5)
      | (go_at_call 8; (with_reducible refine (HDa.out _ _ HS5.out (HI.out.through HX5.out)).mono ?_); rintro e w6 ⟨rfl, hs6, hk6⟩; have HS6 := Lib.hid hs6; have HX6 := Lib.hid (HX5.out.trans (hk6.low.mono HX3.out.size)); clear hs6 hk6)
      | (go_at_call 8; (with_reducible refine (HDb.out _ _ HS6.out (HJ.out.through HX6.out)).mono ?_); rintro e w7 ⟨rfl, hk7⟩; have HX7 := Lib.hid (HX6.out.trans (hk7.low.mono HX3.out.size)); clear hk7)
      | (refine wpList_store_blk rfl 30 (.tmp 9) (.tmp 26) rfl w7.heap.size rX rfl rfl 30 r1 ((Blk.fresh rfl rfl : Blk (w7.alloc (.cells r1.toArray 30)) w7.heap.size 30 r1).alloc _) (by rw [HLx.out]; kernel_rfl) (by rw [HL1.out, HLx.out]) HOx.out ?_; intro w8 hb8 hg8; have HA8 := Lib.hid hb8; have HB8 : Hid (Blk w8 (w7.heap.size + 1) 30 r1) := Lib.hid ((Blk.fresh (by simp) rfl : Blk ((w7.alloc (.cells r1.toArray 30)).alloc (.cells r1.toArray 30)) (w7.heap.size + 1) 30 r1).grown hg8 (fun e => by have := Option.some.inj e; omega)); have HX8 : Hid (Below w.heap.size w w8) := Lib.hid (((HX7.out.alloc HX7.out.size (.cells r1.toArray 30)).alloc (by have := HX7.out.size; simp; omega) (.cells r1.toArray 30)).grown hg8 (by have := HX7.out.size; simp; omega) (fun k hk => by have := Option.some.inj hk; have := HX7.out.size; omega)); clear hb8 hg8)
      | (refine wpList_store_blk rfl 30 (.tmp 10) (.tmp 30) rfl (w7.heap.size + 1) rY rfl rfl 30 r1 HB8.out (by rw [HLy.out]; kernel_rfl) (by rw [HL1.out, HLy.out]) HOy.out ?_; intro w9 hb9 hg9; have HB9 := Lib.hid hb9; have HA9 := Lib.hid (HA8.out.grown hg9 (fun e => by have := Option.some.inj e; omega)); have HX9 : Hid (Below w.heap.size w w9) := Lib.hid (HX8.out.grown hg9 HX8.out.size (fun k hk => by have := Option.some.inj hk; have := HX7.out.size; omega)); clear hb9 hg9)
      | (go_at_call 9; (with_reducible refine (HSm.out _ (HI.out.through HX9.out) (HJ.out.through HX9.out)).mono ?_); rintro e w10 ⟨rfl, hb10⟩; have HX10 := Lib.hid (below_step HX9.out hb10); have HA10 := Lib.hid (HA9.out.through hb10); have HB10 := Lib.hid (HB9.out.through hb10); clear hb10)
      | (go_at_call 10; (with_reducible refine (HRs.out _ (HI.out.through HX10.out) (HJ.out.through HX10.out)).mono ?_); rintro e w11 ⟨rfl, hb11⟩; have HX11 := Lib.hid (below_step HX10.out hb11); have HA11 := Lib.hid (HA10.out.through hb11); have HB11 := Lib.hid (HB10.out.through hb11); clear hb11)
      | (go_at_call 8; (with_reducible refine (HDt.out _ _ (HT.out.through HX11.out) (HI.out.through HX11.out)).mono ?_); rintro e w12 ⟨rfl, hb12⟩; have HX12 := Lib.hid (below_step HX11.out hb12); have HA12 := Lib.hid (HA11.out.through hb12); have HB12 := Lib.hid (HB11.out.through hb12); clear hb12)
      | (go_at_call 12; (with_reducible refine (HRb.out _ (HI.out.through HX12.out)).mono ?_); rintro e w13 ⟨A13, n13, c13, rfl, hy13, _, _, hb13⟩; have HY13 := Lib.hid hy13; clear hy13; have HX13 := Lib.hid (below_step HX12.out hb13); have HA13 := Lib.hid (HA12.out.through hb13); have HB13 := Lib.hid (HB12.out.through hb13); clear hb13)
      | (go_at_call 11; (with_reducible refine (HTd.out _ _ _ _ _ (HT.out.through HX13.out) HY13.out).mono ?_); rintro e w14 ⟨rfl, hb14⟩; have HX14 := Lib.hid (below_step HX13.out hb14); have HA14 := Lib.hid (HA13.out.through hb14); have HB14 := Lib.hid (HB13.out.through hb14); clear hb14)
      | (go_at_call 13; (with_reducible refine (HCa.out _ (HI.out.through HX14.out)).mono ?_); rintro e w15 ⟨rfl, hb15⟩; have HX15 := Lib.hid (below_step HX14.out hb15); have HA15 := Lib.hid (HA14.out.through hb15); have HB15 := Lib.hid (HB14.out.through hb15); clear hb15)
      | (go_at_call 13; (with_reducible refine (HCb.out _ (HJ.out.through HX15.out)).mono ?_); rintro e w16 ⟨rfl, hb16⟩; have HX16 := Lib.hid (below_step HX15.out hb16); have HA16 := Lib.hid (HA15.out.through hb16); have HB16 := Lib.hid (HB15.out.through hb16); clear hb16))
    refine wp_region_held_drew (S := fun W => Below w16.heap.size w16 W) (by kernel_rfl) (Below.refl _ _).drew (fun hHeld => ?_)
    change wpAnyH _ _ _ _ _ _ #[false, false, false, false, false, false, false, false] _ _
    refine wpAnyH_take (i := 0) (v := (.agg rX.toArray)) rfl (by kernel_rfl) (by kernel_rfl) (by kernel_rfl) (fun _ _ _ h => h) (yields_load_at (by kernel_rfl) 30 (.tmp 9) rfl (.pointer (some ⟨w7.heap.size, 0, none⟩)) (by simp [Act.eval]) (.agg rX.toArray) (fun W hW => (HA16.out.through hW).loadAt 30 _ Tryd.underlying30 rfl (by rw [HLx.out]; kernel_rfl))) (by assumption) ?_
    change wpAnyH _ _ _ _ _ _ _ (Act.put _ (some (68 : Nat)) (.agg rX.toArray)) _
    simp only [Act.put, List.setIfInBounds_toArray, List.set_cons_zero, List.set_cons_succ]
    refine wpAnyH_take (i := 1) (v := (.agg rY.toArray)) rfl (by kernel_rfl) (by kernel_rfl) (by kernel_rfl) (fun _ _ _ h => h) (yields_load_at (by kernel_rfl) 30 (.tmp 10) rfl (.pointer (some ⟨w7.heap.size + 1, 0, none⟩)) (by simp [Act.eval]) (.agg rY.toArray) (fun W hW => (HB16.out.through hW).loadAt 30 _ Tryd.underlying30 rfl (by rw [HLy.out]; kernel_rfl))) (by assumption) ?_
    change wpAnyH _ _ _ _ _ _ _ (Act.put _ (some (69 : Nat)) (.agg rY.toArray)) _
    simp only [Act.put, List.setIfInBounds_toArray, List.set_cons_zero, List.set_cons_succ]
    refine wpAnyH_take (i := 2) (v := (.bool false)) rfl (by kernel_rfl) (by kernel_rfl) (by kernel_rfl) (fun _ _ _ h => h) (Or.inl ⟨by kernel_rfl, fun w hSw => ?_⟩) (by assumption) ?_
    · (try dsimp only at hSw); go_simp <;> (try rfl)
    change wpAnyH _ _ _ _ _ _ _ (Act.put _ (some (70 : Nat)) (.bool false)) _
    simp only [Act.put, List.setIfInBounds_toArray, List.set_cons_zero, List.set_cons_succ]
    refine wpAnyH_take (i := 3) (v := (.slice A n c)) rfl (by kernel_rfl) (by kernel_rfl) (by kernel_rfl) (fun _ _ _ h => h) (Or.inl ⟨by kernel_rfl, fun w hSw => ?_⟩) (by assumption) ?_
    · (try dsimp only at hSw); go_simp <;> (try rfl)
    change wpAnyH _ _ _ _ _ _ _ (Act.put _ (some (71 : Nat)) (.slice A n c)) _
    simp only [Act.put, List.setIfInBounds_toArray, List.set_cons_zero, List.set_cons_succ]
    refine wpAnyH_take (i := 4) (v := (.slice B m d)) rfl (by kernel_rfl) (by kernel_rfl) (by kernel_rfl) (fun _ _ _ h => h) (Or.inl ⟨by kernel_rfl, fun w hSw => ?_⟩) (by assumption) ?_
    · (try dsimp only at hSw); go_simp <;> (try rfl)
    change wpAnyH _ _ _ _ _ _ _ (Act.put _ (some (72 : Nat)) (.slice B m d)) _
    simp only [Act.put, List.setIfInBounds_toArray, List.set_cons_zero, List.set_cons_succ]
    refine wpAnyH_ready (rs := [5]) (by kernel_rfl) (by simp) ?_
    refine AllReadyH.cons rfl (fun K hK => ?_) AllReadyH.nil
    go_simp
    refine (HRs.out _ (HI.out.through (below_step HX16.out hHeld)) (HJ.out.through (below_step HX16.out hHeld))).mono ?_
    rintro e w17 ⟨rfl, hb17⟩; have HK17 := Lib.hid (below_step hHeld hb17); clear hb17
    go_wp2_with fail
    refine hK.out _ _ HK17.out (fun hHeld1 => ?_)
    clear hHeld hK K
    have hHeld := hHeld1
    clear hHeld1
    refine wpAnyH_take (i := 6) (v := (.bool true)) rfl (by kernel_rfl) (by kernel_rfl) (by kernel_rfl) (fun _ _ _ h => h) (Or.inl ⟨by kernel_rfl, fun w hSw => ?_⟩) (by assumption) ?_
    · (try dsimp only at hSw); go_simp <;> (try rfl)
    change wpAnyH _ _ _ _ _ _ _ (Act.put _ (some (74 : Nat)) (.bool true)) _
    simp only [Act.put, List.setIfInBounds_toArray, List.set_cons_zero, List.set_cons_succ]
    refine wpAnyH_take (i := 7) (v := (.bool true)) rfl (by kernel_rfl) (by kernel_rfl) (by kernel_rfl) (fun _ _ _ h => h) (Or.inl ⟨by kernel_rfl, fun w hSw => ?_⟩) (by assumption) ?_
    · (try dsimp only at hSw); go_simp <;> (try rfl)
    change wpAnyH _ _ _ _ _ _ _ (Act.put _ (some (6 : Nat)) (.bool true)) _
    simp only [Act.put, List.setIfInBounds_toArray, List.set_cons_zero, List.set_cons_succ]
    refine wpAnyH_done (by kernel_rfl) ?_ _
    go_wp2
    go_ret
    exact ⟨rfl, below_step HX16.out hHeld⟩
  | true =>
    go_enter Tryd.func3, Tryd.ntmps3
    go_wp2_with (first
      | (go_at_call 4; (with_reducible refine (fixed15_any _).mono ?_); rintro e w1 ⟨rfl, hb1⟩; have HX1 := Lib.hid hb1; clear hb1)
      | (go_at_call 5; (with_reducible refine (HFa.out _ (HI.out.through HX1.out)).mono ?_); rintro e w2 ⟨rfl, hb2⟩; have HX2 := Lib.hid (below_step HX1.out hb2); clear hb2)
      | (go_at_call 5; (with_reducible refine (HFb.out _ (HJ.out.through HX2.out)).mono ?_); rintro e w3 ⟨rfl, hb3⟩; have HX3 := Lib.hid (below_step HX2.out hb3); clear hb3)
      | (go_at_call 6; (with_reducible refine (bnew_any _).mono ?_); rintro e w4 ⟨rfl, hs4, hb4⟩; have HS4 := Lib.hid hs4; have HX4 := Lib.hid (below_step HX3.out hb4); clear hs4 hb4)
      | (go_at_call 7; (with_reducible refine (knew_nil _).mono ?_); rintro e w5 ⟨gt, rfl, hb5⟩; have HS5 := Lib.hid (HS4.out.through hb5); have HX5 := Lib.hid (below_step HX4.out hb5); clear hb5)
      | (go_at_call 8; (with_reducible refine (HDa.out _ _ HS5.out (HI.out.through HX5.out)).mono ?_); rintro e w6 ⟨rfl, hs6, hk6⟩; have HS6 := Lib.hid hs6; have HX6 := Lib.hid (HX5.out.trans (hk6.low.mono HX3.out.size)); clear hs6 hk6)
      | (go_at_call 8; (with_reducible refine (HDb.out _ _ HS6.out (HJ.out.through HX6.out)).mono ?_); rintro e w7 ⟨rfl, hk7⟩; have HX7 := Lib.hid (HX6.out.trans (hk7.low.mono HX3.out.size)); clear hk7)
      | (refine wpList_store_blk rfl 30 (.tmp 9) (.tmp 26) rfl w7.heap.size rX rfl rfl 30 r1 ((Blk.fresh rfl rfl : Blk (w7.alloc (.cells r1.toArray 30)) w7.heap.size 30 r1).alloc _) (by rw [HLx.out]; kernel_rfl) (by rw [HL1.out, HLx.out]) HOx.out ?_; intro w8 hb8 hg8; have HA8 := Lib.hid hb8; have HB8 : Hid (Blk w8 (w7.heap.size + 1) 30 r1) := Lib.hid ((Blk.fresh (by simp) rfl : Blk ((w7.alloc (.cells r1.toArray 30)).alloc (.cells r1.toArray 30)) (w7.heap.size + 1) 30 r1).grown hg8 (fun e => by have := Option.some.inj e; omega)); have HX8 : Hid (Below w.heap.size w w8) := Lib.hid (((HX7.out.alloc HX7.out.size (.cells r1.toArray 30)).alloc (by have := HX7.out.size; simp; omega) (.cells r1.toArray 30)).grown hg8 (by have := HX7.out.size; simp; omega) (fun k hk => by have := Option.some.inj hk; have := HX7.out.size; omega)); clear hb8 hg8)
      | (refine wpList_store_blk rfl 30 (.tmp 10) (.tmp 30) rfl (w7.heap.size + 1) rY rfl rfl 30 r1 HB8.out (by rw [HLy.out]; kernel_rfl) (by rw [HL1.out, HLy.out]) HOy.out ?_; intro w9 hb9 hg9; have HB9 := Lib.hid hb9; have HA9 := Lib.hid (HA8.out.grown hg9 (fun e => by have := Option.some.inj e; omega)); have HX9 : Hid (Below w.heap.size w w9) := Lib.hid (HX8.out.grown hg9 HX8.out.size (fun k hk => by have := Option.some.inj hk; have := HX7.out.size; omega)); clear hb9 hg9)
      | (go_at_call 9; (with_reducible refine (HSm.out _ (HI.out.through HX9.out) (HJ.out.through HX9.out)).mono ?_); rintro e w10 ⟨rfl, hb10⟩; have HX10 := Lib.hid (below_step HX9.out hb10); have HA10 := Lib.hid (HA9.out.through hb10); have HB10 := Lib.hid (HB9.out.through hb10); clear hb10)
      | (go_at_call 10; (with_reducible refine (HRs.out _ (HI.out.through HX10.out) (HJ.out.through HX10.out)).mono ?_); rintro e w11 ⟨rfl, hb11⟩; have HX11 := Lib.hid (below_step HX10.out hb11); have HA11 := Lib.hid (HA10.out.through hb11); have HB11 := Lib.hid (HB10.out.through hb11); clear hb11)
      | (go_at_call 8; (with_reducible refine (HDt.out _ _ (HT.out.through HX11.out) (HI.out.through HX11.out)).mono ?_); rintro e w12 ⟨rfl, hb12⟩; have HX12 := Lib.hid (below_step HX11.out hb12); have HA12 := Lib.hid (HA11.out.through hb12); have HB12 := Lib.hid (HB11.out.through hb12); clear hb12)
      | (go_at_call 12; (with_reducible refine (HRb.out _ (HI.out.through HX12.out)).mono ?_); rintro e w13 ⟨A13, n13, c13, rfl, hy13, _, _, hb13⟩; have HY13 := Lib.hid hy13; clear hy13; have HX13 := Lib.hid (below_step HX12.out hb13); have HA13 := Lib.hid (HA12.out.through hb13); have HB13 := Lib.hid (HB12.out.through hb13); clear hb13)
      | (go_at_call 11; (with_reducible refine (HTd.out _ _ _ _ _ (HT.out.through HX13.out) HY13.out).mono ?_); rintro e w14 ⟨rfl, hb14⟩; have HX14 := Lib.hid (below_step HX13.out hb14); have HA14 := Lib.hid (HA13.out.through hb14); have HB14 := Lib.hid (HB13.out.through hb14); clear hb14)
      | (go_at_call 13; (with_reducible refine (HCa.out _ (HI.out.through HX14.out)).mono ?_); rintro e w15 ⟨rfl, hb15⟩; have HX15 := Lib.hid (below_step HX14.out hb15); have HA15 := Lib.hid (HA14.out.through hb15); have HB15 := Lib.hid (HB14.out.through hb15); clear hb15)
      | (go_at_call 13; (with_reducible refine (HCb.out _ (HJ.out.through HX15.out)).mono ?_); rintro e w16 ⟨rfl, hb16⟩; have HX16 := Lib.hid (below_step HX15.out hb16); have HA16 := Lib.hid (HA15.out.through hb16); have HB16 := Lib.hid (HB15.out.through hb16); clear hb16))
    refine wp_region_held_drew (S := fun W => Below w16.heap.size w16 W) (by kernel_rfl) (Below.refl _ _).drew (fun hHeld => ?_)
    change wpAnyH _ _ _ _ _ _ #[false, false, false, false, false, false, false, false] _ _
    refine wpAnyH_take (i := 0) (v := (.agg rX.toArray)) rfl (by kernel_rfl) (by kernel_rfl) (by kernel_rfl) (fun _ _ _ h => h) (yields_load_at (by kernel_rfl) 30 (.tmp 9) rfl (.pointer (some ⟨w7.heap.size, 0, none⟩)) (by simp [Act.eval]) (.agg rX.toArray) (fun W hW => (HA16.out.through hW).loadAt 30 _ Tryd.underlying30 rfl (by rw [HLx.out]; kernel_rfl))) (by assumption) ?_
    change wpAnyH _ _ _ _ _ _ _ (Act.put _ (some (68 : Nat)) (.agg rX.toArray)) _
    simp only [Act.put, List.setIfInBounds_toArray, List.set_cons_zero, List.set_cons_succ]
    refine wpAnyH_take (i := 1) (v := (.agg rY.toArray)) rfl (by kernel_rfl) (by kernel_rfl) (by kernel_rfl) (fun _ _ _ h => h) (yields_load_at (by kernel_rfl) 30 (.tmp 10) rfl (.pointer (some ⟨w7.heap.size + 1, 0, none⟩)) (by simp [Act.eval]) (.agg rY.toArray) (fun W hW => (HB16.out.through hW).loadAt 30 _ Tryd.underlying30 rfl (by rw [HLy.out]; kernel_rfl))) (by assumption) ?_
    change wpAnyH _ _ _ _ _ _ _ (Act.put _ (some (69 : Nat)) (.agg rY.toArray)) _
    simp only [Act.put, List.setIfInBounds_toArray, List.set_cons_zero, List.set_cons_succ]
    refine wpAnyH_take (i := 2) (v := (.bool true)) rfl (by kernel_rfl) (by kernel_rfl) (by kernel_rfl) (fun _ _ _ h => h) (Or.inl ⟨by kernel_rfl, fun w hSw => ?_⟩) (by assumption) ?_
    · (try dsimp only at hSw); go_simp <;> (try rfl)
    change wpAnyH _ _ _ _ _ _ _ (Act.put _ (some (70 : Nat)) (.bool true)) _
    simp only [Act.put, List.setIfInBounds_toArray, List.set_cons_zero, List.set_cons_succ]
    refine wpAnyH_take (i := 3) (v := (.slice A n c)) rfl (by kernel_rfl) (by kernel_rfl) (by kernel_rfl) (fun _ _ _ h => h) (Or.inl ⟨by kernel_rfl, fun w hSw => ?_⟩) (by assumption) ?_
    · (try dsimp only at hSw); go_simp <;> (try rfl)
    change wpAnyH _ _ _ _ _ _ _ (Act.put _ (some (71 : Nat)) (.slice A n c)) _
    simp only [Act.put, List.setIfInBounds_toArray, List.set_cons_zero, List.set_cons_succ]
    refine wpAnyH_take (i := 4) (v := (.slice B m d)) rfl (by kernel_rfl) (by kernel_rfl) (by kernel_rfl) (fun _ _ _ h => h) (Or.inl ⟨by kernel_rfl, fun w hSw => ?_⟩) (by assumption) ?_
    · (try dsimp only at hSw); go_simp <;> (try rfl)
    change wpAnyH _ _ _ _ _ _ _ (Act.put _ (some (72 : Nat)) (.slice B m d)) _
    simp only [Act.put, List.setIfInBounds_toArray, List.set_cons_zero, List.set_cons_succ]
    refine wpAnyH_ready (rs := [5]) (by kernel_rfl) (by simp) ?_
    refine AllReadyH.cons rfl (fun K hK => ?_) AllReadyH.nil
    go_simp
    refine (HRs.out _ (HI.out.through (below_step HX16.out hHeld)) (HJ.out.through (below_step HX16.out hHeld))).mono ?_
    rintro e w17 ⟨rfl, hb17⟩; have HK17 := Lib.hid (below_step hHeld hb17); clear hb17
    go_wp2_with fail
    refine hK.out _ _ HK17.out (fun hHeld1 => ?_)
    clear hHeld hK K
    have hHeld := hHeld1
    clear hHeld1
    refine wpAnyH_take (i := 6) (v := (.bool true)) rfl (by kernel_rfl) (by kernel_rfl) (by kernel_rfl) (fun _ _ _ h => h) (Or.inl ⟨by kernel_rfl, fun w hSw => ?_⟩) (by assumption) ?_
    · (try dsimp only at hSw); go_simp <;> (try rfl)
    change wpAnyH _ _ _ _ _ _ _ (Act.put _ (some (74 : Nat)) (.bool true)) _
    simp only [Act.put, List.setIfInBounds_toArray, List.set_cons_zero, List.set_cons_succ]
    refine wpAnyH_take (i := 7) (v := (.bool true)) rfl (by kernel_rfl) (by kernel_rfl) (by kernel_rfl) (fun _ _ _ h => h) (Or.inl ⟨by kernel_rfl, fun w hSw => ?_⟩) (by assumption) ?_
    · (try dsimp only at hSw); go_simp <;> (try rfl)
    change wpAnyH _ _ _ _ _ _ _ (Act.put _ (some (6 : Nat)) (.bool true)) _
    simp only [Act.put, List.setIfInBounds_toArray, List.set_cons_zero, List.set_cons_succ]
    refine wpAnyH_done (by kernel_rfl) ?_ _
    go_wp2
    go_ret
    exact ⟨rfl, below_step HX16.out hHeld⟩

end Go.Proofs.YtgbobemhogeeeaaDoor
