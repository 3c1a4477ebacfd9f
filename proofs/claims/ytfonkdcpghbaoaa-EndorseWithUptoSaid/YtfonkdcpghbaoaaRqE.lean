/-
  The program's mayEndorse and readEnds, walked.
-/
import Derived.Test.YtfonkdcpghbaoaaRqT
import Derived.Test.YtfonkdcpghbaoaaRqR
namespace Go.Proofs.Ytfonkdcpghbaoaa
open Go.RowKit

/-- do they rise, above this one and below n? -/
def risE (n : Int) : Int → List En → Bool
  | _, [] => true
  | last, e :: es => !decide (e.og ≤ last) && !decide (n ≤ e.og) && risE n e.og es
theorem risE_some (n : Int) : ∀ (last : Int) (es : List En), 0 ≤ last → (∀ e ∈ es, (e.ts.length : Int) = n) → risE n last es = esOk n (some last) es
  | _, [], _, _ => rfl
  | last, e :: es, h0, hl => by
    have h1 := hl e (List.mem_cons_self ..)
    unfold risE esOk
    by_cases ha : e.og ≤ last
    · have d1 : decide (last < e.og) = false := by simpa using ha
      simp [ha, d1]
    by_cases hb : n ≤ e.og
    · simp [ha, hb, show ¬ e.og < n by omega]
    rw [risE_some n e.og es (by omega) fun x hx => hl x (List.mem_cons_of_mem _ hx)]
    simp [ha, hb, h1, show e.og < n by omega, show last < e.og by omega, show 0 ≤ e.og by omega]
theorem risE_none (n : Int) (es : List En) (h0 : ∀ e ∈ es, 0 ≤ e.og) (hl : ∀ e ∈ es, (e.ts.length : Int) = n) : risE n (-1) es = esOk n none es := by
  cases es with
  | nil => rfl
  | cons e es =>
    have h1 := hl e (List.mem_cons_self ..)
    have h2 := h0 e (List.mem_cons_self ..)
    unfold risE esOk
    by_cases hb : n ≤ e.og
    · simp [hb, show ¬ e.og < n by omega]
    rw [risE_some n e.og es h2 fun x hx => hl x (List.mem_cons_of_mem _ hx)]
    simp [hb, h1, h2, show e.og < n by omega, show ¬ e.og ≤ -1 by omega]

set_option maxHeartbeats 4000000 in
set_option maxRecDepth 100000 in
theorem mayend_any (n : Int) (es : List En) (A : Option Addr) (m c : Nat) (w : World) (h : EsIn w A m es) (hm : m ≤ 1000000) :
    Calls Try.prog 50 #[.slice A m c, .int .i64 n] w fun e w' => e = .returned (.bool (risE n (-1) es)) ∧ Below w.heap.size w w' := by
  have HI := Lib.hid h
  have HLn := Lib.hid h.len
  have HIX := Lib.hid Try.ix_en
  obtain ⟨bb, hbb⟩ : ∃ bb, risE n (-1) es = bb := ⟨_, rfl⟩
  rw [hbb]
  have HBB := Lib.hid hbb
  clear h hbb
  go_enter Try.func50, Try.ntmps50
  go_wp2
  go_loopw [5, 10] (fun lv iv wr => ∃ (i : Nat) (last : Int), i ≤ m ∧ iv = .int .i64 i ∧ lv = .int .i64 last ∧ risE n last (es.drop i) = bb ∧ Below w.heap.size w wr) (fun _ iv _ => m - (intOf iv).toNat)
  case atStart => exact ⟨0, -1, Nat.zero_le _, rfl, rfl, HBB.out, Below.refl _ _⟩
  case round =>
    obtain ⟨i, last, hi, rfl, rfl, hp, hx⟩ := hrel
    have HX := Lib.hid hx
    clear hx
    by_cases hlt : i < m
    · obtain ⟨g, o, e, B, k, d, rfl, _, _, hd, hrx, _⟩ := (HI.out.through HX.out).at hlt
      rw [hd] at hp
      have HRx := Lib.hid hrx
      have hix := HIX.out wr g o m c i hlt
      have HXe : Hid (Below w.heap.size w (wr.alloc (.cells #[.int .i64 e.og, .slice B k d] 41))) := Lib.hid (HX.out.alloc HX.out.size _)
      clear hrx hd
      unfold risE at hp
      by_cases h1 : e.og ≤ last
      case pos =>
        have d1 : decide (e.og ≤ last) = true := by simpa using h1
        have HF : Hid (bb = false) := Lib.hid (by rw [← hp]; simp [h1])
        clear hp h1
        go_wp2_with (first
          | (refine wpList_load_mid rfl 41 (.tmp 12) rfl g (o + i * 2) rfl [.int .i64 e.og, .slice B k d] _ HRx.out Try.underlying41 rfl (by kernel_rfl) ?_))
        go_ret
        exact ⟨ret_b HF.out.symm, HXe.out⟩
      have d1 : decide (e.og ≤ last) = false := by simpa using h1
      by_cases h2 : n ≤ e.og
      case pos =>
        have d2 : decide (n ≤ e.og) = true := by simpa using h2
        have HF : Hid (bb = false) := Lib.hid (by rw [← hp]; simp [h2])
        clear hp h1 h2
        go_wp2_with (first
          | (refine wpList_load_mid rfl 41 (.tmp 12) rfl g (o + i * 2) rfl [.int .i64 e.og, .slice B k d] _ HRx.out Try.underlying41 rfl (by kernel_rfl) ?_))
        go_ret
        exact ⟨ret_b HF.out.symm, HXe.out⟩
      have d2 : decide (n ≤ e.og) = false := by simpa using h2
      have HP : Hid (risE n e.og (es.drop (i + 1)) = bb) := Lib.hid (by rw [← hp]; simp [h1, h2])
      clear hp h1 h2
      go_wp2_with (first
        | (refine wpList_load_mid rfl 41 (.tmp 12) rfl g (o + i * 2) rfl [.int .i64 e.og, .slice B k d] _ HRx.out Try.underlying41 rfl (by kernel_rfl) ?_))
      go_roundw
      case rel => exact ⟨i + 1, e.og, by omega, by go_num, rfl, HP.out, HXe.out⟩
      case measure => simp [intOf]; omega
    · have e : es.drop i = [] := List.drop_of_length_le (by have := HLn.out; omega)
      rw [e] at hp
      have HF : Hid (bb = true) := Lib.hid hp.symm
      clear hp e
      go_wp2
      go_ret
      exact ⟨ret_b HF.out.symm, HX.out⟩

/-- behind a call that turned block g an own block is turned -/
theorem only_own_ {a b c : World} {g : Nat} {row : Option Nat} (hab : a.grownBy b (some g)) (hbc : b.grownBy c row) (hh : ∀ h, row = some h → a.heap.size ≤ h) : a.grownBy c (some g) :=
  ⟨hbc.os.trans hab.os, hbc.tape.trans hab.tape, hbc.output.trans hab.output, Nat.le_trans hab.size hbc.size, fun i hi hne => (hbc.block i (Nat.lt_of_lt_of_le hi hab.size) (fun e => by have := hh i e.symm; omega)).trans (hab.block i hi hne)⟩
theorem cval_le_ (most : Nat) (st : Option (List UInt8)) : cval most st ≤ most := by unfold cval; split <;> omega
theorem Try.build_en (i : Int) (A : Option Addr) (n c : Nat) (w : World) : (Instr.build 41 #[(0, .int .i64 i), (1, .slice A n c)]).run Try.prog w = .ok (.agg #[.int .i64 i, .slice A n c]) w := by kernel_rfl

set_option maxHeartbeats 8000000 in
set_option maxRecDepth 100000 in
theorem readends_any {Q : Nat → Prop} (g : Nat) (st : Option (List UInt8)) (n : Nat) (w : World) (h : Rs Q w g tR st) (hQ : ∀ b, Q b → b < w.heap.size) (hn : n ≤ 7) :
    Calls Try.prog 49 #[.pointer (some ⟨g, 0, none⟩), .int .i64 (n : Int)] w fun e w' => ∃ v, e = .returned v ∧ OEs w' w.heap.size v (rdAll (rdEn n) (cval n st) (cnext n st)).1 ∧ Rs Q w' g tR (rdAll (rdEn n) (cval n st) (cnext n st)).2 ∧ w.grownBy w' (some g) := by
  have HCo := Lib.hid (count_rs h n)
  have HLT := Lib.hid h.lt
  have HQ := Lib.hid hQ
  have hle := cval_le_ n st
  have HN1 : Hid (∀ (W : World) {s : Option (List UInt8)}, Rs Q W g tR s → Calls Try.prog 43 #[.pointer (some ⟨g, 0, none⟩), .int .i64 1] W fun e w' => e = .returned (.int .u64 (nval 1 s)) ∧ Rs Q w' g tR (nnext 1 s) ∧ W.grownBy w' (some g)) := Lib.hid (fun W s hR => number_rs hR 1 rfl)
  have HRt : Hid (∀ (W : World) {s : Option (List UInt8)}, Rs Q W g tR s → w.heap.size ≤ W.heap.size → Calls Try.prog 77 #[.pointer (some ⟨g, 0, none⟩), .int .i64 (n : Int)] W fun e w' => ∃ p : Pl, e = .returned (.slice p.1 p.2.1 p.2.2) ∧ OTs w' W.heap.size p (rdAll rdTg n s).1 ∧ Rs Q w' g tR (rdAll rdTg n s).2 ∧ W.grownBy w' (some g)) := Lib.hid (fun W s hR hW => readtags_any g s n W hR (fun b hb => Nat.lt_of_lt_of_le (hQ b hb) hW) hn)
  have hben := Try.build_en
  generalize cval n st = k at *
  generalize cnext n st = s0 at *
  obtain ⟨L, hL⟩ : ∃ L, rdAll (rdEn n) k s0 = L := ⟨_, rfl⟩
  rw [hL]
  have HL := Lib.hid hL
  clear h hQ hL
  go_enter Try.func49, Try.ntmps49
  go_wp2_with (first
    | (go_at_call 76; (with_reducible refine HCo.out.mono ?_); rintro e w1 ⟨rfl, hr1, hg1⟩; have HR1 := Lib.hid hr1; have HG1 := Lib.hid hg1; clear hr1 hg1))
  go_loopw [5, 9] (fun lv iv wr => ∃ (i : Nat) (pre : List En) (s : Option (List UInt8)), i ≤ k ∧ pre.length = i ∧ iv = .int .i64 i ∧ (pre ++ (rdAll (rdEn n) (k - i) s).1, (rdAll (rdEn n) (k - i) s).2) = L ∧ OEs wr w.heap.size lv pre ∧ Rs Q wr g tR s ∧ w.grownBy wr (some g)) (fun _ iv _ => k - (intOf iv).toNat)
  case atStart => exact ⟨0, [], s0, Nat.zero_le _, rfl, rfl, by simpa using HL.out, OEs.nil _ _, HR1.out, HG1.out⟩
  case round =>
    obtain ⟨i, pre, s, hi, hpi, rfl, hL2, ho, hr, hg⟩ := hrel
    have HPi := Lib.hid hpi
    have HL2 := Lib.hid hL2
    have HRi := Lib.hid hr
    have HGi := Lib.hid hg
    by_cases hlt : i < k
    · obtain ⟨ss, ho1, ho2⟩ := ho
      have HOi := Lib.hid ho1
      have HAi := Lib.hid ho2
      have HLe : Hid ((enR pre ss).length = i) := Lib.hid (by rw [enR_len ho2.len]; exact hpi)
      have HLs := Lib.hid ho2.len
      have hcv := fun (W : World) => conv_small 65 3 Try.underlying65 Try.underlying3 (nval 1 s) (by have := nval_lt 1 s; simp only [e1] at this; omega) W
      clear hpi hL2 ho1 ho2 hr hg
      go_wp2_with (first
        | (go_at_call 43; (with_reducible refine (HN1.out _ HRi.out).mono ?_); rintro e w2 ⟨rfl, hr2, hg2⟩; have HR2 := Lib.hid hr2; have HG2 := Lib.hid (only_trans HGi.out hg2); have HO2 := Lib.hid (HOi.out.far hg2 HLT.out); have HA2 := Lib.hid (HAi.out.mono fun _ _ h => h.far hg2 HLT.out); clear hr2 hg2)
        | (go_at_call 77; (with_reducible refine (HRt.out _ HR2.out HG2.out.size).mono ?_); rintro e w3 ⟨⟨S1, S2, S3⟩, rfl, ht3, hr3, hg3⟩; have HR3 := Lib.hid hr3; have HT3 := Lib.hid (ht3.weak HG2.out.size); have HG3 := Lib.hid (only_trans HG2.out hg3); have HO3 := Lib.hid (HO2.out.far hg3 HLT.out); have HA3 := Lib.hid (HA2.out.mono fun _ _ h => h.far hg3 HLT.out); clear hr3 ht3 hg3)
        | (refine wpList_build_el rfl Try.el_en (.tmp 18) rfl [.int .i64 ((nval 1 s : Nat) : Int), .slice S1 S2 S3] rfl rfl ?_)
        | (at_builtin; refine wpList_append_el rfl Try.el_en (.tmp 11) (.tmp 19) rfl w.heap.size _ (enR pre ss) rfl (HO3.out.alloc (.cells #[.int .i64 ((nval 1 s : Nat) : Int), .slice S1 S2 S3] 41)) _ [.int .i64 ((nval 1 s : Nat) : Int), .slice S1 S2 S3] rfl (Blk.fresh rfl rfl) rfl (fun u hu => by simp at hu; rcases hu with rfl | rfl <;> rfl) (by rw [HLe.out]; omega) (by have := HG3.out.size; (try simp); omega) ?_; intro v4 w4 ho4 hg4; have HO4 := Lib.hid ho4; have HA4 := Lib.hid ((HA3.out.mono fun _ _ h => h.alloc (.cells #[.int .i64 ((nval 1 s : Nat) : Int), .slice S1 S2 S3] 41)).mono fun _ _ h => h.beside (HO3.out.alloc (.cells #[.int .i64 ((nval 1 s : Nat) : Int), .slice S1 S2 S3] 41)) hg4 (by decide)); have HT4 := Lib.hid ((HT3.out.mono fun _ h => h.alloc (.cells #[.int .i64 ((nval 1 s : Nat) : Int), .slice S1 S2 S3] 41)).mono fun _ h => h.beside (HO3.out.alloc (.cells #[.int .i64 ((nval 1 s : Nat) : Int), .slice S1 S2 S3] 41)) hg4 (by decide)); have HG4 : Hid (w.grownBy w4 (some g)) := Lib.hid (only_own_ (only_trans HG3.out (only_below (below1_ w3 (.cells #[.int .i64 ((nval 1 s : Nat) : Int), .slice S1 S2 S3] 41)))) hg4 (fun b hb => (HO3.out.lt b hb).1)); have HR4 := Lib.hid ((HR3.out.alloc (.cells #[.int .i64 ((nval 1 s : Nat) : Int), .slice S1 S2 S3] 41)).other hg4 (fun b hb => ⟨by have := (HO3.out.lt b hb).1; have := HLT.out; omega, fun h9 => by have := (HO3.out.lt b hb).1; have := HQ.out b h9; omega⟩)); clear ho4 hg4))
      go_roundw
      case rel => exact ⟨i + 1, pre ++ [(rdEn n s).1], (rdEn n s).2, by omega, by simp [HPi.out], by go_num, (by rw [← HL2.out, rdAll_step' (rdEn n) (j := k - (i + 1)) (by omega) s pre]), ⟨ss ++ [(S1, S2, S3)], (by rw [enR_snoc HLs.out]; exact HO4.out), HA4.out.snoc HT4.out⟩, HR4.out, HG4.out⟩
      case measure => simp [intOf]; omega
    · have hik : i = k := by omega
      subst hik
      have HO := Lib.hid ho
      clear ho hpi hL2 hr hg
      have hz : i - i = 0 := Nat.sub_self i
      have HLe : Hid ((pre, s) = L) := Lib.hid (by have h9 := HL2.out; rw [hz] at h9; simpa [rdAll] using h9)
      go_wp2
      go_ret
      exact ⟨_, rfl, by rw [← HLe.out]; exact HO.out, by rw [← HLe.out]; exact HRi.out, HGi.out⟩

end Go.Proofs.Ytfonkdcpghbaoaa
