/-
  The document's Ends, walked.
-/
import Derived.Test.YtfonkdcpghbaoaaRqM
import Derived.Test.YtfonkdcpghbaoaaNm
import Derived.BigQuiet
import Derived.IntWalk
namespace Go.Proofs.Ytfonkdcpghbaoaa
open Go.RowKit

set_option maxHeartbeats 8000000 in
set_option maxRecDepth 100000 in
theorem rends_any (n : Int) (es : List En) (A : Option Addr) (m c : Nat) (w : World) (h : EsIn w A m es) (hm : m ≤ 1000000) :
    Calls Try.prog 20 #[.slice A m c, .int .i64 n] w fun e w' => e = .returned (.bool (endsOk n es)) ∧ Below w.heap.size w w' := by
  have HI := Lib.hid h
  have HLn := Lib.hid h.len
  have HIX := Lib.hid Try.ix_en
  obtain ⟨bb, hbb⟩ : ∃ bb, (esOk n none es && decide ((es.length : Int) ≤ n)) = bb := ⟨_, rfl⟩
  have hbb' : endsOk n es = bb := hbb
  rw [hbb']
  have HBB := Lib.hid hbb
  clear h hbb hbb'
  go_enter Try.func20, Try.ntmps20
  go_wp2
  go_loopw [9] (fun iv wr => ∃ (i : Nat) (p : Option Int), i ≤ m ∧ iv = .int .i64 i ∧ esOk n none es = esOk n p (es.drop i) ∧ (i = 0 ∧ p = none ∨ ∃ (j : Nat) (y : En), i = j + 1 ∧ es[j]? = some y ∧ p = some y.og) ∧ Below w.heap.size w wr) (fun iv _ => m - (intOf iv).toNat)
  case atStart => exact ⟨0, none, Nat.zero_le _, rfl, rfl, .inl ⟨rfl, rfl⟩, Below.refl _ _⟩
  case round =>
    obtain ⟨i, p, hi, rfl, hp, hpi, hx⟩ := hrel
    have HX := Lib.hid hx
    by_cases hlt : i < m
    · obtain ⟨g, o, e, B, k, d, rfl, hei, _, hd, hrx, hts⟩ := (HI.out.through HX.out).at hlt
      have HK : Hid (e.ts.length = k) := Lib.hid hts.len
      have HEi := Lib.hid hei
      rw [hd] at hp
      have HRx := Lib.hid hrx
      have hix := HIX.out wr g o m c i hlt
      have HXe : Hid (Below w.heap.size w (wr.alloc (.cells #[.int .i64 e.og, .slice B k d] 41))) := Lib.hid (HX.out.alloc HX.out.size _)
      clear hrx hd hei hts hx
      rcases hpi with ⟨rfl, rfl⟩ | ⟨j, y, rfl, hy, rfl⟩
      · skip
        by_cases h1 : e.og < 0
        case pos =>
          have dh1 : decide (e.og < (0 : Int)) = true := by simpa using h1
          have HF : Hid (esOk n none es = false) := Lib.hid (by rw [hp]; simp [esOk, show ¬ 0 ≤ e.og by omega])
          clear hp
          go_wp2_with (first
            | (refine wpList_load_mid rfl 41 (.tmp 12) rfl g (o + 0 * 2) rfl [.int .i64 e.og, .slice B k d] _ HRx.out Try.underlying41 rfl (by kernel_rfl) ?_))
          go_quiet (fail)
          go_wp2
          go_ret
          exact ⟨ret_b (by rw [← HBB.out, HF.out]; rfl), below_drewN HXe.out _⟩
        have dh1 : decide (e.og < (0 : Int)) = false := by simpa using h1
        by_cases h2 : n ≤ e.og
        case pos =>
          have dh2 : decide (n ≤ e.og) = true := by simpa using h2
          have HF : Hid (esOk n none es = false) := Lib.hid (by rw [hp]; simp [esOk, show ¬ e.og < n by omega])
          clear hp
          go_wp2_with (first
            | (refine wpList_load_mid rfl 41 (.tmp 12) rfl g (o + 0 * 2) rfl [.int .i64 e.og, .slice B k d] _ HRx.out Try.underlying41 rfl (by kernel_rfl) ?_))
          go_quiet (fail)
          go_wp2
          go_ret
          exact ⟨ret_b (by rw [← HBB.out, HF.out]; rfl), below_drewN HXe.out _⟩
        have dh2 : decide (n ≤ e.og) = false := by simpa using h2
        by_cases h4 : (k : Int) = n
        case neg =>
          have d4 : ((k : Int) == n) = false := by simpa using h4
          have d5 : ((k : Int) != n) = true := by simpa using h4
          have HF : Hid (esOk n none es = false) := Lib.hid (by rw [hp]; simp [esOk, HK.out, h4])
          clear hp
          go_wp2_with (first
            | (refine wpList_load_mid rfl 41 (.tmp 12) rfl g (o + 0 * 2) rfl [.int .i64 e.og, .slice B k d] _ HRx.out Try.underlying41 rfl (by kernel_rfl) ?_))
          go_quiet (fail)
          go_wp2
          go_ret
          exact ⟨ret_b (by rw [← HBB.out, HF.out]; rfl), below_drewN HXe.out _⟩
        have d4 : ((k : Int) == n) = true := by simpa using h4
        have d5 : ((k : Int) != n) = false := by simpa using h4
        have HP : Hid (esOk n none es = esOk n (some e.og) (es.drop (0 + 1))) := Lib.hid (by rw [hp]; simp [esOk, HK.out, h4, show 0 ≤ e.og by omega, show e.og < n by omega])
        clear hp h1 h2 h4
        go_wp2_with (first
          | (refine wpList_load_mid rfl 41 (.tmp 12) rfl g (o + 0 * 2) rfl [.int .i64 e.og, .slice B k d] _ HRx.out Try.underlying41 rfl (by kernel_rfl) ?_))
        go_quiet (fail)
        go_wp2
        go_roundw
        case rel => exact ⟨0 + 1, some e.og, by omega, by go_num, HP.out, .inr ⟨0, e, by omega, HEi.out, rfl⟩, below_drewN HXe.out _⟩
        case measure => simp [intOf]; omega
      · have hjm : j < m := by omega
        obtain ⟨g', o', y', B', k', d', hA', hy', _, _, hry, _⟩ := (HI.out.through HX.out).at hjm
        obtain ⟨rfl, rfl⟩ : g = g' ∧ o = o' := by simpa using hA'
        obtain rfl : y = y' := by rw [hy] at hy'; exact Option.some.inj hy'
        have hyc := hry 0 _ rfl
        have hya : (wr.alloc (.cells #[.int .i64 e.og, .slice B k d] 41)).cell? ⟨g, o + j * 2, none⟩ = some (.int .i64 y.og) := ((Below.refl _ wr).alloc (Nat.le_refl _) (.cells #[.int .i64 e.og, .slice B k d] 41)).cell (p := ⟨g, o + j * 2, none⟩) (World.block_lt_of_cell? wr ⟨g, o + j * 2 + 0, none⟩ hyc) |>.trans hyc
        have hixj : ∀ W, (Instr.indexAt 32 (.slice (some ⟨g, o, none⟩) m c) (.int .i64 (j : Int))).run Try.prog W = .ok (.pointer (some ⟨g, o + j * 2, none⟩)) W := fun W => HIX.out W g o m c j hjm
        have hj0 : decide ((0 : Int) < (j : Int) + 1) = true := decide_eq_true (by omega)
        have hwr : IntKind.i64.wrap ((j : Int) + 1 - 1) = (j : Int) := by rw [IntWalk.i64_in _ (by omega)]; omega
        have hwr2 : (j : Int) + 1 - 1 = (j : Int) := by omega
        clear hyc hy hy' hry hA'
        by_cases h1 : e.og < 0
        case pos =>
          have dh1 : decide (e.og < (0 : Int)) = true := by simpa using h1
          have HF : Hid (esOk n none es = false) := Lib.hid (by rw [hp]; simp [esOk, show ¬ 0 ≤ e.og by omega])
          clear hp
          go_wp2_with (first
            | (refine wpList_load_mid rfl 41 (.tmp 12) rfl g (o + (j + 1) * 2) rfl [.int .i64 e.og, .slice B k d] _ HRx.out Try.underlying41 rfl (by kernel_rfl) ?_))
          go_quiet (fail)
          go_wp2
          go_ret
          exact ⟨ret_b (by rw [← HBB.out, HF.out]; rfl), below_drewN HXe.out _⟩
        have dh1 : decide (e.og < (0 : Int)) = false := by simpa using h1
        by_cases h2 : n ≤ e.og
        case pos =>
          have dh2 : decide (n ≤ e.og) = true := by simpa using h2
          have HF : Hid (esOk n none es = false) := Lib.hid (by rw [hp]; simp [esOk, show ¬ e.og < n by omega])
          clear hp
          go_wp2_with (first
            | (refine wpList_load_mid rfl 41 (.tmp 12) rfl g (o + (j + 1) * 2) rfl [.int .i64 e.og, .slice B k d] _ HRx.out Try.underlying41 rfl (by kernel_rfl) ?_))
          go_quiet (fail)
          go_wp2
          go_ret
          exact ⟨ret_b (by rw [← HBB.out, HF.out]; rfl), below_drewN HXe.out _⟩
        have dh2 : decide (n ≤ e.og) = false := by simpa using h2
        by_cases h3 : e.og ≤ y.og
        case pos =>
          have dh3 : decide (e.og ≤ y.og) = true := by simpa using h3
          have HF : Hid (esOk n none es = false) := Lib.hid (by rw [hp]; simp [esOk, show ¬ y.og < e.og by omega])
          clear hp
          go_wp2_with (first
            | (refine wpList_load_mid rfl 41 (.tmp 12) rfl g (o + (j + 1) * 2) rfl [.int .i64 e.og, .slice B k d] _ HRx.out Try.underlying41 rfl (by kernel_rfl) ?_))
          go_quiet (fail)
          go_wp2
          go_ret
          exact ⟨ret_b (by rw [← HBB.out, HF.out]; rfl), below_drewN HXe.out _⟩
        have dh3 : decide (e.og ≤ y.og) = false := by simpa using h3
        by_cases h4 : (k : Int) = n
        case neg =>
          have d4 : ((k : Int) == n) = false := by simpa using h4
          have d5 : ((k : Int) != n) = true := by simpa using h4
          have HF : Hid (esOk n none es = false) := Lib.hid (by rw [hp]; simp [esOk, HK.out, h4])
          clear hp
          go_wp2_with (first
            | (refine wpList_load_mid rfl 41 (.tmp 12) rfl g (o + (j + 1) * 2) rfl [.int .i64 e.og, .slice B k d] _ HRx.out Try.underlying41 rfl (by kernel_rfl) ?_))
          go_quiet (fail)
          go_wp2
          go_ret
          exact ⟨ret_b (by rw [← HBB.out, HF.out]; rfl), below_drewN HXe.out _⟩
        have d4 : ((k : Int) == n) = true := by simpa using h4
        have d5 : ((k : Int) != n) = false := by simpa using h4
        have HP : Hid (esOk n none es = esOk n (some e.og) (es.drop ((j + 1) + 1))) := Lib.hid (by rw [hp]; simp [esOk, HK.out, h4, show 0 ≤ e.og by omega, show e.og < n by omega, show y.og < e.og by omega])
        clear hp h3 h1 h2 h4
        go_wp2_with (first
          | (refine wpList_load_mid rfl 41 (.tmp 12) rfl g (o + (j + 1) * 2) rfl [.int .i64 e.og, .slice B k d] _ HRx.out Try.underlying41 rfl (by kernel_rfl) ?_))
        go_quiet (fail)
        clear hya hixj hj0 hwr hwr2 dh3
        go_wp2
        go_roundw
        case rel => exact ⟨(j + 1) + 1, some e.og, by omega, by go_num, HP.out, .inr ⟨j + 1, e, by omega, HEi.out, rfl⟩, below_drewN HXe.out _⟩
        case measure => simp [intOf]; omega
    · have e : es.drop i = [] := List.drop_of_length_le (by have := HLn.out; omega)
      rw [e] at hp
      have HF : Hid (esOk n none es = true) := Lib.hid hp
      have HL : Hid (decide ((es.length : Int) ≤ n) = decide ((m : Int) ≤ n)) := Lib.hid (by rw [HLn.out])
      clear hp e hpi hx
      go_wp2
      go_ret
      exact ⟨ret_b (by rw [← HBB.out, HF.out, HL.out]; rfl), HX.out⟩

end Go.Proofs.Ytfonkdcpghbaoaa
