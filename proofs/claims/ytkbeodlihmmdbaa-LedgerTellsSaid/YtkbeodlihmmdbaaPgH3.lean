/-
  The program's Parse.
-/
import Derived.Test.YtkbeodlihmmdbaaPgH2
import Derived.Test.YtkbeodlihmmdbaaPgE2
import Derived.Test.YtkbeodlihmmdbaaPgD1
namespace Go.Proofs.Ytkbeodlihmmdbaa
open Go.RowKit

/-- the program's way to read a ledger: what stands there, and what is left behind it -/
def rdG (xs : List UInt8) : Lg × Option (List UInt8) :=
  let s2 := nnext 8 (nnext 8 (some xs))
  let L := rdAll rdLt (cval 16 s2) (cnext 16 s2)
  let O := rdAll rdOc (cval 4 L.2) (cnext 4 L.2)
  (⟨sx 8 (nval 8 (some xs)), sx 8 (nval 8 (nnext 8 (some xs))), L.1, O.1⟩, O.2)
theorem rdG_back (xs : List UInt8) (h : (rdG xs).2 = some []) : xs = (rdG xs).1.bytes := by
  unfold rdG at h ⊢
  simp only at h ⊢
  generalize hs2 : nnext 8 (nnext 8 (some xs)) = s2 at *
  generalize hL : rdAll rdLt (cval 16 s2) (cnext 16 s2) = L at *
  obtain ⟨h1, k1⟩ := rdAll_back rdOc_back _ _ _ h
  obtain ⟨h2, _⟩ := c_back h1
  have h2' : (rdAll rdLt (cval 16 s2) (cnext 16 s2)).2 = some _ := (by rw [hL]; exact h2)
  obtain ⟨h3, k3⟩ := rdAll_back rdLt_back _ _ _ h2'
  obtain ⟨h4, _⟩ := c_back h3
  rw [hL] at h4 k3
  rw [← hs2] at h4
  have h5 := n_back h4
  have h6 := n_back h5
  have v1 := nval_lt 8 (some xs)
  have v2 := nval_lt 8 (nnext 8 (some xs))
  rw [e8] at v1 v2
  unfold Lg.bytes
  simp only
  rw [u64N_sx v1, u64N_sx v2, k1, k3]
  have h7 := Option.some.inj h6
  rw [hs2] at h7
  simpa using h7
theorem rdG_front (l : Lg) (h : l.right = true) : rdG l.bytes = (l, some []) := by
  obtain ⟨sq, tt, ls, os⟩ := l
  obtain ⟨h1, h2, h3, h4, h5, h6, h7, h8⟩ := Lg.right_iff.1 h
  simp only at h1 h2 h3 h4 h5 h6 h7 h8
  unfold rdG Lg.bytes
  simp only
  obtain ⟨a1, a2⟩ := n_front (u64N_lt sq) (beB (u64N tt) 8 ++ (beB ls.length 2 ++ (encAll encLt ls ++ (beB os.length 2 ++ encAll encOc os))))
  obtain ⟨b1, b2⟩ := n_front (u64N_lt tt) (beB ls.length 2 ++ (encAll encLt ls ++ (beB os.length 2 ++ encAll encOc os)))
  obtain ⟨c1, c2⟩ := c_front h6 (by decide) (encAll encLt ls ++ (beB os.length 2 ++ encAll encOc os))
  have d := rdAll_front (rd := rdLt) (f := encLt) (ok := fun x => ltOk x = true) (fun a ys ha => rdLt_front a ys ha) ls (beB os.length 2 ++ encAll encOc os) (lsOk_mem _ _ h7)
  obtain ⟨f1, f2⟩ := c_front h5 (by decide) (encAll encOc os)
  have g := rdAll_front (rd := rdOc) (f := encOc) (ok := fun x => ocOk x = true) (fun a ys ha => rdOc_front a ys ha) os [] (osOk_mem _ _ h8)
  rw [List.append_nil] at g
  rw [a1, a2, b1, b2, c1, c2, d]
  simp only
  rw [f1, f2, g, sx_u64N (by omega) (by omega), sx_u64N (by omega) (by omega)]
theorem rdAll_len {α : Type} {rd : Option (List UInt8) → α × Option (List UInt8)} : ∀ (n : Nat) (st : Option (List UInt8)), (rdAll rd n st).1.length ≤ n
  | 0, _ => Nat.le_refl _
  | n + 1, st => by
    have := rdAll_len (rd := rd) n (rd st).2
    simp [rdAll]
    omega
theorem parseG_yes {xs : List UInt8} {l : Lg} (h : rdG xs = (l, some [])) (hr : l.right = true) : parseB xs = (l, true) := by
  have e : xs = l.bytes := by have := rdG_back xs (by rw [h]); rw [h] at this; exact this
  unfold parseB
  rw [parseLg_iff.2 ⟨hr, e⟩]
theorem parseG_no {xs : List UInt8} {l : Lg} {st : Option (List UInt8)} (h : rdG xs = (l, st)) (hn : st ≠ some [] ∨ l.right = false) : parseB xs = (Lg.no, false) := by
  unfold parseB
  cases hp : parseLg xs with
  | none => rfl
  | some k =>
    obtain ⟨hr, e⟩ := parseLg_iff.1 hp
    rw [e, rdG_front k hr] at h
    injection h with h1 h2
    subst h1
    rcases hn with hn | hn
    · exact absurd h2.symm hn
    · rw [hr] at hn; cases hn
theorem rdLt_small (st : Option (List UInt8)) : (rdLt st).1.nm.length ≤ 16 := rval_le 16 st


theorem Try.build_lg4 (i j : Int) (A : Option Addr) (n c : Nat) (B : Option Addr) (m d : Nat) (w : World) : (Instr.build 25 #[(0, .int .i64 i), (1, .int .i64 j), (2, .slice A n c), (3, .slice B m d)]).run Try.prog w = .ok (.agg #[.int .i64 i, .int .i64 j, .slice A n c, .slice B m d]) w := by kernel_rfl

set_option maxHeartbeats 16000000 in
set_option maxRecDepth 100000 in
theorem parse_any (xs : List UInt8) (A : Option Addr) (n c : Nat) (w : World) (h : By w (fun _ => True) A n xs) (hn : n ≤ 1000000) :
    Calls Try.prog 24 #[.slice A n c] w (LgOutCE w (parseB xs).1 (if (parseB xs).2 then 0 else 2)) := by
  have hz := Try.zero_lg
  have hbn := Try.build_lg
  have hb4 := Try.build_lg4
  have HRe : Hid (∀ W, By W (fun _ => True) A n xs → Calls Try.prog 52 #[.slice A n c] W fun e w' => ∃ g, e = .returned (.pointer (some ⟨g, 0, none⟩)) ∧ Rs (fun b => W.heap.size ≤ b) w' g tR (some xs) ∧ Below W.heap.size W w' ∧ W.heap.size ≤ g) := Lib.hid (fun W hY => read_rs hY (by omega))
  have HN8 : Hid (∀ (N : Nat) (W : World) (g : Nat) (s : Option (List UInt8)), Rs (fun b => b < N) W g tR s → Calls Try.prog 53 #[.pointer (some ⟨g, 0, none⟩), .int .i64 8] W fun e w' => e = .returned (.int .u64 (nval 8 s)) ∧ Rs (fun b => b < N) w' g tR (nnext 8 s) ∧ W.grownBy w' (some g)) := Lib.hid (fun N W g s hR => number_rs hR 8 rfl)
  have HLs : Hid (∀ (N : Nat) (W : World) (g : Nat) (s : Option (List UInt8)), Rs (fun b => b < N) W g tR s → N ≤ W.heap.size → Calls Try.prog 54 #[.pointer (some ⟨g, 0, none⟩), .int .i64 16, .func (.func 55) #[] #[]] W fun e w' => ∃ v, e = .returned v ∧ Os w' W.heap.size 27 6 v ((rdAll rdLt (cval 16 s) (cnext 16 s)).1.map Lt.cells) ∧ Rs (fun b => b < N) w' g tR (rdAll rdLt (cval 16 s) (cnext 16 s)).2 ∧ W.grownBy w' (some g)) := Lib.hid (fun N W g s hR hW => readL_any g s W hR (fun b hb => Nat.lt_of_lt_of_le hb hW))
  have HOs : Hid (∀ (N : Nat) (W : World) (g : Nat) (s : Option (List UInt8)), Rs (fun b => b < N) W g tR s → N ≤ W.heap.size → Calls Try.prog 56 #[.pointer (some ⟨g, 0, none⟩), .int .i64 4, .func (.func 57) #[] #[]] W fun e w' => ∃ v, e = .returned v ∧ Os w' W.heap.size 30 3 v ((rdAll rdOc (cval 4 s) (cnext 4 s)).1.map Oc.cells) ∧ Rs (fun b => b < N) w' g tR (rdAll rdOc (cval 4 s) (cnext 4 s)).2 ∧ W.grownBy w' (some g)) := Lib.hid (fun N W g s hR hW => readO_any g s W hR (fun b hb => Nat.lt_of_lt_of_le hb hW))
  have HY0 := Lib.hid (h.alloc (.cells #[.int .i64 0, .int .i64 0, .slice none 0 0, .slice none 0 0] 25))
  have HZ0 : Hid (Blk (w.alloc (.cells #[.int .i64 0, .int .i64 0, .slice none 0 0, .slice none 0 0] 25)) w.heap.size 25 [.int .i64 0, .int .i64 0, .slice none 0 0, .slice none 0 0]) := Lib.hid (Blk.fresh rfl rfl)
  have hc0 := fun (W : World) => conv_i64 61 2 Try.underlying61 Try.underlying2 (nval 8 (some xs)) (by have := nval_lt 8 (some xs); rw [e8] at this; exact this) W
  have hc1 := fun (W : World) => conv_i64 61 2 Try.underlying61 Try.underlying2 (nval 8 (nnext 8 (some xs))) (by have := nval_lt 8 (nnext 8 (some xs)); rw [e8] at this; exact this) W
  obtain ⟨sq, hsq⟩ : ∃ sq, sx 8 (nval 8 (some xs)) = sq := ⟨_, rfl⟩
  obtain ⟨tt, htt⟩ : ∃ tt, sx 8 (nval 8 (nnext 8 (some xs))) = tt := ⟨_, rfl⟩
  rw [hsq] at hc0
  rw [htt] at hc1
  obtain ⟨s2, hs2⟩ : ∃ s2, nnext 8 (nnext 8 (some xs)) = s2 := ⟨_, rfl⟩
  obtain ⟨L, hL⟩ : ∃ L, rdAll rdLt (cval 16 s2) (cnext 16 s2) = L := ⟨_, rfl⟩
  obtain ⟨O, hO⟩ : ∃ O, rdAll rdOc (cval 4 L.2) (cnext 4 L.2) = O := ⟨_, rfl⟩
  have hG : rdG xs = (⟨sq, tt, L.1, O.1⟩, O.2) := by
    unfold rdG
    simp only [hsq, htt, hs2, hL, hO]
  have hnm : ∀ x ∈ L.1, x.nm.length ≤ 140737488355328 := fun x hx => by
    rw [← hL] at hx
    exact Nat.le_trans (rdAll_mem (p := fun y : Lt => y.nm.length ≤ 16) rdLt_small _ _ x hx) (by omega)
  have hlL : L.1.length ≤ 1000000 := by
    rw [← hL]
    exact Nat.le_trans (rdAll_len _ _) (Nat.le_trans (cval_le _ _) (by omega))
  have hlO : O.1.length ≤ 1000000 := by
    rw [← hO]
    exact Nat.le_trans (rdAll_len _ _) (Nat.le_trans (cval_le _ _) (by omega))
  have HS2 := Lib.hid hs2
  have HL := Lib.hid hL
  have HO := Lib.hid hO
  have hck : ∀ (W : World) (A5 : Option Addr) (n5 c5 : Nat) (B6 : Option Addr) (m6 d6 : Nat), LgIn W A5 n5 B6 m6 ⟨sq, tt, L.1, O.1⟩ → Calls Try.prog 21 #[.agg #[.int .i64 sq, .int .i64 tt, .slice A5 n5 c5, .slice B6 m6 d6]] W fun e w' => e = .returned (.int .i64 (chkE ⟨sq, tt, L.1, O.1⟩)) ∧ Below W.heap.size W w' := fun W A5 n5 c5 B6 m6 d6 hI => check_any ⟨sq, tt, L.1, O.1⟩ A5 n5 c5 B6 m6 d6 W hI (by have := hI.len.1; simp only at this; omega) (by have := hI.len.2; simp only at this; omega) hnm
  unfold chkE at hck
  by_cases hst : O.2 = some []
  · cases hr : Lg.right ⟨sq, tt, L.1, O.1⟩ with
    | true =>
      rw [parseG_yes (by rw [hG, hst]) hr]
      rw [hr] at hck
      have hck2 : ∀ (W : World) (A5 : Option Addr) (n5 c5 : Nat) (B6 : Option Addr) (m6 d6 : Nat), LgIn W A5 n5 B6 m6 ⟨sq, tt, L.1, O.1⟩ → Calls Try.prog 21 #[.agg #[.int .i64 sq, .int .i64 tt, .slice A5 n5 c5, .slice B6 m6 d6]] W fun e w' => e = .returned (.int .i64 0) ∧ Below W.heap.size W w' := hck
      have HCk := Lib.hid hck2
      have HST := Lib.hid hst
      clear h hck hck2 hst hr hG hnm hlL hlO hL hO hs2 hsq htt
      go_enter Try.func24, Try.ntmps24
      go_wp2_with (first
        | (go_at_call 52; (with_reducible refine (HRe.out _ HY0.out).mono ?_); rintro e w1 ⟨g, rfl, hr1, hb1, hg1⟩; have HX1 : Hid (Below w.heap.size w w1) := Lib.hid (below_step (below1 w (.cells #[.int .i64 0, .int .i64 0, .slice none 0 0, .slice none 0 0] 25)) hb1); have HR1 := Lib.hid hr1.lt_; have HGg : Hid (w.heap.size + 1 ≤ g) := Lib.hid (by simpa using hg1); have HZ1 := Lib.hid (HZ0.out.through hb1); have HZS := Lib.hid HZ1.out.lt; clear hr1 hb1 hg1)
        | (go_at_call 53; (with_reducible refine (HN8.out _ _ _ _ HR1.out).mono ?_); rintro e w2 ⟨rfl, hr, hg⟩; have HR2 := Lib.hid hr; have HG2 := Lib.hid hg; have HX2 : Hid (Below w.heap.size w w2) := Lib.hid (HX1.out.grown HG2.out HX1.out.size (fun k hk => by have := Option.some.inj hk; have := HGg.out; omega)); have HZ2 := Lib.hid (HZ1.out.grown HG2.out (fun e => by have := Option.some.inj e; have := HGg.out; omega)); clear hr hg)
        | (go_at_call 53; (with_reducible refine (HN8.out _ _ _ _ HR2.out).mono ?_); rintro e w3 ⟨rfl, hr, hg⟩; have HR3 := Lib.hid hr; have HG3 := Lib.hid hg; have HX3 : Hid (Below w.heap.size w w3) := Lib.hid (HX2.out.grown HG3.out HX2.out.size (fun k hk => by have := Option.some.inj hk; have := HGg.out; omega)); have HZ3 := Lib.hid (HZ2.out.grown HG3.out (fun e => by have := Option.some.inj e; have := HGg.out; omega)); clear hr hg)
        | (go_at_call 54; (with_reducible refine (HLs.out _ _ _ _ HR3.out (Nat.le_trans HG2.out.size HG3.out.size)).mono ?_); rintro e w5 ⟨v5, rfl, ho5, hr5, hg5⟩; rw [HS2.out, HL.out] at ho5 hr5; obtain ⟨A5, n5, c5, rfl, hn5⟩ := ho5.out'; have HR5 := Lib.hid hr5; have HG5 := Lib.hid hg5; have HO5 := Lib.hid ho5; have HN5 := Lib.hid hn5; have HX5 : Hid (Below w.heap.size w w5) := Lib.hid (HX3.out.grown HG5.out HX3.out.size (fun k hk => by have := Option.some.inj hk; have := HGg.out; omega)); have HZ5 := Lib.hid (HZ3.out.grown HG5.out (fun e => by have := Option.some.inj e; have := HGg.out; omega)); clear hr5 hg5 ho5 hn5)
        | (go_at_call 56; (with_reducible refine (HOs.out _ _ _ _ HR5.out (Nat.le_trans HG2.out.size (Nat.le_trans HG3.out.size HG5.out.size))).mono ?_); rintro e w6 ⟨v6, rfl, ho6, hr6, hg6⟩; rw [HO.out] at ho6 hr6; obtain ⟨B6, m6, d6, rfl, hm6⟩ := ho6.out'; have HR6 := Lib.hid hr6; have HG6 := Lib.hid hg6; have HO6 := Lib.hid ho6; have HM6 := Lib.hid hm6; have HO56 := Lib.hid (HO5.out.far hg6 HR3.out.lt); have HX6 : Hid (Below w.heap.size w w6) := Lib.hid (HX5.out.grown HG6.out HX5.out.size (fun k hk => by have := Option.some.inj hk; have := HGg.out; omega)); have HZ6 := Lib.hid (HZ5.out.grown HG6.out (fun e => by have := Option.some.inj e; have := HGg.out; omega)); clear hr6 hg6 ho6 hm6)
        | (go_at_call 58; (with_reducible refine (end_rs (HR6.out.alloc (.cells #[.int .i64 sq, .int .i64 tt, .slice A5 n5 c5, .slice B6 m6 d6] 25))).mono ?_); rintro e w7 ⟨x, rfl, hx, rfl⟩; have hx0 : x = 0 := hx.2 HST.out; subst hx0; clear hx)
        | (refine wpList_load_blk_g 25 (.tmp 5) rfl (by kernel_rfl) w6.heap.size rfl 25 [.int .i64 sq, .int .i64 tt, .slice A5 n5 c5, .slice B6 m6 d6] _ (Blk.fresh rfl rfl) Try.underlying25 rfl (by kernel_rfl) ?_)
        | (go_at_call 21; have HIn : Hid (LgIn (w6.alloc (.cells #[.int .i64 sq, .int .i64 tt, .slice A5 n5 c5, .slice B6 m6 d6] 25)) A5 n5 B6 m6 ⟨sq, tt, L.1, O.1⟩) := Lib.hid ⟨(HO56.out.alloc (.cells #[.int .i64 sq, .int .i64 tt, .slice A5 n5 c5, .slice B6 m6 d6] 25)).sl rfl, (HO6.out.alloc (.cells #[.int .i64 sq, .int .i64 tt, .slice A5 n5 c5, .slice B6 m6 d6] 25)).sl rfl⟩; (with_reducible refine (HCk.out _ _ _ _ _ _ _ (HIn.out)).mono ?_); rintro e w8 ⟨rfl, hb8⟩; have HX8 : Hid (Below w.heap.size w w8) := Lib.hid (below_step (HX6.out.alloc HX6.out.size (.cells #[.int .i64 sq, .int .i64 tt, .slice A5 n5 c5, .slice B6 m6 d6] 25)) hb8); have HZ8 := Lib.hid ((HZ6.out.alloc (.cells #[.int .i64 sq, .int .i64 tt, .slice A5 n5 c5, .slice B6 m6 d6] 25)).through hb8); have HL8 := Lib.hid ((Blk.fresh rfl rfl : Blk (w6.alloc (.cells #[.int .i64 sq, .int .i64 tt, .slice A5 n5 c5, .slice B6 m6 d6] 25)) w6.heap.size 25 [.int .i64 sq, .int .i64 tt, .slice A5 n5 c5, .slice B6 m6 d6]).through hb8); have HO58 := Lib.hid ((HO56.out.alloc (.cells #[.int .i64 sq, .int .i64 tt, .slice A5 n5 c5, .slice B6 m6 d6] 25)).through hb8); have HO68 := Lib.hid ((HO6.out.alloc (.cells #[.int .i64 sq, .int .i64 tt, .slice A5 n5 c5, .slice B6 m6 d6] 25)).through hb8); clear hb8)
        | (refine wpList_load_blk rfl 25 (.tmp 5) rfl w6.heap.size rfl 25 [.int .i64 sq, .int .i64 tt, .slice A5 n5 c5, .slice B6 m6 d6] _ HL8.out Try.underlying25 rfl (by kernel_rfl) ?_)
        | (refine wpList_store_blk rfl 25 (.tmp 2) (.tmp 28) rfl (w.heap.size) [.int .i64 sq, .int .i64 tt, .slice A5 n5 c5, .slice B6 m6 d6] rfl rfl 25 [.int .i64 0, .int .i64 0, .slice none 0 0, .slice none 0 0] HZ8.out (by kernel_rfl) rfl (one4 _ _ _ _ _ _ _ _) ?_; intro w9 hb9 hg9; have HB9 := Lib.hid hb9; have HX9 : Hid (Below w.heap.size w w9) := Lib.hid (HX8.out.grown hg9 HX8.out.size (fun k hk => by have := Option.some.inj hk; omega)); have HG9 := Lib.hid hg9; clear hb9 hg9))
      (try simp only [Exit.inBlock, Exit.then]); refine bodyPost_ret (results_cell_row_tmp1 rfl _ _ (w.heap.size) 25 _ (0, 0) _ rfl HB9.out Try.underlying25 rfl (by kernel_rfl)) rfl ?_
      exact ⟨A5, n5, c5, B6, m6, d6, rfl, ⟨(HO58.out.far HG9.out (Nat.lt_of_lt_of_le (HZS.out) (Nat.le_trans HG2.out.size HG3.out.size))).sl rfl, (HO68.out.far HG9.out (Nat.lt_of_lt_of_le (HZS.out) (Nat.le_trans HG2.out.size (Nat.le_trans HG3.out.size HG5.out.size)))).sl rfl⟩, (by obtain ⟨_, _, e9, h9, _⟩ := HO58.out.out; injection e9 with _ e8 e7; omega), (by obtain ⟨_, _, e9, h9, _⟩ := HO68.out.out; injection e9 with _ e8 e7; omega), HX9.out⟩
    | false =>
      rw [parseG_no hG (.inr hr)]
      rw [hr] at hck
      have hck2 : ∀ (W : World) (A5 : Option Addr) (n5 c5 : Nat) (B6 : Option Addr) (m6 d6 : Nat), LgIn W A5 n5 B6 m6 ⟨sq, tt, L.1, O.1⟩ → Calls Try.prog 21 #[.agg #[.int .i64 sq, .int .i64 tt, .slice A5 n5 c5, .slice B6 m6 d6]] W fun e w' => e = .returned (.int .i64 2) ∧ Below W.heap.size W w' := hck
      have HCk := Lib.hid hck2
      have HST := Lib.hid hst
      clear h hck hck2 hst hr hG hnm hlL hlO hL hO hs2 hsq htt
      go_enter Try.func24, Try.ntmps24
      go_wp2_with (first
        | (go_at_call 52; (with_reducible refine (HRe.out _ HY0.out).mono ?_); rintro e w1 ⟨g, rfl, hr1, hb1, hg1⟩; have HX1 : Hid (Below w.heap.size w w1) := Lib.hid (below_step (below1 w (.cells #[.int .i64 0, .int .i64 0, .slice none 0 0, .slice none 0 0] 25)) hb1); have HR1 := Lib.hid hr1.lt_; have HGg : Hid (w.heap.size + 1 ≤ g) := Lib.hid (by simpa using hg1); have HZ1 := Lib.hid (HZ0.out.through hb1); have HZS := Lib.hid HZ1.out.lt; clear hr1 hb1 hg1)
        | (go_at_call 53; (with_reducible refine (HN8.out _ _ _ _ HR1.out).mono ?_); rintro e w2 ⟨rfl, hr, hg⟩; have HR2 := Lib.hid hr; have HG2 := Lib.hid hg; have HX2 : Hid (Below w.heap.size w w2) := Lib.hid (HX1.out.grown HG2.out HX1.out.size (fun k hk => by have := Option.some.inj hk; have := HGg.out; omega)); have HZ2 := Lib.hid (HZ1.out.grown HG2.out (fun e => by have := Option.some.inj e; have := HGg.out; omega)); clear hr hg)
        | (go_at_call 53; (with_reducible refine (HN8.out _ _ _ _ HR2.out).mono ?_); rintro e w3 ⟨rfl, hr, hg⟩; have HR3 := Lib.hid hr; have HG3 := Lib.hid hg; have HX3 : Hid (Below w.heap.size w w3) := Lib.hid (HX2.out.grown HG3.out HX2.out.size (fun k hk => by have := Option.some.inj hk; have := HGg.out; omega)); have HZ3 := Lib.hid (HZ2.out.grown HG3.out (fun e => by have := Option.some.inj e; have := HGg.out; omega)); clear hr hg)
        | (go_at_call 54; (with_reducible refine (HLs.out _ _ _ _ HR3.out (Nat.le_trans HG2.out.size HG3.out.size)).mono ?_); rintro e w5 ⟨v5, rfl, ho5, hr5, hg5⟩; rw [HS2.out, HL.out] at ho5 hr5; obtain ⟨A5, n5, c5, rfl, hn5⟩ := ho5.out'; have HR5 := Lib.hid hr5; have HG5 := Lib.hid hg5; have HO5 := Lib.hid ho5; have HN5 := Lib.hid hn5; have HX5 : Hid (Below w.heap.size w w5) := Lib.hid (HX3.out.grown HG5.out HX3.out.size (fun k hk => by have := Option.some.inj hk; have := HGg.out; omega)); have HZ5 := Lib.hid (HZ3.out.grown HG5.out (fun e => by have := Option.some.inj e; have := HGg.out; omega)); clear hr5 hg5 ho5 hn5)
        | (go_at_call 56; (with_reducible refine (HOs.out _ _ _ _ HR5.out (Nat.le_trans HG2.out.size (Nat.le_trans HG3.out.size HG5.out.size))).mono ?_); rintro e w6 ⟨v6, rfl, ho6, hr6, hg6⟩; rw [HO.out] at ho6 hr6; obtain ⟨B6, m6, d6, rfl, hm6⟩ := ho6.out'; have HR6 := Lib.hid hr6; have HG6 := Lib.hid hg6; have HO6 := Lib.hid ho6; have HM6 := Lib.hid hm6; have HO56 := Lib.hid (HO5.out.far hg6 HR3.out.lt); have HX6 : Hid (Below w.heap.size w w6) := Lib.hid (HX5.out.grown HG6.out HX5.out.size (fun k hk => by have := Option.some.inj hk; have := HGg.out; omega)); have HZ6 := Lib.hid (HZ5.out.grown HG6.out (fun e => by have := Option.some.inj e; have := HGg.out; omega)); clear hr6 hg6 ho6 hm6)
        | (go_at_call 58; (with_reducible refine (end_rs (HR6.out.alloc (.cells #[.int .i64 sq, .int .i64 tt, .slice A5 n5 c5, .slice B6 m6 d6] 25))).mono ?_); rintro e w7 ⟨x, rfl, hx, rfl⟩; have hx0 : x = 0 := hx.2 HST.out; subst hx0; clear hx)
        | (refine wpList_load_blk_g 25 (.tmp 5) rfl (by kernel_rfl) w6.heap.size rfl 25 [.int .i64 sq, .int .i64 tt, .slice A5 n5 c5, .slice B6 m6 d6] _ (Blk.fresh rfl rfl) Try.underlying25 rfl (by kernel_rfl) ?_)
        | (go_at_call 21; have HIn : Hid (LgIn (w6.alloc (.cells #[.int .i64 sq, .int .i64 tt, .slice A5 n5 c5, .slice B6 m6 d6] 25)) A5 n5 B6 m6 ⟨sq, tt, L.1, O.1⟩) := Lib.hid ⟨(HO56.out.alloc (.cells #[.int .i64 sq, .int .i64 tt, .slice A5 n5 c5, .slice B6 m6 d6] 25)).sl rfl, (HO6.out.alloc (.cells #[.int .i64 sq, .int .i64 tt, .slice A5 n5 c5, .slice B6 m6 d6] 25)).sl rfl⟩; (with_reducible refine (HCk.out _ _ _ _ _ _ _ (HIn.out)).mono ?_); rintro e w8 ⟨rfl, hb8⟩; have HX8 : Hid (Below w.heap.size w w8) := Lib.hid (below_step (HX6.out.alloc HX6.out.size (.cells #[.int .i64 sq, .int .i64 tt, .slice A5 n5 c5, .slice B6 m6 d6] 25)) hb8); have HZ8 := Lib.hid ((HZ6.out.alloc (.cells #[.int .i64 sq, .int .i64 tt, .slice A5 n5 c5, .slice B6 m6 d6] 25)).through hb8); have HL8 := Lib.hid ((Blk.fresh rfl rfl : Blk (w6.alloc (.cells #[.int .i64 sq, .int .i64 tt, .slice A5 n5 c5, .slice B6 m6 d6] 25)) w6.heap.size 25 [.int .i64 sq, .int .i64 tt, .slice A5 n5 c5, .slice B6 m6 d6]).through hb8); have HO58 := Lib.hid ((HO56.out.alloc (.cells #[.int .i64 sq, .int .i64 tt, .slice A5 n5 c5, .slice B6 m6 d6] 25)).through hb8); have HO68 := Lib.hid ((HO6.out.alloc (.cells #[.int .i64 sq, .int .i64 tt, .slice A5 n5 c5, .slice B6 m6 d6] 25)).through hb8); clear hb8)
        | (refine wpList_store_blk rfl 25 (.tmp 2) (.tmp 27) rfl (w.heap.size) [.int .i64 0, .int .i64 0, .slice none 0 0, .slice none 0 0] rfl rfl 25 [.int .i64 0, .int .i64 0, .slice none 0 0, .slice none 0 0] HZ8.out (by kernel_rfl) rfl (one4 _ _ _ _ _ _ _ _) ?_; intro w9 hb9 hg9; have HB9 := Lib.hid hb9; have HX9 : Hid (Below w.heap.size w w9) := Lib.hid (HX8.out.grown hg9 HX8.out.size (fun k hk => by have := Option.some.inj hk; omega)); have HG9 := Lib.hid hg9; clear hb9 hg9))
      (try simp only [Exit.inBlock, Exit.then]); refine bodyPost_ret (results_cell_row_tmp1 rfl _ _ (w.heap.size) 25 _ (0, 0) _ rfl HB9.out Try.underlying25 rfl (by kernel_rfl)) rfl ?_
      exact ⟨none, 0, 0, none, 0, 0, rfl, ⟨Sl.none_, Sl.none_⟩, Nat.le_refl _, Nat.le_refl _, HX9.out⟩
  · rw [parseG_no hG (.inl hst)]
    have HST := Lib.hid hst
    clear h hck hst hG hnm hlL hlO hL hO hs2 hsq htt
    go_enter Try.func24, Try.ntmps24
    go_wp2_with (first
      | (go_at_call 52; (with_reducible refine (HRe.out _ HY0.out).mono ?_); rintro e w1 ⟨g, rfl, hr1, hb1, hg1⟩; have HX1 : Hid (Below w.heap.size w w1) := Lib.hid (below_step (below1 w (.cells #[.int .i64 0, .int .i64 0, .slice none 0 0, .slice none 0 0] 25)) hb1); have HR1 := Lib.hid hr1.lt_; have HGg : Hid (w.heap.size + 1 ≤ g) := Lib.hid (by simpa using hg1); have HZ1 := Lib.hid (HZ0.out.through hb1); have HZS := Lib.hid HZ1.out.lt; clear hr1 hb1 hg1)
      | (go_at_call 53; (with_reducible refine (HN8.out _ _ _ _ HR1.out).mono ?_); rintro e w2 ⟨rfl, hr, hg⟩; have HR2 := Lib.hid hr; have HG2 := Lib.hid hg; have HX2 : Hid (Below w.heap.size w w2) := Lib.hid (HX1.out.grown HG2.out HX1.out.size (fun k hk => by have := Option.some.inj hk; have := HGg.out; omega)); have HZ2 := Lib.hid (HZ1.out.grown HG2.out (fun e => by have := Option.some.inj e; have := HGg.out; omega)); clear hr hg)
      | (go_at_call 53; (with_reducible refine (HN8.out _ _ _ _ HR2.out).mono ?_); rintro e w3 ⟨rfl, hr, hg⟩; have HR3 := Lib.hid hr; have HG3 := Lib.hid hg; have HX3 : Hid (Below w.heap.size w w3) := Lib.hid (HX2.out.grown HG3.out HX2.out.size (fun k hk => by have := Option.some.inj hk; have := HGg.out; omega)); have HZ3 := Lib.hid (HZ2.out.grown HG3.out (fun e => by have := Option.some.inj e; have := HGg.out; omega)); clear hr hg)
      | (go_at_call 54; (with_reducible refine (HLs.out _ _ _ _ HR3.out (Nat.le_trans HG2.out.size HG3.out.size)).mono ?_); rintro e w5 ⟨v5, rfl, ho5, hr5, hg5⟩; rw [HS2.out, HL.out] at ho5 hr5; obtain ⟨A5, n5, c5, rfl, hn5⟩ := ho5.out'; have HR5 := Lib.hid hr5; have HG5 := Lib.hid hg5; have HO5 := Lib.hid ho5; have HN5 := Lib.hid hn5; have HX5 : Hid (Below w.heap.size w w5) := Lib.hid (HX3.out.grown HG5.out HX3.out.size (fun k hk => by have := Option.some.inj hk; have := HGg.out; omega)); have HZ5 := Lib.hid (HZ3.out.grown HG5.out (fun e => by have := Option.some.inj e; have := HGg.out; omega)); clear hr5 hg5 ho5 hn5)
      | (go_at_call 56; (with_reducible refine (HOs.out _ _ _ _ HR5.out (Nat.le_trans HG2.out.size (Nat.le_trans HG3.out.size HG5.out.size))).mono ?_); rintro e w6 ⟨v6, rfl, ho6, hr6, hg6⟩; rw [HO.out] at ho6 hr6; obtain ⟨B6, m6, d6, rfl, hm6⟩ := ho6.out'; have HR6 := Lib.hid hr6; have HG6 := Lib.hid hg6; have HO6 := Lib.hid ho6; have HM6 := Lib.hid hm6; have HO56 := Lib.hid (HO5.out.far hg6 HR3.out.lt); have HX6 : Hid (Below w.heap.size w w6) := Lib.hid (HX5.out.grown HG6.out HX5.out.size (fun k hk => by have := Option.some.inj hk; have := HGg.out; omega)); have HZ6 := Lib.hid (HZ5.out.grown HG6.out (fun e => by have := Option.some.inj e; have := HGg.out; omega)); clear hr6 hg6 ho6 hm6)
      | (go_at_call 58; (with_reducible refine (end_rs (HR6.out.alloc (.cells #[.int .i64 sq, .int .i64 tt, .slice A5 n5 c5, .slice B6 m6 d6] 25))).mono ?_); rintro e w7 ⟨x, rfl, hx, rfl⟩; have hx0 : ¬ x = 0 := (fun h9 => HST.out (hx.1 h9)); have hxb : (x == 0) = false := (by simpa using hx0); have hxd : (x != 0) = true := (by simpa using hx0); clear hx hx0)
      | (refine wpList_store_blk rfl 25 (.tmp 2) (.tmp 27) rfl (w.heap.size) [.int .i64 0, .int .i64 0, .slice none 0 0, .slice none 0 0] rfl rfl 25 [.int .i64 0, .int .i64 0, .slice none 0 0, .slice none 0 0] (HZ6.out.alloc (.cells #[.int .i64 sq, .int .i64 tt, .slice A5 n5 c5, .slice B6 m6 d6] 25)) (by kernel_rfl) rfl (one4 _ _ _ _ _ _ _ _) ?_; intro w9 hb9 hg9; have HB9 := Lib.hid hb9; have HX9 : Hid (Below w.heap.size w w9) := Lib.hid ((HX6.out.alloc HX6.out.size (.cells #[.int .i64 sq, .int .i64 tt, .slice A5 n5 c5, .slice B6 m6 d6] 25)).grown hg9 (HX6.out.alloc HX6.out.size (.cells #[.int .i64 sq, .int .i64 tt, .slice A5 n5 c5, .slice B6 m6 d6] 25)).size (fun k hk => by have := Option.some.inj hk; omega)); have HG9 := Lib.hid hg9; clear hb9 hg9))
    (try simp only [Exit.inBlock, Exit.then]); refine bodyPost_ret (results_cell_row_tmp1 rfl _ _ (w.heap.size) 25 _ (0, 0) _ rfl HB9.out Try.underlying25 rfl (by kernel_rfl)) rfl ?_
    exact ⟨none, 0, 0, none, 0, 0, rfl, ⟨Sl.none_, Sl.none_⟩, Nat.le_refl _, Nat.le_refl _, HX9.out⟩

end Go.Proofs.Ytkbeodlihmmdbaa
