/-
  The laws' own calls: fixed (calls whose answers the document fixes), few (is a ledger small enough to be asked about?).
-/
import Derived.Test.YtkbeodlihmmdbaaPgD2
import Derived.Test.YtkbeodlihmmdbaaPgG3
import Derived.Test.YtkbeodlihmmdbaaPgH3
namespace Go.Proofs.Ytkbeodlihmmdbaa
open Go.RowKit

def fixXB : Lt := ⟨[98], 1, 5, 0, [], []⟩
def fixXA : Lt := ⟨[97], 1, 6, 0, [], []⟩
def fixB : Lg := ⟨0, 0, [fixXB], []⟩
def fixAB : Lg := ⟨0, 0, [fixXA, fixXB], []⟩
theorem fix_right : Lg.no.right = true := by kernel_rfl
theorem fix_len : Lg.no.bytes.length = 20 := by kernel_rfl
theorem fix_parse : parseB Lg.no.bytes = (Lg.no, true) := by unfold parseB; rw [parseLg_iff.2 ⟨fix_right, rfl⟩]
theorem fix_with1 : withL Lg.no fixXB = (fixB, 0) := by kernel_rfl
theorem fix_with2 : withL fixB fixXA = (fixAB, 0) := by kernel_rfl
theorem fix_find : findL [98] fixAB.ls = some fixXB := by kernel_rfl
theorem fix_chk : chkE fixAB = 0 := by kernel_rfl
theorem fix_nm1 : isNm [97, 45, 49] = true := by kernel_rfl
theorem fix_nm2 : isNm [65] = false := by kernel_rfl
theorem Try.build_l3 (a : ByteArray) (i j : Int) (w : World) : (Instr.build 27 #[(0, .string a), (1, .int .i64 i), (2, .int .i64 j)]).run Try.prog w = .ok (.agg #[.string a, .int .i64 i, .int .i64 j, .int .i64 0, .string (ba []), .string (ba [])]) w := by kernel_rfl

set_option maxHeartbeats 8000000 in
set_option maxRecDepth 100000 in
theorem fixed_any (w : World) : Calls Try.prog 7 #[] w fun e w' => e = .returned (.bool true) ∧ Below w.heap.size w w' := by
  have hb0 := Try.build_lg
  have hb3 := Try.build_l3
  have hli := ba_list
  have hby : ∀ W, Calls Try.prog 20 #[.agg #[.int .i64 0, .int .i64 0, .slice none 0 0, .slice none 0 0]] W (Byt W Lg.no.bytes) := fun W => by
    have h9 := bytes_any Lg.no none 0 0 none 0 0 W ⟨Sl.none_, Sl.none_⟩ (by omega) (by omega) (fun x hx => by cases hx)
    rw [fix_right] at h9
    exact h9
  have hpa : ∀ (W : World) (A : Option Addr) (c : Nat), By W (fun _ => True) A 20 Lg.no.bytes → Calls Try.prog 24 #[.slice A 20 c] W (fun e w' => ∃ A n c B m d, e = .returned (.tuple #[.agg #[.int .i64 0, .int .i64 0, .slice A n c, .slice B m d], .int .i64 0]) ∧ LgIn w' A n B m Lg.no ∧ n ≤ c ∧ m ≤ d ∧ Below W.heap.size W w') := fun W A c hY => by
    have h9 := parse_any Lg.no.bytes A 20 c W hY (by omega)
    rw [fix_parse] at h9
    exact h9
  have hw1 : ∀ (W : World) (A : Option Addr) (c : Nat) (B : Option Addr) (d : Nat), LgIn W A 0 B 0 Lg.no → 0 ≤ c → Calls Try.prog 9 #[.agg #[.int .i64 0, .int .i64 0, .slice A 0 c, .slice B 0 d], .agg #[.string ⟨#[98]⟩, .int .i64 1, .int .i64 5, .int .i64 0, .string ⟨#[]⟩, .string ⟨#[]⟩]] W (fun e w' => ∃ A n c B m d, e = .returned (.tuple #[.agg #[.int .i64 0, .int .i64 0, .slice A n c, .slice B m d], .int .i64 0]) ∧ LgIn w' A n B m fixB ∧ n ≤ c ∧ m ≤ d ∧ Below W.heap.size W w') := fun W A c B d hI hc => by
    have h9 := with_any Lg.no fixXB A 0 c B 0 d W hI (by omega) (by omega) hc (by decide)
    rw [fix_with1] at h9
    exact h9
  have hw2 : ∀ (W : World) (A : Option Addr) (c : Nat) (B : Option Addr) (d : Nat), LgIn W A 1 B 0 fixB → 1 ≤ c → Calls Try.prog 9 #[.agg #[.int .i64 0, .int .i64 0, .slice A 1 c, .slice B 0 d], .agg #[.string ⟨#[97]⟩, .int .i64 1, .int .i64 6, .int .i64 0, .string ⟨#[]⟩, .string ⟨#[]⟩]] W (fun e w' => ∃ A n c B m d, e = .returned (.tuple #[.agg #[.int .i64 0, .int .i64 0, .slice A n c, .slice B m d], .int .i64 0]) ∧ LgIn w' A n B m fixAB ∧ n ≤ c ∧ m ≤ d ∧ Below W.heap.size W w') := fun W A c B d hI hc => by
    have h9 := with_any fixB fixXA A 1 c B 0 d W hI (by omega) (by omega) hc (by decide)
    rw [fix_with2] at h9
    exact h9
  have hfi : ∀ (W : World) (A : Option Addr) (c : Nat) (B : Option Addr) (d : Nat), LgIn W A 2 B 0 fixAB → Calls Try.prog 13 #[.agg #[.int .i64 0, .int .i64 0, .slice A 2 c, .slice B 0 d], .string ⟨#[98]⟩] W fun e w' => e = .returned (.tuple #[.agg #[.string (ba [98]), .int .i64 1, .int .i64 5, .int .i64 0, .string (ba []), .string (ba [])], .bool true]) ∧ Below W.heap.size W w' := fun W A c B d hI => by
    have h9 := find_any fixAB [98] A 2 c B 0 d W hI (by omega)
    rw [fix_find] at h9
    exact h9
  have hck : ∀ (W : World) (A : Option Addr) (c : Nat) (B : Option Addr) (d : Nat), LgIn W A 2 B 0 fixAB → Calls Try.prog 21 #[.agg #[.int .i64 0, .int .i64 0, .slice A 2 c, .slice B 0 d]] W fun e w' => e = .returned (.int .i64 0) ∧ Below W.heap.size W w' := fun W A c B d hI => by
    have h9 := check_any fixAB A 2 c B 0 d W hI (by omega) (by omega) (fun x hx => by simp [fixAB] at hx; rcases hx with rfl | rfl <;> decide)
    rw [fix_chk] at h9
    exact h9
  have hn1 : ∀ W, Calls Try.prog 18 #[.string ⟨#[97, 45, 49]⟩] W fun e w' => e = .returned (.bool true) ∧ Below W.heap.size W w' := fun W => by
    have h9 := isname_any [97, 45, 49] W (by decide)
    rw [fix_nm1] at h9
    exact h9
  have hn2 : ∀ W, Calls Try.prog 18 #[.string ⟨#[65]⟩] W fun e w' => e = .returned (.bool false) ∧ Below W.heap.size W w' := fun W => by
    have h9 := isname_any [65] W (by decide)
    rw [fix_nm2] at h9
    exact h9
  have hca : (⟨#[97]⟩ : ByteArray).toList = [97] := ba_list _
  have HBy := Lib.hid hby
  have HPa := Lib.hid hpa
  have HW1 := Lib.hid hw1
  have HW2 := Lib.hid hw2
  have HFi := Lib.hid hfi
  have HCk := Lib.hid hck
  have HN1 := Lib.hid hn1
  have HN2 := Lib.hid hn2
  clear hby hpa hw1 hw2 hfi hck hn1 hn2
  go_enter Try.func7, Try.ntmps7
  go_wp2_with (first
    | (go_at_call 20; (with_reducible refine (HBy.out _).mono ?_); rintro e w1 ⟨A1, n1, c1, rfl, hy1, hc1, hm1, hb1⟩; obtain rfl : 20 = n1 := fix_len.symm.trans hy1.len; have HY1 := Lib.hid hy1; have HX1 := Lib.hid hb1; clear hy1 hb1 hc1 hm1)
    | (go_at_call 24; (with_reducible refine (HPa.out _ _ _ HY1.out).mono ?_); rintro e w2 ⟨A2, n2, c2, B2, m2, d2, rfl, hi2, hc2, hd2, hb2⟩; obtain rfl : 0 = n2 := hi2.len.1; obtain rfl : 0 = m2 := hi2.len.2; have HX2 : Hid (Below w.heap.size w (w2.alloc (.cells #[.int .i64 0, .int .i64 0, .slice A2 0 c2, .slice B2 0 d2] 25))) := Lib.hid ((below_step HX1.out hb2).alloc (below_step HX1.out hb2).size (.cells #[.int .i64 0, .int .i64 0, .slice A2 0 c2, .slice B2 0 d2] 25)); have HI2 := Lib.hid (hi2.alloc (.cells #[.int .i64 0, .int .i64 0, .slice A2 0 c2, .slice B2 0 d2] 25)); have HC2 := Lib.hid (And.intro hc2 hd2); have HB2 : Hid (Blk (w2.alloc (.cells #[.int .i64 0, .int .i64 0, .slice A2 0 c2, .slice B2 0 d2] 25)) w2.heap.size 25 [.int .i64 0, .int .i64 0, .slice A2 0 c2, .slice B2 0 d2]) := Lib.hid (Blk.fresh rfl rfl); clear hi2 hb2 hc2 hd2)
    | (refine wpList_load_blk rfl 25 (.tmp 2) rfl w2.heap.size rfl 25 [.int .i64 0, .int .i64 0, .slice A2 0 c2, .slice B2 0 d2] _ HB2.out Try.underlying25 rfl (by kernel_rfl) ?_)
    | (go_at_call 9; (with_reducible refine (HW1.out _ _ _ _ _ HI2.out HC2.out.1).mono ?_); rintro e w3 ⟨A3, n3, c3, B3, m3, d3, rfl, hi3, hc3, hd3, hb3⟩; obtain rfl : 1 = n3 := hi3.len.1; obtain rfl : 0 = m3 := hi3.len.2; have HX3 : Hid (Below w.heap.size w (w3.alloc (.cells #[.int .i64 0, .int .i64 0, .slice A3 1 c3, .slice B3 0 d3] 25))) := Lib.hid ((below_step HX2.out hb3).alloc (below_step HX2.out hb3).size (.cells #[.int .i64 0, .int .i64 0, .slice A3 1 c3, .slice B3 0 d3] 25)); have HI3 := Lib.hid (hi3.alloc (.cells #[.int .i64 0, .int .i64 0, .slice A3 1 c3, .slice B3 0 d3] 25)); have HC3 := Lib.hid (And.intro hc3 hd3); have HB3 : Hid (Blk (w3.alloc (.cells #[.int .i64 0, .int .i64 0, .slice A3 1 c3, .slice B3 0 d3] 25)) w3.heap.size 25 [.int .i64 0, .int .i64 0, .slice A3 1 c3, .slice B3 0 d3]) := Lib.hid (Blk.fresh rfl rfl); clear hi3 hb3 hc3 hd3)
    | (refine wpList_load_blk rfl 25 (.tmp 4) rfl w3.heap.size rfl 25 [.int .i64 0, .int .i64 0, .slice A3 1 c3, .slice B3 0 d3] _ HB3.out Try.underlying25 rfl (by kernel_rfl) ?_)
    | (go_at_call 9; (with_reducible refine (HW2.out _ _ _ _ _ HI3.out HC3.out.1).mono ?_); rintro e w4 ⟨A4, n4, c4, B4, m4, d4, rfl, hi4, hc4, hd4, hb4⟩; obtain rfl : 2 = n4 := hi4.len.1; obtain rfl : 0 = m4 := hi4.len.2; have HX4 : Hid (Below w.heap.size w (w4.alloc (.cells #[.int .i64 0, .int .i64 0, .slice A4 2 c4, .slice B4 0 d4] 25))) := Lib.hid ((below_step HX3.out hb4).alloc (below_step HX3.out hb4).size (.cells #[.int .i64 0, .int .i64 0, .slice A4 2 c4, .slice B4 0 d4] 25)); have HI4 := Lib.hid (hi4.alloc (.cells #[.int .i64 0, .int .i64 0, .slice A4 2 c4, .slice B4 0 d4] 25)); have HC4 := Lib.hid (And.intro hc4 hd4); have HB4 : Hid (Blk (w4.alloc (.cells #[.int .i64 0, .int .i64 0, .slice A4 2 c4, .slice B4 0 d4] 25)) w4.heap.size 25 [.int .i64 0, .int .i64 0, .slice A4 2 c4, .slice B4 0 d4]) := Lib.hid (Blk.fresh rfl rfl); clear hi4 hb4 hc4 hd4)
    | (refine wpList_load_blk rfl 25 (.tmp 6) rfl w4.heap.size rfl 25 [.int .i64 0, .int .i64 0, .slice A4 2 c4, .slice B4 0 d4] _ HB4.out Try.underlying25 rfl (by kernel_rfl) ?_)
    | (go_at_call 13; (with_reducible refine (HFi.out _ _ _ _ _ HI4.out).mono ?_); rintro e w5 ⟨rfl, hb5⟩; have HX5 : Hid (Below w.heap.size w (w5.alloc (.cells #[.string (ba [98]), .int .i64 1, .int .i64 5, .int .i64 0, .string (ba []), .string (ba [])] 27))) := Lib.hid ((below_step HX4.out hb5).alloc (below_step HX4.out hb5).size (.cells #[.string (ba [98]), .int .i64 1, .int .i64 5, .int .i64 0, .string (ba []), .string (ba [])] 27)); have HI5 := Lib.hid ((HI4.out.through hb5).alloc (.cells #[.string (ba [98]), .int .i64 1, .int .i64 5, .int .i64 0, .string (ba []), .string (ba [])] 27)); have HB5 := Lib.hid ((HB4.out.through hb5).alloc (.cells #[.string (ba [98]), .int .i64 1, .int .i64 5, .int .i64 0, .string (ba []), .string (ba [])] 27)); have c52 := HB5.out.cellAt (i := 2) rfl; obtain ⟨g, o, x5, hA5, hx5, _, _, hr5⟩ := HI5.out.lt_at (i := 0) (by omega); obtain rfl : fixXA = x5 := Option.some.inj hx5; subst hA5; have h50 : (w5.alloc (.cells #[.string (ba [98]), .int .i64 1, .int .i64 5, .int .i64 0, .string (ba []), .string (ba [])] 27)).cell? ⟨g, o, none⟩ = some (.string (ba [97])) := (by have h9 := hr5 0 (.string (ba [97])) rfl; simpa using h9); have hix := Try.ix_lt (w5.alloc (.cells #[.string (ba [98]), .int .i64 1, .int .i64 5, .int .i64 0, .string (ba []), .string (ba [])] 27)) g o 2 c4 0 (by omega); simp only [Nat.zero_mul, Nat.add_zero] at hix; clear hb5 hr5 hx5)
    | (refine wpList_load_blk_g 25 (.tmp 6) rfl (by kernel_rfl) w4.heap.size rfl 25 [.int .i64 0, .int .i64 0, .slice (some ⟨g, o, none⟩) 2 c4, .slice B4 0 d4] _ HB5.out Try.underlying25 rfl (by kernel_rfl) ?_)
    | (go_at_call 21; (with_reducible refine (HCk.out _ _ _ _ _ HI5.out).mono ?_); rintro e w6 ⟨rfl, hb6⟩; have HX6 := Lib.hid (below_step HX5.out hb6); clear hb6)
    | (go_at_call 18; (with_reducible refine (HN1.out _).mono ?_); rintro e w7 ⟨rfl, hb7⟩; have HX7 := Lib.hid (below_step HX6.out hb7); clear hb7)
    | (go_at_call 18; (with_reducible refine (HN2.out _).mono ?_); rintro e w8 ⟨rfl, hb8⟩; have HX8 := Lib.hid (below_step HX7.out hb8); clear hb8))
  go_ret
  exact ⟨rfl, HX8.out⟩

/-- small enough to be asked about -/
def fewX (x : Lt) : Bool := decide (x.nm.length ≤ 100) && decide (x.po.length ≤ 300) && decide (x.pa.length ≤ 300)
def fewL (l : Lg) : Bool := l.ls.all fewX && (decide (l.ls.length ≤ 64) && decide (l.os.length ≤ 64))

set_option maxHeartbeats 8000000 in
set_option maxRecDepth 100000 in
theorem few_any (l : Lg) (A : Option Addr) (n c : Nat) (B : Option Addr) (m d : Nat) (w : World) (h : LgIn w A n B m l) (hn : n ≤ maxLen) :
    Calls Try.prog 8 #[l.val A n c B m d] w fun e w' => e = .returned (.bool (fewL l)) ∧ Below w.heap.size w w' := by
  have hsz := ba_size
  have hn2 : n ≤ 9223372036854775807 := by unfold maxLen at hn; omega
  have HI := Lib.hid h
  have HLn := Lib.hid h.len.1
  have HLm := Lib.hid h.len.2
  have HIX := Lib.hid Try.ix_lt
  obtain ⟨bb, hbb⟩ : ∃ bb, fewL l = bb := ⟨_, rfl⟩
  rw [hbb]
  have HBB := Lib.hid hbb
  have H1 : Hid (Blk (w.alloc (.cells #[.int .i64 l.sq, .int .i64 l.tt, .slice A n c, .slice B m d] 25)) w.heap.size 25 [.int .i64 l.sq, .int .i64 l.tt, .slice A n c, .slice B m d]) := Lib.hid (Blk.fresh rfl rfl)
  have HX1 : Hid (Below w.heap.size w (w.alloc (.cells #[.int .i64 l.sq, .int .i64 l.tt, .slice A n c, .slice B m d] 25))) := Lib.hid (below1 w _)
  unfold Lg.val
  clear h hbb hn
  go_enter Try.func8, Try.ntmps8
  go_wp2
  go_loopw [8] (fun iv wr => ∃ i : Nat, i ≤ n ∧ iv = .int .i64 i ∧ l.ls.all fewX = (l.ls.drop i).all fewX ∧ Blk wr w.heap.size 25 [.int .i64 l.sq, .int .i64 l.tt, .slice A n c, .slice B m d] ∧ Below w.heap.size w wr) (fun iv _ => n - (intOf iv).toNat)
  case atStart => exact ⟨0, Nat.zero_le _, rfl, rfl, H1.out, HX1.out⟩
  case round =>
    obtain ⟨i, hi, rfl, hp, hb, hx⟩ := hrel
    have HP := Lib.hid hp
    have HB := Lib.hid hb
    have HX := Lib.hid hx
    clear hp hb hx
    by_cases hlt : i < n
    · obtain ⟨g, o, x, rfl, _, _, hd, hrx⟩ := (HI.out.through HX.out).lt_at hlt
      have HD := Lib.hid hd
      have HRx := Lib.hid hrx
      have hix := HIX.out wr g o n c i hlt
      clear hd hrx
      by_cases h0 : x.nm.length ≤ 100
      case neg =>
        have d0 : decide ((100 : Int) < (x.nm.length : Int)) = true := by simp; omega
        have hq : fewX x = false := by simp [fewX, h0]
        have HQ := Lib.hid hq
        clear hq h0
        go_wp2_with (refine wpList_load_mid rfl 27 (.tmp 10) rfl g (o + i * 6) rfl [.string (ba x.nm), .int .i64 x.st, .int .i64 x.am, .int .i64 x.du, .string (ba x.po), .string (ba x.pa)] _ HRx.out Try.underlying27 rfl (by kernel_rfl) ?_)
        go_ret
        exact ⟨ret_b (by rw [← HBB.out]; unfold fewL; rw [HP.out, HD.out, List.all_cons, HQ.out]; rfl), HX.out.alloc HX.out.size _⟩
      case pos =>
        have d0 : decide ((100 : Int) < (x.nm.length : Int)) = false := by simp; omega
        by_cases h1 : x.po.length ≤ 300
        case neg =>
          have d1 : decide ((300 : Int) < (x.po.length : Int)) = true := by simp; omega
          have hq : fewX x = false := by simp [fewX, h1]
          have HQ := Lib.hid hq
          clear hq h1
          go_wp2_with (refine wpList_load_mid rfl 27 (.tmp 10) rfl g (o + i * 6) rfl [.string (ba x.nm), .int .i64 x.st, .int .i64 x.am, .int .i64 x.du, .string (ba x.po), .string (ba x.pa)] _ HRx.out Try.underlying27 rfl (by kernel_rfl) ?_)
          go_ret
          exact ⟨ret_b (by rw [← HBB.out]; unfold fewL; rw [HP.out, HD.out, List.all_cons, HQ.out]; rfl), HX.out.alloc HX.out.size _⟩
        case pos =>
          have d1 : decide ((300 : Int) < (x.po.length : Int)) = false := by simp; omega
          by_cases h2 : x.pa.length ≤ 300
          case neg =>
            have d2 : decide ((300 : Int) < (x.pa.length : Int)) = true := by simp; omega
            have hq : fewX x = false := by simp [fewX, h2]
            have HQ := Lib.hid hq
            clear hq h2
            go_wp2_with (refine wpList_load_mid rfl 27 (.tmp 10) rfl g (o + i * 6) rfl [.string (ba x.nm), .int .i64 x.st, .int .i64 x.am, .int .i64 x.du, .string (ba x.po), .string (ba x.pa)] _ HRx.out Try.underlying27 rfl (by kernel_rfl) ?_)
            go_ret
            exact ⟨ret_b (by rw [← HBB.out]; unfold fewL; rw [HP.out, HD.out, List.all_cons, HQ.out]; rfl), HX.out.alloc HX.out.size _⟩
          case pos =>
            have d2 : decide ((300 : Int) < (x.pa.length : Int)) = false := by simp; omega
            have hq : fewX x = true := by simp [fewX, h0, h1, h2]
            have HQ := Lib.hid hq
            clear hq h0 h1 h2
            go_wp2_with (refine wpList_load_mid rfl 27 (.tmp 10) rfl g (o + i * 6) rfl [.string (ba x.nm), .int .i64 x.st, .int .i64 x.am, .int .i64 x.du, .string (ba x.po), .string (ba x.pa)] _ HRx.out Try.underlying27 rfl (by kernel_rfl) ?_)
            go_roundw
            case rel => exact ⟨i + 1, by omega, by go_num, (by have h9 := HP.out; rw [HD.out, List.all_cons, HQ.out] at h9; exact h9), HB.out.alloc _, HX.out.alloc HX.out.size _⟩
            case measure => simp [intOf]; omega
    · have e : l.ls.drop i = [] := List.drop_of_length_le (by have := HLn.out; omega)
      have HP2 : Hid (l.ls.all fewX = true) := Lib.hid (by rw [HP.out, e]; rfl)
      have c2 := HB.out.cellAt (i := 2) rfl
      have c3 := HB.out.cellAt (i := 3) rfl
      clear e
      by_cases h1 : n ≤ 64
      · have d1 : decide ((n : Int) ≤ 64) = true := by simp; omega
        by_cases h2 : m ≤ 64
        · have d2 : decide ((m : Int) ≤ 64) = true := by simp; omega
          go_wp2
          go_ret
          exact ⟨ret_b (by rw [← HBB.out]; unfold fewL; rw [HP2.out, HLn.out, HLm.out]; simp [h1, h2]), HX.out⟩
        · have d2 : decide ((m : Int) ≤ 64) = false := by simp; omega
          go_wp2
          go_ret
          exact ⟨ret_b (by rw [← HBB.out]; unfold fewL; rw [HP2.out, HLn.out, HLm.out]; simp [h2]), HX.out⟩
      · have d1 : decide ((n : Int) ≤ 64) = false := by simp; omega
        go_wp2
        go_ret
        exact ⟨ret_b (by rw [← HBB.out]; unfold fewL; rw [HP2.out, HLn.out, HLm.out]; simp [h1]), HX.out⟩

end Go.Proofs.Ytkbeodlihmmdbaa
