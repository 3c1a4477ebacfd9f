/-
  The law's few; a slice of entries in memory.
-/
import Derived.Test.YtfflkodgojiklaaGreatDoorCoDD
import Derived.Test.YtfflkodgojiklaaGreatDoorCoQ
import Derived.Test.YtfflkodgojiklaaGreatDoorKG2
namespace Go.Proofs.YtfflkodgojiklaaGreatDoor
open Go.RowKit

def Ey.cells (y : Ey) : List Value := [.int .i64 y.co.cl, .int .i64 y.co.sp, .int .i64 y.co.op, .string (ba y.co.lt), .int .i64 y.co.a, .int .i64 y.co.b, .string (ba y.co.tx), .int .u32 (y.ms : Int)]
theorem Tryz.el_ey : El Tryz.prog 33 30 8 80 (.agg #[.int .i64 0, .int .i64 0, .int .i64 0, .string ⟨#[]⟩, .int .i64 0, .int .i64 0, .string ⟨#[]⟩, .int .u32 0]) := ⟨Tryz.underlying33, by kernel_rfl, rfl, by omega, by omega, by omega⟩
theorem Tryz.ix_ey (W : World) (g o n c j : Nat) (hj : j < n) : (Instr.indexAt 33 (.slice (some ⟨g, o, none⟩) n c) (.int .i64 (j : Int))).run Tryz.prog W = .ok (.pointer (some ⟨g, o + j * 8, none⟩)) W := Tryz.el_ey.index (by kernel_rfl) W g o n c j hj
/-- Entries, as they lie in memory. -/
def EysIn (w : World) (E : Option Addr) (k : Nat) (es : List Ey) : Prop := Sl w 8 E k (es.map Ey.cells) ∧ ∀ y ∈ es, y.ms < 4294967296
theorem EysIn.through {w w' : World} {E : Option Addr} {k : Nat} {es : List Ey} (h : EysIn w E k es) (hb : Below w.heap.size w w') : EysIn w' E k es := ⟨h.1.through hb, h.2⟩
theorem EysIn.len {w : World} {E : Option Addr} {k : Nat} {es : List Ey} (h : EysIn w E k es) : es.length = k := by simpa using h.1.len
theorem EysIn.at {w : World} {E : Option Addr} {k : Nat} {es : List Ey} (h : EysIn w E k es) {i : Nat} (hi : i < k) : ∃ g o y, E = some ⟨g, o, none⟩ ∧ es[i]? = some y ∧ y ∈ es ∧ es.drop i = y :: es.drop (i + 1) ∧ w.rangeAt g (o + i * 8) y.cells := by
  obtain ⟨g, o, cs, e, h1, _, _, h4⟩ := h.1.at hi
  have hl : i < es.length := by rw [h.len]; exact hi
  rw [List.getElem?_map, List.getElem?_eq_getElem hl] at h1
  simp only [Option.map_some, Option.some.injEq] at h1
  subst h1
  exact ⟨g, o, es[i], e, List.getElem?_eq_getElem hl, List.getElem_mem hl, List.drop_eq_getElem_cons hl, h4⟩
/-- small enough to be asked about -/
def fewX (x : Lt) : Bool := decide (x.nm.length ≤ 100) && decide (x.po.length ≤ 300) && decide (x.pa.length ≤ 300)
def fewE (y : Ey) : Bool := decide (y.co.lt.length ≤ 100) && decide (y.co.tx.length ≤ 300)
def fewC (l : Lg) (es : List Ey) : Bool := l.ls.all fewX && (es.all fewE && (decide (l.ls.length ≤ 64) && (decide (l.os.length ≤ 64) && decide (es.length ≤ 40))))

set_option maxHeartbeats 8000000 in
set_option maxRecDepth 100000 in
theorem few_any (l : Lg) (es : List Ey) (A : Option Addr) (n c : Nat) (B : Option Addr) (m d : Nat) (E : Option Addr) (k kc : Nat) (w : World) (h : LgIn w A n B m l) (hE : EysIn w E k es) (hn : n ≤ maxLen) (hk : k ≤ maxLen) :
    Calls Tryz.prog 7 #[.agg #[.int .i64 l.sq, .int .i64 l.tt, .slice A n c, .slice B m d], .slice E k kc] w fun e w' => e = .returned (.bool (fewC l es)) ∧ Below w.heap.size w w' := by
  have hsz := ba_size
  have hn2 : n ≤ 9223372036854775807 := by unfold maxLen at hn; omega
  have hk2 : k ≤ 9223372036854775807 := by unfold maxLen at hk; omega
  have HI := Lib.hid h
  have HEi := Lib.hid hE
  have HLn := Lib.hid h.len.1
  have HLm := Lib.hid h.len.2
  have HLk := Lib.hid hE.len
  have HIX := Lib.hid Tryz.ix_lt
  have HIY := Lib.hid Tryz.ix_ey
  obtain ⟨bb, hbb⟩ : ∃ bb, fewC l es = bb := ⟨_, rfl⟩
  rw [hbb]
  have HBB := Lib.hid hbb
  have H1 : Hid (Blk (w.alloc (.cells #[.int .i64 l.sq, .int .i64 l.tt, .slice A n c, .slice B m d] 25)) w.heap.size 25 [.int .i64 l.sq, .int .i64 l.tt, .slice A n c, .slice B m d]) := Lib.hid (Blk.fresh rfl rfl)
  have HX1 : Hid (Below w.heap.size w (w.alloc (.cells #[.int .i64 l.sq, .int .i64 l.tt, .slice A n c, .slice B m d] 25))) := Lib.hid (below1 w _)
  clear h hE hbb hn hk
  go_enter Tryz.func7, Tryz.ntmps7
  go_wp2
  go_loopw [12] (fun iv wr => ∃ i : Nat, i ≤ n ∧ iv = .int .i64 i ∧ l.ls.all fewX = (l.ls.drop i).all fewX ∧ Blk wr w.heap.size 25 [.int .i64 l.sq, .int .i64 l.tt, .slice A n c, .slice B m d] ∧ Below w.heap.size w wr) (fun iv _ => n - (intOf iv).toNat)
  case atStart => exact ⟨0, Nat.zero_le _, rfl, rfl, H1.out, HX1.out⟩
  case round =>
    obtain ⟨i, hi, rfl, hp, hb, hx⟩ := hrel
    have HP := Lib.hid hp
    have HB := Lib.hid hb
    have HX := Lib.hid hx
    clear hp hb hx
    by_cases hlt : i < n
    · obtain ⟨g, o, x, rfl, _, _, hd, hrx⟩ := (HI.out.through HX.out).lt_at hlt
      have HD := Lib.hid hd
      have HRx := Lib.hid hrx
      have hix := HIX.out wr g o n c i hlt
      clear hd hrx
      by_cases h0 : x.nm.length ≤ 100
      case neg =>
        have d0 : decide ((100 : Int) < (x.nm.length : Int)) = true := by simp; omega
        have hq : fewX x = false := by simp [fewX, h0]
        have HQ := Lib.hid hq
        clear hq h0
        go_wp2_with (refine wpList_load_mid rfl 39 (.tmp 14) rfl g (o + i * 6) rfl [.string (ba x.nm), .int .i64 x.st, .int .i64 x.am, .int .i64 x.du, .string (ba x.po), .string (ba x.pa)] _ HRx.out Tryz.underlying39 rfl (by kernel_rfl) ?_)
        go_ret
        exact ⟨ret_b (by rw [← HBB.out]; unfold fewC; rw [HP.out, HD.out, List.all_cons, HQ.out]; rfl), HX.out.alloc HX.out.size _⟩
      case pos =>
        have d0 : decide ((100 : Int) < (x.nm.length : Int)) = false := by simp; omega
        by_cases h1 : x.po.length ≤ 300
        case neg =>
          have d1 : decide ((300 : Int) < (x.po.length : Int)) = true := by simp; omega
          have hq : fewX x = false := by simp [fewX, h1]
          have HQ := Lib.hid hq
          clear hq h1
          go_wp2_with (refine wpList_load_mid rfl 39 (.tmp 14) rfl g (o + i * 6) rfl [.string (ba x.nm), .int .i64 x.st, .int .i64 x.am, .int .i64 x.du, .string (ba x.po), .string (ba x.pa)] _ HRx.out Tryz.underlying39 rfl (by kernel_rfl) ?_)
          go_ret
          exact ⟨ret_b (by rw [← HBB.out]; unfold fewC; rw [HP.out, HD.out, List.all_cons, HQ.out]; rfl), HX.out.alloc HX.out.size _⟩
        case pos =>
          have d1 : decide ((300 : Int) < (x.po.length : Int)) = false := by simp; omega
          by_cases h2 : x.pa.length ≤ 300
          case neg =>
            have d2 : decide ((300 : Int) < (x.pa.length : Int)) = true := by simp; omega
            have hq : fewX x = false := by simp [fewX, h2]
            have HQ := Lib.hid hq
            clear hq h2
            go_wp2_with (refine wpList_load_mid rfl 39 (.tmp 14) rfl g (o + i * 6) rfl [.string (ba x.nm), .int .i64 x.st, .int .i64 x.am, .int .i64 x.du, .string (ba x.po), .string (ba x.pa)] _ HRx.out Tryz.underlying39 rfl (by kernel_rfl) ?_)
            go_ret
            exact ⟨ret_b (by rw [← HBB.out]; unfold fewC; rw [HP.out, HD.out, List.all_cons, HQ.out]; rfl), HX.out.alloc HX.out.size _⟩
          case pos =>
            have d2 : decide ((300 : Int) < (x.pa.length : Int)) = false := by simp; omega
            have hq : fewX x = true := by simp [fewX, h0, h1, h2]
            have HQ := Lib.hid hq
            clear hq h0 h1 h2
            go_wp2_with (refine wpList_load_mid rfl 39 (.tmp 14) rfl g (o + i * 6) rfl [.string (ba x.nm), .int .i64 x.st, .int .i64 x.am, .int .i64 x.du, .string (ba x.po), .string (ba x.pa)] _ HRx.out Tryz.underlying39 rfl (by kernel_rfl) ?_)
            go_roundw
            case rel => exact ⟨i + 1, by omega, by go_num, (by have h9 := HP.out; rw [HD.out, List.all_cons, HQ.out] at h9; exact h9), HB.out.alloc _, HX.out.alloc HX.out.size _⟩
            case measure => simp [intOf]; omega
    · have e : l.ls.drop i = [] := List.drop_of_length_le (by have := HLn.out; omega)
      have HP2 : Hid (l.ls.all fewX = true) := Lib.hid (by rw [HP.out, e]; rfl)
      clear e
      go_wp2
      go_loopw [35] (fun iv wr => ∃ i2 : Nat, i2 ≤ k ∧ iv = .int .i64 i2 ∧ es.all fewE = (es.drop i2).all fewE ∧ Blk wr w.heap.size 25 [.int .i64 l.sq, .int .i64 l.tt, .slice A n c, .slice B m d] ∧ Below w.heap.size w wr) (fun iv _ => k - (intOf iv).toNat)
      case atStart => exact ⟨0, Nat.zero_le _, rfl, rfl, HB.out, HX.out⟩
      case round =>
        obtain ⟨i2, hi2, rfl, hp3, hb3, hx3⟩ := hrel
        have HP3 := Lib.hid hp3
        have HB3 := Lib.hid hb3
        have HX3 := Lib.hid hx3
        clear hp3 hb3 hx3
        by_cases hlt : i2 < k
        · obtain ⟨g, o, x, rfl, _, _, hd, hrx⟩ := (HEi.out.through HX3.out).at hlt
          have HD := Lib.hid hd
          have HRx := Lib.hid hrx
          have hix := HIY.out wr g o k kc i2 hlt
          clear hd hrx
          by_cases h0 : x.co.lt.length ≤ 100
          case neg =>
            have d0 : decide ((100 : Int) < (x.co.lt.length : Int)) = true := by simp; omega
            have hq : fewE x = false := by simp [fewE, h0]
            have HQ := Lib.hid hq
            clear hq h0
            go_wp2_with (refine wpList_load_mid rfl 30 (.tmp 37) rfl g (o + i2 * 8) rfl [.int .i64 x.co.cl, .int .i64 x.co.sp, .int .i64 x.co.op, .string (ba x.co.lt), .int .i64 x.co.a, .int .i64 x.co.b, .string (ba x.co.tx), .int .u32 (x.ms : Int)] _ HRx.out Tryz.underlying30 rfl (by kernel_rfl) ?_)
            go_ret
            exact ⟨ret_b (by rw [← HBB.out]; unfold fewC; rw [HP2.out, HP3.out, HD.out, List.all_cons, HQ.out]; rfl), HX3.out.alloc HX3.out.size _⟩
          case pos =>
            have d0 : decide ((100 : Int) < (x.co.lt.length : Int)) = false := by simp; omega
            by_cases h1 : x.co.tx.length ≤ 300
            case neg =>
              have d1 : decide ((300 : Int) < (x.co.tx.length : Int)) = true := by simp; omega
              have hq : fewE x = false := by simp [fewE, h1]
              have HQ := Lib.hid hq
              clear hq h1
              go_wp2_with (refine wpList_load_mid rfl 30 (.tmp 37) rfl g (o + i2 * 8) rfl [.int .i64 x.co.cl, .int .i64 x.co.sp, .int .i64 x.co.op, .string (ba x.co.lt), .int .i64 x.co.a, .int .i64 x.co.b, .string (ba x.co.tx), .int .u32 (x.ms : Int)] _ HRx.out Tryz.underlying30 rfl (by kernel_rfl) ?_)
              go_ret
              exact ⟨ret_b (by rw [← HBB.out]; unfold fewC; rw [HP2.out, HP3.out, HD.out, List.all_cons, HQ.out]; rfl), HX3.out.alloc HX3.out.size _⟩
            case pos =>
              have d1 : decide ((300 : Int) < (x.co.tx.length : Int)) = false := by simp; omega
              have hq : fewE x = true := by simp [fewE, h0, h1]
              have HQ := Lib.hid hq
              clear hq h0 h1
              go_wp2_with (refine wpList_load_mid rfl 30 (.tmp 37) rfl g (o + i2 * 8) rfl [.int .i64 x.co.cl, .int .i64 x.co.sp, .int .i64 x.co.op, .string (ba x.co.lt), .int .i64 x.co.a, .int .i64 x.co.b, .string (ba x.co.tx), .int .u32 (x.ms : Int)] _ HRx.out Tryz.underlying30 rfl (by kernel_rfl) ?_)
              go_roundw
              case rel => exact ⟨i2 + 1, by omega, by go_num, (by have h9 := HP3.out; rw [HD.out, List.all_cons, HQ.out] at h9; exact h9), HB3.out.alloc _, HX3.out.alloc HX3.out.size _⟩
              case measure => simp [intOf]; omega

        · have e : es.drop i2 = [] := List.drop_of_length_le (by have := HLk.out; omega)
          have HP4 : Hid (es.all fewE = true) := Lib.hid (by rw [HP3.out, e]; rfl)
          have c2 := HB3.out.cellAt (i := 2) rfl
          have c3 := HB3.out.cellAt (i := 3) rfl
          clear e
          by_cases h1 : n ≤ 64
          · have d1 : decide ((n : Int) ≤ 64) = true := by simp; omega
            by_cases h2 : m ≤ 64
            · have d2 : decide ((m : Int) ≤ 64) = true := by simp; omega
              by_cases h3 : k ≤ 40
              · have d3 : decide ((k : Int) ≤ 40) = true := by simp; omega
                go_wp2
                go_ret
                exact ⟨ret_b (by rw [← HBB.out]; unfold fewC; rw [HP2.out, HP4.out, HLn.out, HLm.out, HLk.out]; simp [h1, h2, h3]), HX3.out⟩
              · have d3 : decide ((k : Int) ≤ 40) = false := by simp; omega
                go_wp2
                go_ret
                exact ⟨ret_b (by rw [← HBB.out]; unfold fewC; rw [HP2.out, HP4.out, HLn.out, HLm.out, HLk.out]; simp [h3]), HX3.out⟩
            · have d2 : decide ((m : Int) ≤ 64) = false := by simp; omega
              go_wp2
              go_ret
              exact ⟨ret_b (by rw [← HBB.out]; unfold fewC; rw [HP2.out, HP4.out, HLn.out, HLm.out, HLk.out]; simp [h2]), HX3.out⟩
          · have d1 : decide ((n : Int) ≤ 64) = false := by simp; omega
            go_wp2
            go_ret
            exact ⟨ret_b (by rw [← HBB.out]; unfold fewC; rw [HP2.out, HP4.out, HLn.out, HLm.out, HLk.out]; simp [h1]), HX3.out⟩

end Go.Proofs.YtfflkodgojiklaaGreatDoor
