/-
  The document's With, walked.
-/
import Derived.Test.YtkbeodlihmmdbaaLgL
import Derived.Laws.Cover1
namespace Go.Proofs.Ytkbeodlihmmdbaa
open Go.RowKit

/-- What a call hands back: a ledger, in memory; beside an error. -/
def LgOut (w : World) (l : Lg) (e : Ending) (w' : World) : Prop := ∃ A n c B m d, e = .returned (l.val A n c B m d) ∧ LgIn w' A n B m l ∧ Below w.heap.size w w'
def LgOutE (w : World) (l : Lg) (er : Int) (e : Ending) (w' : World) : Prop := ∃ A n c B m d, e = .returned (.tuple #[l.val A n c B m d, .int .i64 er]) ∧ LgIn w' A n B m l ∧ Below w.heap.size w w'
theorem fin3 (w : World) (A B C : Obj) : (((w.alloc A).alloc B).alloc C).heap[w.heap.size + 2]? = some C := by have := heap_alloc_new ((w.alloc A).alloc B) C; simpa using this
theorem below3 (w : World) (A B C : Obj) : Below w.heap.size w (((w.alloc A).alloc B).alloc C) := (below2 w A B).alloc (by simp; omega) C
theorem Try.zero_lg (w : World) : (zeroValue 25).run Try.prog w = .ok (.agg #[.int .i64 0, .int .i64 0, .slice none 0 0, .slice none 0 0]) w := by kernel_rfl
theorem Try.build_lg (w : World) : (Instr.build 25 #[]).run Try.prog w = .ok (.agg #[.int .i64 0, .int .i64 0, .slice none 0 0, .slice none 0 0]) w := by kernel_rfl
theorem one4 (i j : Int) (A : Option Addr) (n c : Nat) (B : Option Addr) (m d : Nat) : ([.int .i64 i, .int .i64 j, .slice A n c, .slice B m d] : List Value).toArray.all (·.oneCell') = true := by kernel_rfl
theorem Os.out' {w : World} {B : Nat} {e : TypeId} {k : Nat} {v : Value} {xs : List (List Value)} (h : Os w B e k v xs) : ∃ A n c, v = .slice A n c ∧ n = xs.length := by
  obtain ⟨A, c, h1, _⟩ := h.out
  exact ⟨A, _, c, h1, rfl⟩
theorem Os.sl {w : World} {B : Nat} {e : TypeId} {k : Nat} {v : Value} {xs : List (List Value)} (h : Os w B e k v xs) {A : Option Addr} {n c : Nat} (hv : v = .slice A n c) : Sl w k A n xs := by
  obtain ⟨A', c', h1, _, _, h2⟩ := h.out
  rw [hv] at h1
  injection h1 with e1 e2 e3
  subst e1 e2 e3
  exact h2

set_option maxHeartbeats 16000000 in
set_option maxRecDepth 100000 in
theorem rwith_any (l : Lg) (x : Lt) (A : Option Addr) (n c : Nat) (B : Option Addr) (m d : Nat) (w : World) (h : LgIn w A n B m l) (hn : n ≤ 1000) (hxn : x.nm.length ≤ 1000) :
    Calls Try.prog 10 #[l.val A n c B m d, .agg #[.string (ba x.nm), .int .i64 x.st, .int .i64 x.am, .int .i64 x.du, .string (ba x.po), .string (ba x.pa)]] w (LgOutE w (withL l x).1 (withL l x).2) := by
  have hli := ba_list
  have hz := Try.zero_lg
  have hzl := Try.zero_lt
  have hbn := Try.build_lg
  have HI := Lib.hid h
  have hnm : ∀ W, Calls Try.prog 19 #[.string (ba x.nm)] W fun e w' => e = .returned (.bool (isNm x.nm)) ∧ w' = W := fun W => risname_any _ W (by omega)
  unfold withL
  cases hi : isNm x.nm <;> rw [hi] at hnm
  · rw [if_pos rfl]
    have HN := Lib.hid hnm
    unfold Lg.val
    clear h hnm hi
    go_enter Try.func10, Try.ntmps10
    go_wp2_with (go_at_call 19; (with_reducible refine (HN.out _).mono ?_); rintro e w1 ⟨rfl, rfl⟩)
    exact bodyPost_ret (results_cell_row_tmp1 rfl _ _ (w.heap.size + 2) 25 _ (0, 0) _ rfl (fin3 w _ _ _) Try.underlying25 rfl (by kernel_rfl)) rfl ⟨none, 0, 0, none, 0, 0, rfl, ⟨Sl.none_, Sl.none_⟩, below3 w _ _ _⟩
  rw [if_neg (by simp)]
  have HN := Lib.hid hnm
  clear hnm hi
  have hf : ∀ W, LgIn W A n B m l → Calls Try.prog 14 #[l.val A n c B m d, .string (ba x.nm)] W fun e w' => e = .returned (.tuple #[(findR (findL x.nm l.ls)).1.val, .bool (findL x.nm l.ls).isSome]) ∧ Below W.heap.size W w' := fun W hW => by
    have := rfind_any l x.nm A n c B m d W hW (by omega)
    have e2 : (findR (findL x.nm l.ls)).2 = (findL x.nm l.ls).isSome := by cases findL x.nm l.ls <;> rfl
    rw [e2] at this
    exact this
  have hlen : (putL (findL x.nm l.ls).isSome x l.ls).length ≤ n + 1 := by have := putL_len (findL x.nm l.ls).isSome x l.ls; have := h.len; omega
  generalize (findL x.nm l.ls).isSome = th at *
  generalize (findR (findL x.nm l.ls)).1 = f at *
  obtain ⟨r, hr⟩ : ∃ r, putL th x l.ls = r := ⟨_, rfl⟩
  rw [hr] at hlen ⊢
  have HR := Lib.hid hr
  generalize hP : (if 16 < r.length then (Lg.no, (11 : Int)) else (⟨l.sq, l.tt, r, l.os⟩, 0)) = P
  have HPp := Lib.hid hP
  clear hP
  unfold Lt.val Lg.val at hf
  unfold Lg.val
  have HF := Lib.hid hf
  have HIX := Lib.hid Try.ix_lt
  clear h hf hr
  go_enter Try.func10, Try.ntmps10
  go_wp2_with (first
    | (go_at_call 19; (with_reducible refine (HN.out _).mono ?_); rintro e w1 ⟨rfl, rfl⟩)
    | (refine wpList_load_blk rfl 25 (.tmp 2) rfl w.heap.size rfl 25 [.int .i64 l.sq, .int .i64 l.tt, .slice A n c, .slice B m d] _ (by exact ((Blk.fresh rfl rfl : Blk (w.alloc (.cells #[.int .i64 l.sq, .int .i64 l.tt, .slice A n c, .slice B m d] 25)) w.heap.size 25 [.int .i64 l.sq, .int .i64 l.tt, .slice A n c, .slice B m d]).alloc _).alloc _) Try.underlying25 rfl (by kernel_rfl) ?_)
    | (go_at_call 14; (with_reducible refine (HF.out _ (((HI.out.alloc (.cells #[.int .i64 l.sq, .int .i64 l.tt, .slice A n c, .slice B m d] 25)).alloc (.cells #[.string (ba x.nm), .int .i64 x.st, .int .i64 x.am, .int .i64 x.du, .string (ba x.po), .string (ba x.pa)] 27)).alloc (.cells #[.int .i64 0, .int .i64 0, .slice none 0 0, .slice none 0 0] 25))).mono ?_); rintro e w4 ⟨rfl, hb⟩; have HX4 : Hid (Below (w.heap.size + 3) (((w.alloc (.cells #[.int .i64 l.sq, .int .i64 l.tt, .slice A n c, .slice B m d] 25)).alloc (.cells #[.string (ba x.nm), .int .i64 x.st, .int .i64 x.am, .int .i64 x.du, .string (ba x.po), .string (ba x.pa)] 27)).alloc (.cells #[.int .i64 0, .int .i64 0, .slice none 0 0, .slice none 0 0] 25)) (w4.alloc (.cells #[.string (ba f.nm), .int .i64 f.st, .int .i64 f.am, .int .i64 f.du, .string (ba f.po), .string (ba f.pa)] 27))) := Lib.hid ((hb.mono (by simp)).alloc (by have := hb.size; simp at this; omega) _); have H1 : Hid (Blk (w4.alloc (.cells #[.string (ba f.nm), .int .i64 f.st, .int .i64 f.am, .int .i64 f.du, .string (ba f.po), .string (ba f.pa)] 27)) w.heap.size 25 [.int .i64 l.sq, .int .i64 l.tt, .slice A n c, .slice B m d]) := Lib.hid (((((Blk.fresh rfl rfl : Blk (w.alloc (.cells #[.int .i64 l.sq, .int .i64 l.tt, .slice A n c, .slice B m d] 25)) w.heap.size 25 [.int .i64 l.sq, .int .i64 l.tt, .slice A n c, .slice B m d]).alloc (.cells #[.string (ba x.nm), .int .i64 x.st, .int .i64 x.am, .int .i64 x.du, .string (ba x.po), .string (ba x.pa)] 27)).alloc (.cells #[.int .i64 0, .int .i64 0, .slice none 0 0, .slice none 0 0] 25)).through hb).alloc _); have H2 : Hid (Blk (w4.alloc (.cells #[.string (ba f.nm), .int .i64 f.st, .int .i64 f.am, .int .i64 f.du, .string (ba f.po), .string (ba f.pa)] 27)) (w.heap.size + 1) 27 [.string (ba x.nm), .int .i64 x.st, .int .i64 x.am, .int .i64 x.du, .string (ba x.po), .string (ba x.pa)]) := Lib.hid ((((Blk.fresh (by simp) rfl : Blk ((w.alloc (.cells #[.int .i64 l.sq, .int .i64 l.tt, .slice A n c, .slice B m d] 25)).alloc (.cells #[.string (ba x.nm), .int .i64 x.st, .int .i64 x.am, .int .i64 x.du, .string (ba x.po), .string (ba x.pa)] 27)) (w.heap.size + 1) 27 [.string (ba x.nm), .int .i64 x.st, .int .i64 x.am, .int .i64 x.du, .string (ba x.po), .string (ba x.pa)]).alloc (.cells #[.int .i64 0, .int .i64 0, .slice none 0 0, .slice none 0 0] 25)).through hb).alloc _); have H3 : Hid (Blk (w4.alloc (.cells #[.string (ba f.nm), .int .i64 f.st, .int .i64 f.am, .int .i64 f.du, .string (ba f.po), .string (ba f.pa)] 27)) (w.heap.size + 2) 25 [.int .i64 0, .int .i64 0, .slice none 0 0, .slice none 0 0]) := Lib.hid (((Blk.fresh (by simp) rfl : Blk (((w.alloc (.cells #[.int .i64 l.sq, .int .i64 l.tt, .slice A n c, .slice B m d] 25)).alloc (.cells #[.string (ba x.nm), .int .i64 x.st, .int .i64 x.am, .int .i64 x.du, .string (ba x.po), .string (ba x.pa)] 27)).alloc (.cells #[.int .i64 0, .int .i64 0, .slice none 0 0, .slice none 0 0] 25)) (w.heap.size + 2) 25 [.int .i64 0, .int .i64 0, .slice none 0 0, .slice none 0 0]).through hb).alloc _); have hs4 : w.heap.size + 3 ≤ w4.heap.size := (by have := hb.size; simp at this; omega); have l2 := H1.out.cellAt (i := 2) rfl; clear hb))
  go_loopw [6, 9, 27] (fun ov pv iv wr => ∃ (i : Nat) (xs : List Lt) (p : Bool), i ≤ n ∧ iv = .int .i64 i ∧ pv = .bool p ∧ Os wr (w4.heap.size + 1) 27 6 ov (xs.map Lt.cells) ∧ xs ++ (if p then l.ls.drop i else putL th x (l.ls.drop i)) = r ∧ Below (w4.heap.size + 1) (w4.alloc (.cells #[.string (ba f.nm), .int .i64 f.st, .int .i64 f.am, .int .i64 f.du, .string (ba f.po), .string (ba f.pa)] 27)) wr) (fun _ _ iv _ => n - (intOf iv).toNat)
  case atStart => exact ⟨0, [], false, Nat.zero_le _, rfl, rfl, Os.nil _ _ _ _, HR.out, Below.refl _ _⟩
  case round =>
    obtain ⟨i, xs, p, hi, rfl, rfl, ho, hp, hx⟩ := hrel
    have hxl : xs.length ≤ n + 1 := Nat.le_trans (by rw [← hp]; simp) hlen
    have hszr : w4.heap.size + 1 ≤ wr.heap.size := by have := hx.size; simpa using this
    have HX := Lib.hid hx
    have HO := Lib.hid ho
    clear hx ho
    by_cases hlt : i < n
    · obtain ⟨g, o, y, rfl, _, _, hd, hrg⟩ := ((HI.out.alloc (.cells #[.int .i64 l.sq, .int .i64 l.tt, .slice A n c, .slice B m d] 25)).alloc (.cells #[.string (ba x.nm), .int .i64 x.st, .int .i64 x.am, .int .i64 x.du, .string (ba x.po), .string (ba x.pa)] 27) |>.alloc (.cells #[.int .i64 0, .int .i64 0, .slice none 0 0, .slice none 0 0] 25) |>.through (HX4.out.mono (by simp)) |>.through (HX.out.mono (by have := hs4; simp))).lt_at hlt
      rw [hd] at hp
      have HRg := Lib.hid hrg
      have x0 := ((H2.out.below HX.out (by have := hs4; simp; omega)).alloc (.cells #[.string (ba y.nm), .int .i64 y.st, .int .i64 y.am, .int .i64 y.du, .string (ba y.po), .string (ba y.pa)] 27)).cellAt (i := 0) rfl
      have hix := HIX.out wr g o n c i hlt
      clear hrg hd
      cases p
      · simp only [Bool.false_eq_true, if_false, putL] at hp
        cases th
        · simp only [Bool.false_eq_true, if_false] at hp
          by_cases hq : ltS x.nm y.nm = true
          · rw [if_pos hq] at hp
            have hb2 : Op.bytesLess y.nm x.nm = false := ltS_asymm hq
            have hb1 : (y.nm == x.nm) = false := by
              cases hb : (y.nm == x.nm)
              · rfl
              · rw [beq_iff_eq.1 hb, ltS_irrefl] at hq
                cases hq
            have HP := Lib.hid hp
            clear hp hq
            go_wp2_with (first
              | (refine wpList_load_mid rfl 27 (.tmp 29) rfl g (o + i * 6) rfl [.string (ba y.nm), .int .i64 y.st, .int .i64 y.am, .int .i64 y.du, .string (ba y.po), .string (ba y.pa)] _ HRg.out Try.underlying27 rfl (by kernel_rfl) ?_)
              | (refine wpList_load_blk rfl 27 (.tmp 3) rfl (w.heap.size + 1) rfl 27 [.string (ba x.nm), .int .i64 x.st, .int .i64 x.am, .int .i64 x.du, .string (ba x.po), .string (ba x.pa)] _ (by exact (H2.out.below HX.out (by have := hs4; simp; omega)).alloc _) Try.underlying27 rfl (by kernel_rfl) ?_)
              | (refine wpList_build_el rfl Try.el_lt (.tmp 55) rfl [.string (ba x.nm), .int .i64 x.st, .int .i64 x.am, .int .i64 x.du, .string (ba x.po), .string (ba x.pa)] rfl rfl ?_)
              | (at_builtin; refine wpList_append_el rfl Try.el_lt (.tmp 54) (.tmp 56) rfl (w4.heap.size + 1) _ (xs.map Lt.cells) rfl ((HO.out.alloc (.cells #[.string (ba y.nm), .int .i64 y.st, .int .i64 y.am, .int .i64 y.du, .string (ba y.po), .string (ba y.pa)] 27)).alloc _) _ [.string (ba x.nm), .int .i64 x.st, .int .i64 x.am, .int .i64 x.du, .string (ba x.po), .string (ba x.pa)] rfl (Blk.fresh (by simp) rfl) rfl (fun u hu => by simp at hu; rcases hu with rfl | rfl | rfl | rfl | rfl | rfl <;> rfl) (by (try simp); omega) (by (try simp); omega) ?_; intro v6 w6 ho6 hg6; have HO6 := Lib.hid ho6; have HX6 : Hid (Below (w4.heap.size + 1) (w4.alloc (.cells #[.string (ba f.nm), .int .i64 f.st, .int .i64 f.am, .int .i64 f.du, .string (ba f.po), .string (ba f.pa)] 27)) w6) := Lib.hid (((HX.out.alloc hszr (.cells #[.string (ba y.nm), .int .i64 y.st, .int .i64 y.am, .int .i64 y.du, .string (ba y.po), .string (ba y.pa)] 27)).alloc (by (try simp); omega) _).grown hg6 (by (try simp); omega) (fun b hb => ((HO.out.alloc (.cells #[.string (ba y.nm), .int .i64 y.st, .int .i64 y.am, .int .i64 y.du, .string (ba y.po), .string (ba y.pa)] 27)).lt b hb).1)); have HY6 : Hid (Blk w6 wr.heap.size 27 [.string (ba y.nm), .int .i64 y.st, .int .i64 y.am, .int .i64 y.du, .string (ba y.po), .string (ba y.pa)]) := Lib.hid (((Blk.fresh rfl rfl : Blk (wr.alloc (.cells #[.string (ba y.nm), .int .i64 y.st, .int .i64 y.am, .int .i64 y.du, .string (ba y.po), .string (ba y.pa)] 27)) wr.heap.size 27 [.string (ba y.nm), .int .i64 y.st, .int .i64 y.am, .int .i64 y.du, .string (ba y.po), .string (ba y.pa)]).alloc _).grown hg6 (fun e => by have := (HO.out.lt _ e.symm).2; omega)); have hsz6 : w4.heap.size + 1 ≤ w6.heap.size := (by have := HX6.out.size; simpa using this); clear ho6 hg6)
              | (refine wpList_load_blk rfl 27 (.tmp 11) rfl wr.heap.size rfl 27 [.string (ba y.nm), .int .i64 y.st, .int .i64 y.am, .int .i64 y.du, .string (ba y.po), .string (ba y.pa)] _ HY6.out Try.underlying27 rfl (by kernel_rfl) ?_)
              | (refine wpList_build_el rfl Try.el_lt (.tmp 60) rfl [.string (ba y.nm), .int .i64 y.st, .int .i64 y.am, .int .i64 y.du, .string (ba y.po), .string (ba y.pa)] rfl rfl ?_)
              | (at_builtin; refine wpList_append_el rfl Try.el_lt (.tmp 59) (.tmp 61) rfl (w4.heap.size + 1) _ (xs.map Lt.cells ++ [Lt.cells x]) rfl (HO6.out.alloc _) _ [.string (ba y.nm), .int .i64 y.st, .int .i64 y.am, .int .i64 y.du, .string (ba y.po), .string (ba y.pa)] rfl (Blk.fresh (by simp) rfl) rfl (fun u hu => by simp at hu; rcases hu with rfl | rfl | rfl | rfl | rfl | rfl <;> rfl) (by (try simp); omega) (by (try simp); omega) ?_; intro v7 w7 ho7 hg7; have HO7 := Lib.hid ho7; have HX7 : Hid (Below (w4.heap.size + 1) (w4.alloc (.cells #[.string (ba f.nm), .int .i64 f.st, .int .i64 f.am, .int .i64 f.du, .string (ba f.po), .string (ba f.pa)] 27)) w7) := Lib.hid ((HX6.out.alloc (by (try simp); omega) _).grown hg7 (by (try simp); omega) (fun b hb => (HO6.out.lt b hb).1)); have hsz7 : w4.heap.size + 1 ≤ w7.heap.size := (by have := HX7.out.size; simpa using this); clear ho7 hg7))
            go_roundw
            case rel => exact ⟨i + 1, xs ++ [x] ++ [y], true, by omega, by go_num, rfl, by (repeat rw [List.map_append]); exact HO7.out, by simpa using HP.out, HX7.out⟩
            case measure => simp [intOf]; omega
          · rw [if_neg hq] at hp
            simp only [Bool.not_eq_true] at hq
            have hb2 : (Op.bytesLess y.nm x.nm || (y.nm == x.nm)) = true := by
              cases hb : (y.nm == x.nm)
              · have := ltS_total (a := x.nm) (b := y.nm) (fun e => by rw [e] at hb; simp at hb) hq
                unfold ltS at this
                rw [this]
                rfl
              · simp
            have HP := Lib.hid hp
            clear hp hq
            go_wp2_with (first
              | (refine wpList_load_mid rfl 27 (.tmp 29) rfl g (o + i * 6) rfl [.string (ba y.nm), .int .i64 y.st, .int .i64 y.am, .int .i64 y.du, .string (ba y.po), .string (ba y.pa)] _ HRg.out Try.underlying27 rfl (by kernel_rfl) ?_)
              | (refine wpList_build_el rfl Try.el_lt (.tmp 60) rfl [.string (ba y.nm), .int .i64 y.st, .int .i64 y.am, .int .i64 y.du, .string (ba y.po), .string (ba y.pa)] rfl rfl ?_)
              | (at_builtin; refine wpList_append_el rfl Try.el_lt (.tmp 59) (.tmp 61) rfl (w4.heap.size + 1) _ (xs.map Lt.cells) rfl ((HO.out.alloc (.cells #[.string (ba y.nm), .int .i64 y.st, .int .i64 y.am, .int .i64 y.du, .string (ba y.po), .string (ba y.pa)] 27)).alloc _) _ [.string (ba y.nm), .int .i64 y.st, .int .i64 y.am, .int .i64 y.du, .string (ba y.po), .string (ba y.pa)] rfl (Blk.fresh (by simp) rfl) rfl (fun u hu => by simp at hu; rcases hu with rfl | rfl | rfl | rfl | rfl | rfl <;> rfl) (by (try simp); omega) (by (try simp); omega) ?_; intro v6 w6 ho6 hg6; have HO6 := Lib.hid ho6; have HX6 : Hid (Below (w4.heap.size + 1) (w4.alloc (.cells #[.string (ba f.nm), .int .i64 f.st, .int .i64 f.am, .int .i64 f.du, .string (ba f.po), .string (ba f.pa)] 27)) w6) := Lib.hid (((HX.out.alloc hszr (.cells #[.string (ba y.nm), .int .i64 y.st, .int .i64 y.am, .int .i64 y.du, .string (ba y.po), .string (ba y.pa)] 27)).alloc (by (try simp); omega) _).grown hg6 (by (try simp); omega) (fun b hb => ((HO.out.alloc (.cells #[.string (ba y.nm), .int .i64 y.st, .int .i64 y.am, .int .i64 y.du, .string (ba y.po), .string (ba y.pa)] 27)).lt b hb).1)); have hsz6 : w4.heap.size + 1 ≤ w6.heap.size := (by have := HX6.out.size; simpa using this); clear ho6 hg6))
            go_roundw
            case rel => exact ⟨i + 1, xs ++ [y], false, by omega, by go_num, rfl, by (repeat rw [List.map_append]); exact HO6.out, by simpa using HP.out, HX6.out⟩
            case measure => simp [intOf]; omega
        · simp only [if_true] at hp
          by_cases hq : y.nm = x.nm
          · rw [if_pos hq] at hp
            have hb1 : (y.nm == x.nm) = true := by simpa using hq
            have HP := Lib.hid hp
            clear hp hq
            go_wp2_with (first
              | (refine wpList_load_mid rfl 27 (.tmp 29) rfl g (o + i * 6) rfl [.string (ba y.nm), .int .i64 y.st, .int .i64 y.am, .int .i64 y.du, .string (ba y.po), .string (ba y.pa)] _ HRg.out Try.underlying27 rfl (by kernel_rfl) ?_)
              | (refine wpList_load_blk rfl 27 (.tmp 3) rfl (w.heap.size + 1) rfl 27 [.string (ba x.nm), .int .i64 x.st, .int .i64 x.am, .int .i64 x.du, .string (ba x.po), .string (ba x.pa)] _ (by exact (H2.out.below HX.out (by have := hs4; simp; omega)).alloc _) Try.underlying27 rfl (by kernel_rfl) ?_)
              | (refine wpList_build_el rfl Try.el_lt (.tmp 55) rfl [.string (ba x.nm), .int .i64 x.st, .int .i64 x.am, .int .i64 x.du, .string (ba x.po), .string (ba x.pa)] rfl rfl ?_)
              | (at_builtin; refine wpList_append_el rfl Try.el_lt (.tmp 54) (.tmp 56) rfl (w4.heap.size + 1) _ (xs.map Lt.cells) rfl ((HO.out.alloc (.cells #[.string (ba y.nm), .int .i64 y.st, .int .i64 y.am, .int .i64 y.du, .string (ba y.po), .string (ba y.pa)] 27)).alloc _) _ [.string (ba x.nm), .int .i64 x.st, .int .i64 x.am, .int .i64 x.du, .string (ba x.po), .string (ba x.pa)] rfl (Blk.fresh (by simp) rfl) rfl (fun u hu => by simp at hu; rcases hu with rfl | rfl | rfl | rfl | rfl | rfl <;> rfl) (by (try simp); omega) (by (try simp); omega) ?_; intro v6 w6 ho6 hg6; have HO6 := Lib.hid ho6; have HX6 : Hid (Below (w4.heap.size + 1) (w4.alloc (.cells #[.string (ba f.nm), .int .i64 f.st, .int .i64 f.am, .int .i64 f.du, .string (ba f.po), .string (ba f.pa)] 27)) w6) := Lib.hid (((HX.out.alloc hszr (.cells #[.string (ba y.nm), .int .i64 y.st, .int .i64 y.am, .int .i64 y.du, .string (ba y.po), .string (ba y.pa)] 27)).alloc (by (try simp); omega) _).grown hg6 (by (try simp); omega) (fun b hb => ((HO.out.alloc (.cells #[.string (ba y.nm), .int .i64 y.st, .int .i64 y.am, .int .i64 y.du, .string (ba y.po), .string (ba y.pa)] 27)).lt b hb).1)); have HY6 : Hid (Blk w6 wr.heap.size 27 [.string (ba y.nm), .int .i64 y.st, .int .i64 y.am, .int .i64 y.du, .string (ba y.po), .string (ba y.pa)]) := Lib.hid (((Blk.fresh rfl rfl : Blk (wr.alloc (.cells #[.string (ba y.nm), .int .i64 y.st, .int .i64 y.am, .int .i64 y.du, .string (ba y.po), .string (ba y.pa)] 27)) wr.heap.size 27 [.string (ba y.nm), .int .i64 y.st, .int .i64 y.am, .int .i64 y.du, .string (ba y.po), .string (ba y.pa)]).alloc _).grown hg6 (fun e => by have := (HO.out.lt _ e.symm).2; omega)); have hsz6 : w4.heap.size + 1 ≤ w6.heap.size := (by have := HX6.out.size; simpa using this); clear ho6 hg6))
            go_roundw
            case rel => exact ⟨i + 1, xs ++ [x], true, by omega, by go_num, rfl, by (repeat rw [List.map_append]); exact HO6.out, by simpa using HP.out, HX6.out⟩
            case measure => simp [intOf]; omega
          · rw [if_neg hq] at hp
            have hb1 : (y.nm == x.nm) = false := by simpa using hq
            have HP := Lib.hid hp
            clear hp hq
            go_wp2_with (first
              | (refine wpList_load_mid rfl 27 (.tmp 29) rfl g (o + i * 6) rfl [.string (ba y.nm), .int .i64 y.st, .int .i64 y.am, .int .i64 y.du, .string (ba y.po), .string (ba y.pa)] _ HRg.out Try.underlying27 rfl (by kernel_rfl) ?_)
              | (refine wpList_build_el rfl Try.el_lt (.tmp 60) rfl [.string (ba y.nm), .int .i64 y.st, .int .i64 y.am, .int .i64 y.du, .string (ba y.po), .string (ba y.pa)] rfl rfl ?_)
              | (at_builtin; refine wpList_append_el rfl Try.el_lt (.tmp 59) (.tmp 61) rfl (w4.heap.size + 1) _ (xs.map Lt.cells) rfl ((HO.out.alloc (.cells #[.string (ba y.nm), .int .i64 y.st, .int .i64 y.am, .int .i64 y.du, .string (ba y.po), .string (ba y.pa)] 27)).alloc _) _ [.string (ba y.nm), .int .i64 y.st, .int .i64 y.am, .int .i64 y.du, .string (ba y.po), .string (ba y.pa)] rfl (Blk.fresh (by simp) rfl) rfl (fun u hu => by simp at hu; rcases hu with rfl | rfl | rfl | rfl | rfl | rfl <;> rfl) (by (try simp); omega) (by (try simp); omega) ?_; intro v6 w6 ho6 hg6; have HO6 := Lib.hid ho6; have HX6 : Hid (Below (w4.heap.size + 1) (w4.alloc (.cells #[.string (ba f.nm), .int .i64 f.st, .int .i64 f.am, .int .i64 f.du, .string (ba f.po), .string (ba f.pa)] 27)) w6) := Lib.hid (((HX.out.alloc hszr (.cells #[.string (ba y.nm), .int .i64 y.st, .int .i64 y.am, .int .i64 y.du, .string (ba y.po), .string (ba y.pa)] 27)).alloc (by (try simp); omega) _).grown hg6 (by (try simp); omega) (fun b hb => ((HO.out.alloc (.cells #[.string (ba y.nm), .int .i64 y.st, .int .i64 y.am, .int .i64 y.du, .string (ba y.po), .string (ba y.pa)] 27)).lt b hb).1)); have hsz6 : w4.heap.size + 1 ≤ w6.heap.size := (by have := HX6.out.size; simpa using this); clear ho6 hg6))
            go_roundw
            case rel => exact ⟨i + 1, xs ++ [y], false, by omega, by go_num, rfl, by (repeat rw [List.map_append]); exact HO6.out, by simpa using HP.out, HX6.out⟩
            case measure => simp [intOf]; omega
      · simp only [if_true] at hp
        have HP := Lib.hid hp
        clear hp
        go_wp2_with (first
          | (refine wpList_load_mid rfl 27 (.tmp 29) rfl g (o + i * 6) rfl [.string (ba y.nm), .int .i64 y.st, .int .i64 y.am, .int .i64 y.du, .string (ba y.po), .string (ba y.pa)] _ HRg.out Try.underlying27 rfl (by kernel_rfl) ?_)
          | (refine wpList_build_el rfl Try.el_lt (.tmp 60) rfl [.string (ba y.nm), .int .i64 y.st, .int .i64 y.am, .int .i64 y.du, .string (ba y.po), .string (ba y.pa)] rfl rfl ?_)
          | (at_builtin; refine wpList_append_el rfl Try.el_lt (.tmp 59) (.tmp 61) rfl (w4.heap.size + 1) _ (xs.map Lt.cells) rfl ((HO.out.alloc (.cells #[.string (ba y.nm), .int .i64 y.st, .int .i64 y.am, .int .i64 y.du, .string (ba y.po), .string (ba y.pa)] 27)).alloc _) _ [.string (ba y.nm), .int .i64 y.st, .int .i64 y.am, .int .i64 y.du, .string (ba y.po), .string (ba y.pa)] rfl (Blk.fresh (by simp) rfl) rfl (fun u hu => by simp at hu; rcases hu with rfl | rfl | rfl | rfl | rfl | rfl <;> rfl) (by (try simp); omega) (by (try simp); omega) ?_; intro v6 w6 ho6 hg6; have HO6 := Lib.hid ho6; have HX6 : Hid (Below (w4.heap.size + 1) (w4.alloc (.cells #[.string (ba f.nm), .int .i64 f.st, .int .i64 f.am, .int .i64 f.du, .string (ba f.po), .string (ba f.pa)] 27)) w6) := Lib.hid (((HX.out.alloc hszr (.cells #[.string (ba y.nm), .int .i64 y.st, .int .i64 y.am, .int .i64 y.du, .string (ba y.po), .string (ba y.pa)] 27)).alloc (by (try simp); omega) _).grown hg6 (by (try simp); omega) (fun b hb => ((HO.out.alloc (.cells #[.string (ba y.nm), .int .i64 y.st, .int .i64 y.am, .int .i64 y.du, .string (ba y.po), .string (ba y.pa)] 27)).lt b hb).1)); have hsz6 : w4.heap.size + 1 ≤ w6.heap.size := (by have := HX6.out.size; simpa using this); clear ho6 hg6))
        go_roundw
        case rel => exact ⟨i + 1, xs ++ [y], true, by omega, by go_num, rfl, by (repeat rw [List.map_append]); exact HO6.out, by simpa using HP.out, HX6.out⟩
        case measure => simp [intOf]; omega
    · have hl : l.ls.drop i = [] := List.drop_of_length_le (by have := HI.out.len; omega)
      rw [hl] at hp
      clear hl
      have HWr : Hid (Below w.heap.size w wr) := Lib.hid (((below3 w (.cells #[.int .i64 l.sq, .int .i64 l.tt, .slice A n c, .slice B m d] 25) (.cells #[.string (ba x.nm), .int .i64 x.st, .int .i64 x.am, .int .i64 x.du, .string (ba x.po), .string (ba x.pa)] 27) (.cells #[.int .i64 0, .int .i64 0, .slice none 0 0, .slice none 0 0] 25)).trans (HX4.out.mono (by omega))).trans (HX.out.mono (by have := hs4; omega)))
      have HOr := HO
      have HXr := HX
      cases p
      · have hq : xs ++ [x] = r := by simpa [putL] using hp
        by_cases hfull : 16 < r.length
        · have eP := HPp.out
          rw [if_pos hfull] at eP
          subst eP
          have hfl := congrArg List.length hq
          simp only [List.length_append, List.length_singleton] at hfl
          clear hp
          go_wp2_with (first
            | (refine wpList_load_blk rfl 27 (.tmp 3) rfl (w.heap.size + 1) rfl 27 [.string (ba x.nm), .int .i64 x.st, .int .i64 x.am, .int .i64 x.du, .string (ba x.po), .string (ba x.pa)] _ (H2.out.below HX.out (by have := hs4; simp; omega)) Try.underlying27 rfl (by kernel_rfl) ?_)
            | (refine wpList_build_el rfl Try.el_lt (.tmp 67) rfl [.string (ba x.nm), .int .i64 x.st, .int .i64 x.am, .int .i64 x.du, .string (ba x.po), .string (ba x.pa)] rfl rfl ?_)
            | (at_builtin; refine wpList_append_el rfl Try.el_lt (.tmp 66) (.tmp 68) rfl (w4.heap.size + 1) _ (xs.map Lt.cells) rfl (HO.out.alloc _) _ [.string (ba x.nm), .int .i64 x.st, .int .i64 x.am, .int .i64 x.du, .string (ba x.po), .string (ba x.pa)] rfl (Blk.fresh (by simp) rfl) rfl (fun u hu => by simp at hu; rcases hu with rfl | rfl | rfl | rfl | rfl | rfl <;> rfl) (by simp; omega) (by simp; omega) ?_; intro v6 w6 ho6 hg6; have HX6 : Hid (Below (w4.heap.size + 1) (w4.alloc (.cells #[.string (ba f.nm), .int .i64 f.st, .int .i64 f.am, .int .i64 f.du, .string (ba f.po), .string (ba f.pa)] 27)) w6) := Lib.hid ((HX.out.alloc hszr _).grown hg6 (by simp; omega) (fun b hb => (HO.out.lt b hb).1)); have HW6 : Hid (Below w.heap.size w w6) := Lib.hid (((below3 w (.cells #[.int .i64 l.sq, .int .i64 l.tt, .slice A n c, .slice B m d] 25) (.cells #[.string (ba x.nm), .int .i64 x.st, .int .i64 x.am, .int .i64 x.du, .string (ba x.po), .string (ba x.pa)] 27) (.cells #[.int .i64 0, .int .i64 0, .slice none 0 0, .slice none 0 0] 25)).trans (HX4.out.mono (by omega))).trans (HX6.out.mono (by have := hs4; omega))); have hfm := ho6.out'; obtain ⟨A6, n6, c6, rfl, hn6⟩ := hfm; have HO6 := Lib.hid ho6; have hdf : decide (16 < (n6 : Int)) = true := (by simp at hn6 ⊢; omega); have HN6 := Lib.hid hn6; clear hn6 hfl; clear ho6 hg6)
            | (refine wpList_store_blk rfl 25 (.tmp 4) (.tmp 73) rfl (w.heap.size + 2) [.int .i64 0, .int .i64 0, .slice none 0 0, .slice none 0 0] rfl rfl 25 [.int .i64 0, .int .i64 0, .slice none 0 0, .slice none 0 0] (H3.out.below HX6.out (by have := hs4; simp; omega)) (by kernel_rfl) rfl (one4 _ _ _ _ _ _ _ _) ?_; intro wd hbd hgd; have HRd := Lib.hid hbd; have HXd : Hid (Below w.heap.size w wd) := Lib.hid (HW6.out.grown hgd HW6.out.size (fun k hk => by have := Option.some.inj hk; omega)); clear hbd hgd))
          (try simp only [Exit.inBlock, Exit.then]); refine bodyPost_ret (results_cell_row_tmp1 rfl _ _ (w.heap.size + 2) 25 _ (0, 0) _ rfl HRd.out Try.underlying25 rfl (by kernel_rfl)) rfl ?_
          exact ⟨none, 0, 0, none, 0, 0, rfl, ⟨Sl.none_, Sl.none_⟩, HXd.out⟩
        · have eP := HPp.out
          rw [if_neg hfull] at eP
          subst eP
          have hfl := congrArg List.length hq
          simp only [List.length_append, List.length_singleton] at hfl
          have HQ := Lib.hid hq
          clear hp hq
          go_wp2_with (first
            | (refine wpList_load_blk rfl 27 (.tmp 3) rfl (w.heap.size + 1) rfl 27 [.string (ba x.nm), .int .i64 x.st, .int .i64 x.am, .int .i64 x.du, .string (ba x.po), .string (ba x.pa)] _ (H2.out.below HX.out (by have := hs4; simp; omega)) Try.underlying27 rfl (by kernel_rfl) ?_)
            | (refine wpList_build_el rfl Try.el_lt (.tmp 67) rfl [.string (ba x.nm), .int .i64 x.st, .int .i64 x.am, .int .i64 x.du, .string (ba x.po), .string (ba x.pa)] rfl rfl ?_)
            | (at_builtin; refine wpList_append_el rfl Try.el_lt (.tmp 66) (.tmp 68) rfl (w4.heap.size + 1) _ (xs.map Lt.cells) rfl (HO.out.alloc _) _ [.string (ba x.nm), .int .i64 x.st, .int .i64 x.am, .int .i64 x.du, .string (ba x.po), .string (ba x.pa)] rfl (Blk.fresh (by simp) rfl) rfl (fun u hu => by simp at hu; rcases hu with rfl | rfl | rfl | rfl | rfl | rfl <;> rfl) (by simp; omega) (by simp; omega) ?_; intro v6 w6 ho6 hg6; have HX6 : Hid (Below (w4.heap.size + 1) (w4.alloc (.cells #[.string (ba f.nm), .int .i64 f.st, .int .i64 f.am, .int .i64 f.du, .string (ba f.po), .string (ba f.pa)] 27)) w6) := Lib.hid ((HX.out.alloc hszr _).grown hg6 (by simp; omega) (fun b hb => (HO.out.lt b hb).1)); have HW6 : Hid (Below w.heap.size w w6) := Lib.hid (((below3 w (.cells #[.int .i64 l.sq, .int .i64 l.tt, .slice A n c, .slice B m d] 25) (.cells #[.string (ba x.nm), .int .i64 x.st, .int .i64 x.am, .int .i64 x.du, .string (ba x.po), .string (ba x.pa)] 27) (.cells #[.int .i64 0, .int .i64 0, .slice none 0 0, .slice none 0 0] 25)).trans (HX4.out.mono (by omega))).trans (HX6.out.mono (by have := hs4; omega))); have hfm := ho6.out'; obtain ⟨A6, n6, c6, rfl, hn6⟩ := hfm; have HO6 := Lib.hid ho6; have hdf : decide (16 < (n6 : Int)) = false := (by simp at hn6 ⊢; omega); have HN6 := Lib.hid hn6; clear hn6 hfl; clear ho6 hg6)
            | (refine wpList_store_cell rfl 22 (.tmp 75) (.tmp 74) rfl w.heap.size 2 rfl (.slice A6 n6 c6) rfl rfl rfl (fun w => by kernel_rfl) 25 [.int .i64 l.sq, .int .i64 l.tt, .slice A n c, .slice B m d] (H1.out.below HX6.out (by have := hs4; simp; omega)) (by simp) ?_; intro wc hbc hgc; have H1c : Hid (Blk wc w.heap.size 25 [.int .i64 l.sq, .int .i64 l.tt, .slice A6 n6 c6, .slice B m d]) := Lib.hid hbc; have H3c := Lib.hid ((H3.out.below HX6.out (by have := hs4; simp; omega)).grown hgc (by simp)); have HXc : Hid (Below w.heap.size w wc) := Lib.hid (HW6.out.grown hgc HW6.out.size (fun k hk => by have := Option.some.inj hk; omega)); have HOc := Lib.hid (HO6.out.far hgc (by have := hs4; simp; omega)); clear hbc hgc)
            | (refine wpList_load_blk rfl 25 (.tmp 2) rfl w.heap.size rfl 25 [.int .i64 l.sq, .int .i64 l.tt, .slice A6 n6 c6, .slice B m d] _ H1c.out Try.underlying25 rfl (by kernel_rfl) ?_)
            | (refine wpList_store_blk rfl 25 (.tmp 4) (.tmp 76) rfl (w.heap.size + 2) [.int .i64 l.sq, .int .i64 l.tt, .slice A6 n6 c6, .slice B m d] rfl rfl 25 [.int .i64 0, .int .i64 0, .slice none 0 0, .slice none 0 0] H3c.out (by kernel_rfl) rfl (one4 _ _ _ _ _ _ _ _) ?_; intro wd hbd hgd; have HRd := Lib.hid hbd; have HXd : Hid (Below w.heap.size w wd) := Lib.hid (HXc.out.grown hgd HXc.out.size (fun k hk => by have := Option.some.inj hk; omega)); have HOd := Lib.hid (HOc.out.far hgd (by have := hs4; simp; omega)); clear hbd hgd))
          (try simp only [Exit.inBlock, Exit.then]); refine bodyPost_ret (results_cell_row_tmp1 rfl _ _ (w.heap.size + 2) 25 _ (0, 0) _ rfl HRd.out Try.underlying25 rfl (by kernel_rfl)) rfl ?_
          have hS := HOd.out.sl rfl
          have hS2 : Sl wd 6 A6 n6 (r.map Lt.cells) := by rw [← HQ.out, List.map_append]; exact hS
          exact ⟨A6, n6, c6, B, m, d, rfl, ⟨hS2, (HI.out.through HXd.out).2⟩, HXd.out⟩
      · have hq : xs = r := by simpa using hp
        subst hq
        obtain ⟨A6, n6, c6, rfl, hn6⟩ := HO.out.out'
        by_cases hfull : 16 < xs.length
        · have eP := HPp.out
          rw [if_pos hfull] at eP
          subst eP
          have hdf : decide (16 < (n6 : Int)) = true := by simp at hn6 ⊢; omega
          have HN6 := Lib.hid hn6
          clear hp hn6
          go_wp2_with (first
            | (refine wpList_store_blk rfl 25 (.tmp 4) (.tmp 73) rfl (w.heap.size + 2) [.int .i64 0, .int .i64 0, .slice none 0 0, .slice none 0 0] rfl rfl 25 [.int .i64 0, .int .i64 0, .slice none 0 0, .slice none 0 0] (H3.out.below HXr.out (by have := hs4; simp; omega)) (by kernel_rfl) rfl (one4 _ _ _ _ _ _ _ _) ?_; intro wd hbd hgd; have HRd := Lib.hid hbd; have HXd : Hid (Below w.heap.size w wd) := Lib.hid (HWr.out.grown hgd HWr.out.size (fun k hk => by have := Option.some.inj hk; omega)); clear hbd hgd))
          (try simp only [Exit.inBlock, Exit.then]); refine bodyPost_ret (results_cell_row_tmp1 rfl _ _ (w.heap.size + 2) 25 _ (0, 0) _ rfl HRd.out Try.underlying25 rfl (by kernel_rfl)) rfl ?_
          exact ⟨none, 0, 0, none, 0, 0, rfl, ⟨Sl.none_, Sl.none_⟩, HXd.out⟩
        · have eP := HPp.out
          rw [if_neg hfull] at eP
          subst eP
          have hdf : decide (16 < (n6 : Int)) = false := by simp at hn6 ⊢; omega
          have HN6 := Lib.hid hn6
          clear hp hn6
          go_wp2_with (first
            | (refine wpList_store_cell rfl 22 (.tmp 75) (.tmp 74) rfl w.heap.size 2 rfl (.slice A6 n6 c6) rfl rfl rfl (fun w => by kernel_rfl) 25 [.int .i64 l.sq, .int .i64 l.tt, .slice A n c, .slice B m d] (H1.out.below HXr.out (by have := hs4; simp; omega)) (by simp) ?_; intro wc hbc hgc; have H1c : Hid (Blk wc w.heap.size 25 [.int .i64 l.sq, .int .i64 l.tt, .slice A6 n6 c6, .slice B m d]) := Lib.hid hbc; have H3c := Lib.hid ((H3.out.below HXr.out (by have := hs4; simp; omega)).grown hgc (by simp)); have HXc : Hid (Below w.heap.size w wc) := Lib.hid (HWr.out.grown hgc HWr.out.size (fun k hk => by have := Option.some.inj hk; omega)); have HOc := Lib.hid (HOr.out.far hgc (by have := hs4; simp; omega)); clear hbc hgc)
            | (refine wpList_load_blk rfl 25 (.tmp 2) rfl w.heap.size rfl 25 [.int .i64 l.sq, .int .i64 l.tt, .slice A6 n6 c6, .slice B m d] _ H1c.out Try.underlying25 rfl (by kernel_rfl) ?_)
            | (refine wpList_store_blk rfl 25 (.tmp 4) (.tmp 76) rfl (w.heap.size + 2) [.int .i64 l.sq, .int .i64 l.tt, .slice A6 n6 c6, .slice B m d] rfl rfl 25 [.int .i64 0, .int .i64 0, .slice none 0 0, .slice none 0 0] H3c.out (by kernel_rfl) rfl (one4 _ _ _ _ _ _ _ _) ?_; intro wd hbd hgd; have HRd := Lib.hid hbd; have HXd : Hid (Below w.heap.size w wd) := Lib.hid (HXc.out.grown hgd HXc.out.size (fun k hk => by have := Option.some.inj hk; omega)); have HOd := Lib.hid (HOc.out.far hgd (by have := hs4; simp; omega)); clear hbd hgd))
          (try simp only [Exit.inBlock, Exit.then]); refine bodyPost_ret (results_cell_row_tmp1 rfl _ _ (w.heap.size + 2) 25 _ (0, 0) _ rfl HRd.out Try.underlying25 rfl (by kernel_rfl)) rfl ?_
          have hS := HOd.out.sl rfl
          exact ⟨A6, n6, c6, B, m, d, rfl, ⟨hS, (HI.out.through HXd.out).2⟩, HXd.out⟩

end Go.Proofs.Ytkbeodlihmmdbaa
