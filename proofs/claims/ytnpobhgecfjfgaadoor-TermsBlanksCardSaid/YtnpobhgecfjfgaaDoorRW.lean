/-
  The document's row, over whatever its policy answers.
-/
import Derived.Test.YtnpobhgecfjfgaaDoorRN
import Derived.Test.YtnpobhgecfjfgaaDoorKR
import Derived.RegionTactic
import Derived.ChangeAlike
namespace Go.Proofs.YtnpobhgecfjfgaaDoor
open Go.RowKit

def PolOut (B : Nat) (r : Option (Fm × List UInt8)) (e : Ending) (w' : World) : Prop :=
  match r with
  | none => ∃ o a A n c s, e = .returned (.tuple #[.agg #[.int .i64 o, .int .i64 a, .slice A n c], .string s, .bool false])
  | some (f, r) => ∃ A n c, e = .returned (.tuple #[f.val A n c, .string (ba r), .bool true]) ∧ f.In w' (B ≤ ·) A n
def RowOut (B : Nat) (r : Option (List Fm × List UInt8)) (e : Ending) (w' : World) : Prop :=
  match r with
  | none => ∃ A n c s, e = .returned (.tuple #[.slice A n c, .string s, .bool false])
  | some (l, r) => ∃ A c, e = .returned (.tuple #[.slice A l.length c, .string (ba r), .bool true]) ∧ ∀ o a, (Fm.mk o a l).In w' (B ≤ ·) A l.length
theorem PolOut.bad {B : Nat} {r : Option (Fm × List UInt8)} {e : Ending} {w' : World} (h : PolOut B r e w') (hr : r = none) : ∃ o a A n c s, e = .returned (.tuple #[.agg #[.int .i64 o, .int .i64 a, .slice A n c], .string s, .bool false]) := by
  subst hr; exact h
theorem PolOut.good {B : Nat} {r : Option (Fm × List UInt8)} {e : Ending} {w' : World} {f : Fm} {t : List UInt8} (h : PolOut B r e w') (hr : r = some (f, t)) : ∃ A n c, e = .returned (.tuple #[.agg #[.int .i64 f.org, .int .i64 f.nd, .slice A n c], .string (ba t), .bool true]) ∧ f.In w' (B ≤ ·) A n := by
  subst hr; exact h
theorem RowOut.bad {B : Nat} {r : Option (List Fm × List UInt8)} {e : Ending} {w' : World} (h : RowOut B r e w') (hr : r = none) : ∃ A n c s, e = .returned (.tuple #[.slice A n c, .string s, .bool false]) := by
  subst hr; exact h
theorem RowOut.good {B : Nat} {r : Option (List Fm × List UInt8)} {e : Ending} {w' : World} {l : List Fm} {t : List UInt8} (h : RowOut B r e w') (hr : r = some (l, t)) : ∃ A c, e = .returned (.tuple #[.slice A l.length c, .string (ba t), .bool true]) ∧ ∀ o a, (Fm.mk o a l).In w' (B ≤ ·) A l.length := by
  subst hr; exact h
theorem RowOut.mk_bad {B : Nat} {r : Option (List Fm × List UInt8)} {w' : World} {A : Option Addr} {n c : Nat} {s : ByteArray} (hr : r = none) : RowOut B r (.returned (.tuple #[.slice A n c, .string s, .bool false])) w' := by
  subst hr; exact ⟨A, n, c, s, rfl⟩
theorem RowOut.mk_good {B : Nat} {r : Option (List Fm × List UInt8)} {w' : World} {v : Value} {l : List Fm} {t : List UInt8} (hr : r = some (l, t)) (h : Kids w' B v l) : RowOut B r (.returned (.tuple #[v, .string (ba t), .bool true])) w' := by
  subst hr
  obtain ⟨A, c, rfl, h2⟩ := h.out
  exact ⟨A, c, rfl, h2⟩
theorem begP_split {x : UInt8} {t : List UInt8} (h : begP [x] t = true) : t = x :: t.drop 1 := by
  cases t with
  | nil => cases h
  | cons y t =>
    rw [begP_cons, begP_nil] at h
    simp at h
    subst h
    rfl

/-- what the loop has found so far, and will find -/
def preP (l : List Fm) : Option (List Fm × List UInt8) → Option (List Fm × List UInt8) | none => none | some (l', r) => some (l ++ l', r)

set_option maxHeartbeats 8000000 in
set_option maxRecDepth 100000 in
theorem row_any (k : Nat) (d : Int) (hd : 0 ≤ d ∧ d ≤ 10)
    (hP : ∀ (t : List UInt8) (w : World), t.length ≤ 1000 → Calls Tryd.prog 17 #[.string (ba t), .int .i64 (d + 1)] w fun e w' => PolOut w.heap.size (polP k t) e w' ∧ Below w.heap.size w w')
    (t : List UInt8) (w : World) (ht : t.length ≤ 1000) :
    Calls Tryd.prog 36 #[.string (ba t), .int .i64 d] w fun e w' => RowOut w.heap.size (rowP (polP k) t) e w' ∧ Below w.heap.size w w' := by
  have HP := Lib.hid hP
  have hbg : ∀ x t W, Calls Tryd.prog 35 #[.string (ba t), .string ⟨#[x]⟩] W fun e w' => e = .returned (.bool (begP [x] t)) ∧ W = w' := fun x t W => begins_any t [x] W
  have HG := Lib.hid hbg
  clear hP hbg
  obtain ⟨i0, hi, hz0, hz1, hz2⟩ := info_parts Tryd.info_fm3
  go_enter Tryd.func36, Tryd.ntmps36
  cases h40 : begP [40] (bareP t) with
  | false =>
    have hR : rowP (polP k) t = none := by unfold rowP; rw [h40]; rfl
    have HR := Lib.hid hR
    clear hR
    go_wp2_with (first
      | (go_at_call 18; (with_reducible refine (bare_any _ _).mono ?_); rintro e w1 ⟨rfl, rfl⟩)
      | (go_at_call 35; (with_reducible refine (HG.out _ _ _).mono ?_); rintro e w2 ⟨rfl, rfl⟩))
    (try simp only [Exit.inBlock, Exit.then]); refine bodyPost_ret (results_tmp3 rfl _ _ _) rfl ?_
    exact ⟨RowOut.mk_bad HR.out, Below.refl _ _⟩
  | true =>
    have hbl := bareP_len t
    have hsp := begP_split h40
    have hR : rowP (polP k) t = preP [] (loopP (polP k) (bareP t).length (bareP t)) := by
      unfold rowP
      rw [h40, if_pos rfl]
      cases loopP (polP k) (bareP t).length (bareP t) with
      | none => rfl
      | some q => rfl
    have h1 : 1 ≤ (bareP t).length := by rw [hsp]; simp
    clear hsp
    have HR := Lib.hid hR
    clear hR
    go_wp2_with (first
      | (go_at_call 18; (with_reducible refine (bare_any _ _).mono ?_); rintro e w1 ⟨rfl, rfl⟩)
      | (go_at_call 35; (with_reducible refine (HG.out _ _ _).mono ?_); rintro e w2 ⟨rfl, rfl⟩))
    go_loopw [0, 7] (fun tv sv wr => ∃ (u : List UInt8) (l : List Fm) (m : Nat) (ov : Value), tv = .string (ba u) ∧ ov = sv ∧ 1 ≤ u.length ∧ u.length ≤ m ∧ l.length + u.length ≤ t.length ∧ Kids wr w.heap.size ov l ∧ Below w.heap.size w wr ∧ Hid (rowP (polP k) t = preP l (loopP (polP k) m u))) (fun tv _ _ => match tv with | .string b => b.size | _ => 0)
    case atStart => exact ⟨bareP t, [], _, _, rfl, rfl, h1, Nat.le_refl _, by simpa using hbl, Kids.nil _ _, Below.refl _ _, HR⟩
    case round =>
      obtain ⟨u, l, m, ov, rfl, rfl, h1u, hum, hlu, hk, hb, hrw⟩ := hrel
      cases u with
      | nil => simp at h1u
      | cons x u =>
        cases m with
        | zero => simp at hum
        | succ m =>
          simp only [List.length_cons] at hum hlu
          have hsl := run_from_ba Tryd.underlying9 (x :: u) .i64 1 1 rfl (by simp)
          rw [List.drop_succ_cons, List.drop_zero] at hsl
          have hL := loopP_succ (polP k) m (x :: u)
          rw [List.drop_succ_cons, List.drop_zero] at hL
          have hcall : ∀ W, Calls Tryd.prog 17 #[.string (ba u), .int .i64 (d + 1)] W fun e w' => PolOut W.heap.size (polP k u) e w' ∧ Below W.heap.size W w' := fun W => HP.out u W (by omega)
          have HC := Lib.hid hcall
          have HK := Lib.hid hk
          have HX := Lib.hid hb
          clear hcall hk hb h1u
          cases hp : polP k u with
          | none =>
            rw [hp] at hL
            have hfin : rowP (polP k) t = none := by rw [hrw.out, hL]; rfl
            have HF := Lib.hid hfin
            have HPp := Lib.hid hp
            clear hfin hp hL hrw
            go_wp2_with (go_at_call 17; (with_reducible refine (HC.out _).mono ?_); rintro e w1 ⟨ho, hb⟩; obtain ⟨o, a, A, n, c, s, rfl⟩ := PolOut.bad ho HPp.out; have HX1 := Lib.hid (below_step HX.out hb); clear hb ho)
            (try simp only [Exit.inBlock, Exit.then]); refine bodyPost_ret (results_tmp3 rfl _ _ _) rfl ?_
            exact ⟨RowOut.mk_bad HF.out, HX1.out.alloc (by have := HX1.out.size; omega) _⟩
          | some q =>
            obtain ⟨f, r⟩ := q
            rw [hp] at hL
            simp only at hL
            obtain ⟨htk, _⟩ := polP_takes k u f r hp
            have hbr := bareP_len r
            have hfp := f.size_pos
            have hOB : ∀ b, ov.ownBlock = some b → b < wr.heap.size := fun b hb => by
              obtain ⟨xs, hO, _⟩ := HK.out
              exact (hO.lt b hb).2
            have HOB := Lib.hid hOB
            have HPp := Lib.hid hp
            clear hp hOB
            cases h41 : begP [41] (bareP r) with
            | true =>
              rw [h41, if_pos rfl] at hL
              have hfin : rowP (polP k) t = some (l ++ [f], (bareP r).drop 1) := by rw [hrw.out, hL]; rfl
              have HF := Lib.hid hfin
              clear hfin hL hrw
              have hsp := begP_split h41
              have hsl2 := run_from_ba Tryd.underlying9 (bareP r) .i64 1 1 rfl (by rw [hsp]; simp)
              clear hsp
              go_wp2_with (first
              | (go_at_call 17; (with_reducible refine (HC.out _).mono ?_); rintro e w1 ⟨ho, hb⟩; obtain ⟨A, n, c, rfl, hf⟩ := PolOut.good ho HPp.out; obtain ⟨xs, hO, hQ⟩ := HK.out.through hb; have HXb := Lib.hid hb; have HX1 := Lib.hid (below_step HX.out hb); have HFI := Lib.hid hf; have HO := Lib.hid ((hO.alloc (.cells #[.int .i64 f.org, .int .i64 f.nd, .slice A n c] 25)).alloc (.cells #[.int .i64 f.org, .int .i64 f.nd, .slice A n c] 25)); have HQ := Lib.hid hQ; have HB8 : Hid (Blk (w1.alloc (.cells #[.int .i64 f.org, .int .i64 f.nd, .slice A n c] 25)) w1.heap.size 25 [.int .i64 f.org, .int .i64 f.nd, .slice A n c]) := Lib.hid (Blk.fresh rfl rfl); clear hb ho hf hO hQ)
              | (refine wpList_load_blk rfl 25 (.tmp 8) rfl w1.heap.size rfl 25 [.int .i64 f.org, .int .i64 f.nd, .slice A n c] _ HB8.out Tryd.underlying25 rfl (by kernel_rfl) ?_)
              | (refine wpList_build_fm rfl (.tmp 30) rfl [.int .i64 f.org, .int .i64 f.nd, .slice A n c] rfl rfl ?_)
              | (at_builtin; refine wpList_append_lies _ rfl (.tmp 29) (.tmp 31) 23 rfl w.heap.size 25 i0 _ 3 40 Tryd.underlying23 hi hz0 hz1 hz2 rfl (by decide) ov l.length xs rfl HO.out ⟨(w1.alloc (.cells #[.int .i64 f.org, .int .i64 f.nd, .slice A n c] 25)).heap.size, 0, none⟩ 1 1 [.int .i64 f.org, .int .i64 f.nd, .slice A n c] rfl rfl (row_cell' (w := (w1.alloc (.cells #[.int .i64 f.org, .int .i64 f.nd, .slice A n c] 25)).alloc (.cells #[.int .i64 f.org, .int .i64 f.nd, .slice A n c] 25)) (Blk.fresh rfl rfl)) (fun u hu => by simp at hu; rcases hu with rfl | rfl | rfl <;> rfl) (by omega) (by unfold maxLen; omega) (by omega) (by have := HX1.out.size; simp; omega) _ rfl ?_; intro gk cap w4 ho4 hg4 hat hlt; have HK4 := Lib.hid (Kids.snoc HFI.out HX.out.size HOB.out ((Below.refl w1.heap.size w1).alloc (Nat.le_refl _) (.cells #[.int .i64 f.org, .int .i64 f.nd, .slice A n c] 25) |>.alloc (by simp) (.cells #[.int .i64 f.org, .int .i64 f.nd, .slice A n c] 25)) HQ.out ho4 hg4 hat); have HX4 : Hid (Below w.heap.size w w4) := Lib.hid ((((HX1.out.alloc (by have := HX1.out.size; omega) (.cells #[.int .i64 f.org, .int .i64 f.nd, .slice A n c] 25)).alloc (by have := HX1.out.size; simp; omega) (.cells #[.int .i64 f.org, .int .i64 f.nd, .slice A n c] 25)).grown hg4 (by have := HX1.out.size; simp; omega) (fun k hk => (HO.out.lt k hk).1))); clear ho4 hg4 hat hlt)
              | (go_at_call 18; (with_reducible refine (bare_any _ _).mono ?_); rintro e w5 ⟨rfl, rfl⟩)
              | (go_at_call 35; (with_reducible refine (HG.out _ _ _).mono ?_); rintro e w5 ⟨rfl, rfl⟩; (try rw [h41]); (try rw [h44])))
              go_region
              go_wp2
              (try simp only [Exit.inBlock, Exit.then]); refine bodyPost_ret (results_tmp3 rfl _ _ _) rfl ?_
              exact ⟨RowOut.mk_good (HF.out.trans (by rw [List.drop_one])) HK4.out.drew, HX4.out.drew⟩
            | false =>
              rw [h41, if_neg (by simp)] at hL
              cases h44 : begP [44] (bareP r) with
              | true =>
                rw [h44, if_pos rfl] at hL
                have hfin : rowP (polP k) t = preP (l ++ [f]) (loopP (polP k) m (bareP r)) := by
                  rw [hrw.out, hL]
                  cases loopP (polP k) m (bareP r) with
                  | none => rfl
                  | some q => simp [preP]
                have HF := Lib.hid hfin
                have hsp := begP_split h44
                have h1b : 1 ≤ (bareP r).length := by rw [hsp]; simp
                clear hfin hL hrw hsp
                go_wp2_with (first
              | (go_at_call 17; (with_reducible refine (HC.out _).mono ?_); rintro e w1 ⟨ho, hb⟩; obtain ⟨A, n, c, rfl, hf⟩ := PolOut.good ho HPp.out; obtain ⟨xs, hO, hQ⟩ := HK.out.through hb; have HXb := Lib.hid hb; have HX1 := Lib.hid (below_step HX.out hb); have HFI := Lib.hid hf; have HO := Lib.hid ((hO.alloc (.cells #[.int .i64 f.org, .int .i64 f.nd, .slice A n c] 25)).alloc (.cells #[.int .i64 f.org, .int .i64 f.nd, .slice A n c] 25)); have HQ := Lib.hid hQ; have HB8 : Hid (Blk (w1.alloc (.cells #[.int .i64 f.org, .int .i64 f.nd, .slice A n c] 25)) w1.heap.size 25 [.int .i64 f.org, .int .i64 f.nd, .slice A n c]) := Lib.hid (Blk.fresh rfl rfl); clear hb ho hf hO hQ)
              | (refine wpList_load_blk rfl 25 (.tmp 8) rfl w1.heap.size rfl 25 [.int .i64 f.org, .int .i64 f.nd, .slice A n c] _ HB8.out Tryd.underlying25 rfl (by kernel_rfl) ?_)
              | (refine wpList_build_fm rfl (.tmp 30) rfl [.int .i64 f.org, .int .i64 f.nd, .slice A n c] rfl rfl ?_)
              | (at_builtin; refine wpList_append_lies _ rfl (.tmp 29) (.tmp 31) 23 rfl w.heap.size 25 i0 _ 3 40 Tryd.underlying23 hi hz0 hz1 hz2 rfl (by decide) ov l.length xs rfl HO.out ⟨(w1.alloc (.cells #[.int .i64 f.org, .int .i64 f.nd, .slice A n c] 25)).heap.size, 0, none⟩ 1 1 [.int .i64 f.org, .int .i64 f.nd, .slice A n c] rfl rfl (row_cell' (w := (w1.alloc (.cells #[.int .i64 f.org, .int .i64 f.nd, .slice A n c] 25)).alloc (.cells #[.int .i64 f.org, .int .i64 f.nd, .slice A n c] 25)) (Blk.fresh rfl rfl)) (fun u hu => by simp at hu; rcases hu with rfl | rfl | rfl <;> rfl) (by omega) (by unfold maxLen; omega) (by omega) (by have := HX1.out.size; simp; omega) _ rfl ?_; intro gk cap w4 ho4 hg4 hat hlt; have HK4 := Lib.hid (Kids.snoc HFI.out HX.out.size HOB.out ((Below.refl w1.heap.size w1).alloc (Nat.le_refl _) (.cells #[.int .i64 f.org, .int .i64 f.nd, .slice A n c] 25) |>.alloc (by simp) (.cells #[.int .i64 f.org, .int .i64 f.nd, .slice A n c] 25)) HQ.out ho4 hg4 hat); have HX4 : Hid (Below w.heap.size w w4) := Lib.hid ((((HX1.out.alloc (by have := HX1.out.size; omega) (.cells #[.int .i64 f.org, .int .i64 f.nd, .slice A n c] 25)).alloc (by have := HX1.out.size; simp; omega) (.cells #[.int .i64 f.org, .int .i64 f.nd, .slice A n c] 25)).grown hg4 (by have := HX1.out.size; simp; omega) (fun k hk => (HO.out.lt k hk).1))); clear ho4 hg4 hat hlt)
              | (go_at_call 18; (with_reducible refine (bare_any _ _).mono ?_); rintro e w5 ⟨rfl, rfl⟩)
              | (go_at_call 35; (with_reducible refine (HG.out _ _ _).mono ?_); rintro e w5 ⟨rfl, rfl⟩; (try rw [h41]); (try rw [h44])))
                go_round
                case rel => exact ⟨bareP r, l ++ [f], m, _, rfl, rfl, h1b, by omega, by simp; omega, HK4.out, HX4.out, HF⟩
                case measure => simp [ba_size]; omega
              | false =>
                rw [h44, if_neg (by simp)] at hL
                have hfin : rowP (polP k) t = none := by rw [hrw.out, hL]; rfl
                have HF := Lib.hid hfin
                clear hfin hL hrw
                go_wp2_with (first
              | (go_at_call 17; (with_reducible refine (HC.out _).mono ?_); rintro e w1 ⟨ho, hb⟩; obtain ⟨A, n, c, rfl, hf⟩ := PolOut.good ho HPp.out; obtain ⟨xs, hO, hQ⟩ := HK.out.through hb; have HXb := Lib.hid hb; have HX1 := Lib.hid (below_step HX.out hb); have HFI := Lib.hid hf; have HO := Lib.hid ((hO.alloc (.cells #[.int .i64 f.org, .int .i64 f.nd, .slice A n c] 25)).alloc (.cells #[.int .i64 f.org, .int .i64 f.nd, .slice A n c] 25)); have HQ := Lib.hid hQ; have HB8 : Hid (Blk (w1.alloc (.cells #[.int .i64 f.org, .int .i64 f.nd, .slice A n c] 25)) w1.heap.size 25 [.int .i64 f.org, .int .i64 f.nd, .slice A n c]) := Lib.hid (Blk.fresh rfl rfl); clear hb ho hf hO hQ)
              | (refine wpList_load_blk rfl 25 (.tmp 8) rfl w1.heap.size rfl 25 [.int .i64 f.org, .int .i64 f.nd, .slice A n c] _ HB8.out Tryd.underlying25 rfl (by kernel_rfl) ?_)
              | (refine wpList_build_fm rfl (.tmp 30) rfl [.int .i64 f.org, .int .i64 f.nd, .slice A n c] rfl rfl ?_)
              | (at_builtin; refine wpList_append_lies _ rfl (.tmp 29) (.tmp 31) 23 rfl w.heap.size 25 i0 _ 3 40 Tryd.underlying23 hi hz0 hz1 hz2 rfl (by decide) ov l.length xs rfl HO.out ⟨(w1.alloc (.cells #[.int .i64 f.org, .int .i64 f.nd, .slice A n c] 25)).heap.size, 0, none⟩ 1 1 [.int .i64 f.org, .int .i64 f.nd, .slice A n c] rfl rfl (row_cell' (w := (w1.alloc (.cells #[.int .i64 f.org, .int .i64 f.nd, .slice A n c] 25)).alloc (.cells #[.int .i64 f.org, .int .i64 f.nd, .slice A n c] 25)) (Blk.fresh rfl rfl)) (fun u hu => by simp at hu; rcases hu with rfl | rfl | rfl <;> rfl) (by omega) (by unfold maxLen; omega) (by omega) (by have := HX1.out.size; simp; omega) _ rfl ?_; intro gk cap w4 ho4 hg4 hat hlt; have HK4 := Lib.hid (Kids.snoc HFI.out HX.out.size HOB.out ((Below.refl w1.heap.size w1).alloc (Nat.le_refl _) (.cells #[.int .i64 f.org, .int .i64 f.nd, .slice A n c] 25) |>.alloc (by simp) (.cells #[.int .i64 f.org, .int .i64 f.nd, .slice A n c] 25)) HQ.out ho4 hg4 hat); have HX4 : Hid (Below w.heap.size w w4) := Lib.hid ((((HX1.out.alloc (by have := HX1.out.size; omega) (.cells #[.int .i64 f.org, .int .i64 f.nd, .slice A n c] 25)).alloc (by have := HX1.out.size; simp; omega) (.cells #[.int .i64 f.org, .int .i64 f.nd, .slice A n c] 25)).grown hg4 (by have := HX1.out.size; simp; omega) (fun k hk => (HO.out.lt k hk).1))); clear ho4 hg4 hat hlt)
              | (go_at_call 18; (with_reducible refine (bare_any _ _).mono ?_); rintro e w5 ⟨rfl, rfl⟩)
              | (go_at_call 35; (with_reducible refine (HG.out _ _ _).mono ?_); rintro e w5 ⟨rfl, rfl⟩; (try rw [h41]); (try rw [h44])))
                (try simp only [Exit.inBlock, Exit.then]); refine bodyPost_ret (results_tmp3 rfl _ _ _) rfl ?_
                exact ⟨RowOut.mk_bad HF.out, HX4.out⟩

end Go.Proofs.YtnpobhgecfjfgaaDoor
