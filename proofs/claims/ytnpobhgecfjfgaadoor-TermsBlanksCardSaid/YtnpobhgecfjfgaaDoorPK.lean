/-
  The program's kids, over whatever its policy answers.
-/
import Derived.Test.YtnpobhgecfjfgaaDoorPRun
import Derived.Test.YtnpobhgecfjfgaaDoorRW
namespace Go.Proofs.YtnpobhgecfjfgaaDoor
open Go.RowKit

def PQOut (g B : Nat) (r : Option (Fm × List UInt8)) (e : Ending) (w' : World) : Prop :=
  match r with
  | none => (∃ o a A n c, e = .returned (.tuple #[.agg #[.int .i64 o, .int .i64 a, .slice A n c], .bool false])) ∧ ∃ s : List UInt8, Blk w' g 39 [.string (ba s)]
  | some (f, r) => (∃ A n c, e = .returned (.tuple #[.agg #[.int .i64 f.org, .int .i64 f.nd, .slice A n c], .bool true]) ∧ f.In w' (B ≤ ·) A n) ∧ Blk w' g 39 [.string (ba r)]
def KQOut (g B : Nat) (r : Option (List Fm × List UInt8)) (e : Ending) (w' : World) : Prop :=
  match r with
  | none => (∃ A n c, e = .returned (.tuple #[.slice A n c, .bool false])) ∧ ∃ s : List UInt8, Blk w' g 39 [.string (ba s)]
  | some (l, r) => (∃ A c, e = .returned (.tuple #[.slice A l.length c, .bool true]) ∧ ∀ o a, (Fm.mk o a l).In w' (B ≤ ·) A l.length) ∧ Blk w' g 39 [.string (ba r)]
section
variable {g B : Nat} {e : Ending} {w' : World}
theorem PQOut.bad {r : Option (Fm × List UInt8)} (h : PQOut g B r e w') (hr : r = none) : (∃ o a A n c, e = .returned (.tuple #[.agg #[.int .i64 o, .int .i64 a, .slice A n c], .bool false])) ∧ ∃ s : List UInt8, Blk w' g 39 [.string (ba s)] := by
  subst hr; exact h
theorem PQOut.good {r : Option (Fm × List UInt8)} {f : Fm} {t : List UInt8} (h : PQOut g B r e w') (hr : r = some (f, t)) : (∃ A n c, e = .returned (.tuple #[.agg #[.int .i64 f.org, .int .i64 f.nd, .slice A n c], .bool true]) ∧ f.In w' (B ≤ ·) A n) ∧ Blk w' g 39 [.string (ba t)] := by
  subst hr; exact h
theorem PQOut.mk_bad {r : Option (Fm × List UInt8)} {o a : Int} {A : Option Addr} {n c : Nat} {s : List UInt8} (hr : r = none) (h : Blk w' g 39 [.string (ba s)]) : PQOut g B r (.returned (.tuple #[.agg #[.int .i64 o, .int .i64 a, .slice A n c], .bool false])) w' := by
  subst hr; exact ⟨⟨o, a, A, n, c, rfl⟩, s, h⟩
theorem PQOut.mk_good {r : Option (Fm × List UInt8)} {o a : Int} {ks : List Fm} {A : Option Addr} {n c : Nat} {t : List UInt8} (hr : r = some (.mk o a ks, t)) (h : (Fm.mk o a ks).In w' (B ≤ ·) A n) (hb : Blk w' g 39 [.string (ba t)]) : PQOut g B r (.returned (.tuple #[.agg #[.int .i64 o, .int .i64 a, .slice A n c], .bool true])) w' := by
  subst hr; exact ⟨⟨A, n, c, rfl, h⟩, hb⟩
theorem KQOut.bad {r : Option (List Fm × List UInt8)} (h : KQOut g B r e w') (hr : r = none) : (∃ A n c, e = .returned (.tuple #[.slice A n c, .bool false])) ∧ ∃ s : List UInt8, Blk w' g 39 [.string (ba s)] := by
  subst hr; exact h
theorem KQOut.good {r : Option (List Fm × List UInt8)} {l : List Fm} {t : List UInt8} (h : KQOut g B r e w') (hr : r = some (l, t)) : (∃ A c, e = .returned (.tuple #[.slice A l.length c, .bool true]) ∧ ∀ o a, (Fm.mk o a l).In w' (B ≤ ·) A l.length) ∧ Blk w' g 39 [.string (ba t)] := by
  subst hr; exact h
theorem KQOut.mk_bad {r : Option (List Fm × List UInt8)} {A : Option Addr} {n c : Nat} {s : List UInt8} (hr : r = none) (h : Blk w' g 39 [.string (ba s)]) : KQOut g B r (.returned (.tuple #[.slice A n c, .bool false])) w' := by
  subst hr; exact ⟨⟨A, n, c, rfl⟩, s, h⟩
theorem KQOut.mk_bad' {r : Option (List Fm × List UInt8)} {v : Value} {l : List Fm} {s : List UInt8} (hr : r = none) (hk : Kids w' B v l) (h : Blk w' g 39 [.string (ba s)]) : KQOut g B r (.returned (.tuple #[v, .bool false])) w' := by
  subst hr
  obtain ⟨A, c, rfl, _⟩ := hk.out
  exact ⟨⟨A, _, c, rfl⟩, s, h⟩
theorem KQOut.mk_good {r : Option (List Fm × List UInt8)} {v : Value} {l : List Fm} {t : List UInt8} (hr : r = some (l, t)) (hk : Kids w' B v l) (h : Blk w' g 39 [.string (ba t)]) : KQOut g B r (.returned (.tuple #[v, .bool true])) w' := by
  subst hr
  obtain ⟨A, c, rfl, h2⟩ := hk.out
  exact ⟨⟨A, c, rfl, h2⟩, h⟩
end
theorem EV.ne {w : World} {g : Nat} {s : ByteArray} (h : EV w) (hb : Blk w g 39 [.string s]) : g ≠ 0 := by
  rintro rfl
  obtain ⟨te, pe, h⟩ := h
  rw [hb.cellAt (i := 0) rfl] at h
  cases h
theorem only_row' {a b c : World} {g : Nat} {row : Option Nat} (h : a.grownBy b (some g)) (k : b.grownBy c row) (hr : ∀ j, row = some j → a.heap.size ≤ j) : a.grownBy c (some g) :=
  ⟨k.os.trans h.os, k.tape.trans h.tape, k.output.trans h.output, Nat.le_trans h.size k.size, fun i hi hne => by
    rw [k.block i (Nat.lt_of_lt_of_le hi h.size) (fun e => by have := hr i e.symm; omega), h.block i hi hne]⟩
/-- how much is left -/
def restAt (w : World) (g : Nat) : Nat := match w.cell? ⟨g, 0, none⟩ with | some (.string b) => b.size | _ => 0
theorem restAt_of {w : World} {g : Nat} {t : List UInt8} (h : Blk w g 39 [.string (ba t)]) : restAt w g = t.length := by
  unfold restAt
  rw [h.cellAt (i := 0) rfl]
  exact ba_size t
/-- what a policy takes, and that no blank is left ahead -/
theorem pro_takes {k : Nat} {t r : List UInt8} {f : Fm} (ht : bareP t = t) (h : proP k t = some (f, r)) : f.size + r.length ≤ t.length ∧ f.depth ≤ k ∧ bareP r = r ∧ ∃ r', polP k t = some (f, r') ∧ r = bareP r' := by
  have ha := pol_agrees k t
  rw [ht] at ha
  cases hp : polP k t with
  | none => rw [ha.2 hp] at h; cases h
  | some z =>
    obtain ⟨f', r'⟩ := z
    rcases ha.1 f' r' hp with e | ⟨e, _⟩
    · rw [e] at h
      simp only [Option.some.injEq, Prod.mk.injEq] at h
      obtain ⟨rfl, rfl⟩ := h
      have h1 := polP_takes k t _ _ hp
      have h2 := bareP_len r'
      exact ⟨by omega, h1.2, bareP_idem r', r', rfl, rfl⟩
    · rw [e] at h; cases h
theorem signR_bare (x : UInt8) (t : List UInt8) : bareP (signR x t) = signR x t := bareP_idem _
theorem loopQ_succ (p : List UInt8 → Option (Fm × List UInt8)) (n : Nat) (t : List UInt8) : loopQ p (n + 1) t = (match p t with
    | none => none
    | some (f, r) => if begP [44] r then (match loopQ p n (bareP (r.drop 1)) with | none => none | some (l, r') => some (f :: l, r'))
      else if begP [41] r then some ([f], bareP (r.drop 1)) else none) := rfl

set_option maxHeartbeats 8000000 in
set_option maxRecDepth 100000 in
theorem pkids_any (k : Nat) (d : Int) (g : Nat)
    (hP : ∀ (t : List UInt8) (w : World), Blk w g 39 [.string (ba t)] → EV w → t.length ≤ 1000 → Calls Tryd.prog 15 #[.pointer (some ⟨g, 0, none⟩), .int .i64 d] w fun e w' => PQOut g w.heap.size (proP k t) e w' ∧ w.grownBy w' (some g))
    (t : List UInt8) (w : World) (hb : Blk w g 39 [.string (ba t)]) (he : EV w) (ht : t.length ≤ 1000) :
    Calls Tryd.prog 30 #[.pointer (some ⟨g, 0, none⟩), .int .i64 d] w fun e w' => KQOut g w.heap.size (kidsQ (proP k) t) e w' ∧ w.grownBy w' (some g) := by
  have HP := Lib.hid hP
  have hgB : g < w.heap.size := hb.lt
  have hs40 := fun (W : World) h => sign_any 40 g t W h
  have HS40 := Lib.hid hs40
  have HB0 := Lib.hid hb
  have HE0 := Lib.hid he
  have hg0 := he.ne hb
  clear hP hs40 hb he
  obtain ⟨i0, hi, hz0, hz1, hz2⟩ := info_parts Tryd.info_fm3
  go_enter Tryd.func30, Tryd.ntmps30
  cases h40 : begP [40] t with
  | false =>
    have HR := Lib.hid (show kidsQ (proP k) t = none by unfold kidsQ; rw [h40]; rfl)
    go_wp2_with (go_at_call 42; (with_reducible refine (HS40.out _ HB0.out).mono ?_); rintro e w5 ⟨rfl, hb5, hg5⟩; (try rw [h40]); have HB5 := Lib.hid hb5; have HX5 := Lib.hid hg5; clear hb5 hg5)
    (try simp only [Exit.inBlock, Exit.then]); refine bodyPost_ret (results_tmp2 rfl _ _ _) rfl ?_
    exact ⟨KQOut.mk_bad HR.out HB5.out, HX5.out⟩
  | true =>
    have hsg : signR 40 t = bareP (t.drop 1) := by unfold signR; rw [h40, if_pos rfl]
    have hR : kidsQ (proP k) t = preP [] (loopQ (proP k) t.length (bareP (t.drop 1))) := by
      unfold kidsQ
      rw [h40, if_pos rfl]
      cases loopQ (proP k) t.length (bareP (t.drop 1)) with
      | none => rfl
      | some q => rfl
    have hbl := bareP_len (t.drop 1)
    have hdl : (t.drop 1).length ≤ t.length := by rw [List.length_drop]; omega
    have hbi := bareP_idem (t.drop 1)
    rw [hsg] at HS40
    have HR := Lib.hid hR
    have HBi := Lib.hid hbi
    clear hR hsg hbi
    go_wp2_with (go_at_call 42; (with_reducible refine (HS40.out _ HB0.out).mono ?_); rintro e w5 ⟨rfl, hb5, hg5⟩; (try rw [h40]); have HB5 := Lib.hid hb5; have HX5 := Lib.hid hg5; clear hb5 hg5)
    go_loopw [6] (fun sv wr => ∃ (u : List UInt8) (l : List Fm) (m : Nat) (ov : Value), ov = sv ∧ bareP u = u ∧ u.length ≤ m ∧ l.length + u.length ≤ t.length ∧ Kids wr w.heap.size ov l ∧ Blk wr g 39 [.string (ba u)] ∧ w.grownBy wr (some g) ∧ Hid (kidsQ (proP k) t = preP l (loopQ (proP k) m u))) (fun _ wr => restAt wr g)
    case atStart => exact ⟨bareP (t.drop 1), [], _, _, rfl, HBi.out, by omega, by rw [List.length_nil]; omega, Kids.nil _ _, HB5.out, HX5.out, HR⟩
    case round =>
      obtain ⟨u, l, m, ov, rfl, hub, hum, hlu, hk, hb, hx, hrw⟩ := hrel
      have hme := restAt_of hb
      have HK := Lib.hid hk
      have HBr := Lib.hid hb
      have HX := Lib.hid hx
      have HE := Lib.hid (HE0.out.only hx hg0)
      clear hk hb hx
      cases m with
      | zero =>
        have hu0 : u = [] := List.eq_nil_of_length_eq_zero (by omega)
        subst hu0
        have hp : proP k [] = none := by
          cases k with
          | zero => rfl
          | succ k => rfl
        have HFin := Lib.hid (show kidsQ (proP k) t = none by rw [hrw.out]; rfl)
        have HPp := Lib.hid hp
        clear hp hrw
        go_wp2_with (go_at_call 15; (with_reducible refine (HP.out [] wr HBr.out HE.out (by simp)).mono ?_); rintro e w1 ⟨ho, hg1⟩; obtain ⟨⟨o, a, A, n, c, rfl⟩, s, hb1⟩ := PQOut.bad ho HPp.out; have HB1 := Lib.hid (hb1.alloc (.cells #[.int .i64 o, .int .i64 a, .slice A n c] 25)); have HX1 := Lib.hid (only_trans (only_trans HX.out hg1) (only_below ((Below.refl _ w1).alloc (Nat.le_refl _) (.cells #[.int .i64 o, .int .i64 a, .slice A n c] 25)))); clear ho hg1 hb1)
        (try simp only [Exit.inBlock, Exit.then]); refine bodyPost_ret (results_tmp2 rfl _ _ _) rfl ?_
        exact ⟨KQOut.mk_bad HFin.out HB1.out, HX1.out⟩
      | succ m =>
        have hL := loopQ_succ (proP k) m u
        cases hp : proP k u with
        | none =>
          rw [hp] at hL
          have HFin := Lib.hid (show kidsQ (proP k) t = none by rw [hrw.out, hL]; rfl)
          have HPp := Lib.hid hp
          clear hp hL hrw
          go_wp2_with (go_at_call 15; (with_reducible refine (HP.out u wr HBr.out HE.out (by omega)).mono ?_); rintro e w1 ⟨ho, hg1⟩; obtain ⟨⟨o, a, A, n, c, rfl⟩, s, hb1⟩ := PQOut.bad ho HPp.out; have HB1 := Lib.hid (hb1.alloc (.cells #[.int .i64 o, .int .i64 a, .slice A n c] 25)); have HX1 := Lib.hid (only_trans (only_trans HX.out hg1) (only_below ((Below.refl _ w1).alloc (Nat.le_refl _) (.cells #[.int .i64 o, .int .i64 a, .slice A n c] 25)))); clear ho hg1 hb1)
          (try simp only [Exit.inBlock, Exit.then]); refine bodyPost_ret (results_tmp2 rfl _ _ _) rfl ?_
          exact ⟨KQOut.mk_bad HFin.out HB1.out, HX1.out⟩
        | some q =>
          obtain ⟨f, r⟩ := q
          obtain ⟨htk, _, hrb, _⟩ := pro_takes hub hp
          rw [hp] at hL
          simp only at hL
          have hfp := f.size_pos
          have hOB : ∀ b, ov.ownBlock = some b → b < wr.heap.size := fun b hb => by
            obtain ⟨xs, hO, _⟩ := HK.out
            exact (hO.lt b hb).2
          have HOB := Lib.hid hOB
          have HPp := Lib.hid hp
          have hs44 := fun (W : World) h => sign_any 44 g r W h
          clear hp hOB
          cases h44 : begP [44] r with
          | true =>
            rw [h44, if_pos rfl] at hL
            have hsg : signR 44 r = bareP (r.drop 1) := by unfold signR; rw [h44, if_pos rfl]
            rw [hsg] at hs44
            have HS44 := Lib.hid hs44
            have HS41 := HS40
            have h41 := h40
            have HFin := Lib.hid (show kidsQ (proP k) t = preP (l ++ [f]) (loopQ (proP k) m (bareP (r.drop 1))) by
              rw [hrw.out, hL]
              cases loopQ (proP k) m (bareP (r.drop 1)) with
              | none => rfl
              | some q => simp [preP])
            have hbl2 := bareP_len (r.drop 1)
            have hdl2 : (r.drop 1).length + 1 ≤ r.length := by have := begP_len h44; simp at this; rw [List.length_drop]; omega
            have hbi2 := Lib.hid (bareP_idem (r.drop 1))
            clear hs44 hsg hL hrw hrb
            go_wp2_with (first
            | (go_at_call 15; (with_reducible refine (HP.out u wr HBr.out HE.out (by omega)).mono ?_); rintro e w1 ⟨ho, hg1⟩; obtain ⟨⟨A, n, c, rfl, hf⟩, hb1⟩ := PQOut.good ho HPp.out; obtain ⟨xs, hO, hQ⟩ := HK.out.only hg1 hgB; have HX1 := Lib.hid (only_trans HX.out hg1); have HFI := Lib.hid hf; have HO := Lib.hid ((hO.alloc (.cells #[.int .i64 f.org, .int .i64 f.nd, .slice A n c] 25)).alloc (.cells #[.int .i64 f.org, .int .i64 f.nd, .slice A n c] 25)); have HQ := Lib.hid hQ; have HB8 : Hid (Blk (w1.alloc (.cells #[.int .i64 f.org, .int .i64 f.nd, .slice A n c] 25)) w1.heap.size 25 [.int .i64 f.org, .int .i64 f.nd, .slice A n c]) := Lib.hid (Blk.fresh rfl rfl); have HPb := Lib.hid ((hb1.alloc (.cells #[.int .i64 f.org, .int .i64 f.nd, .slice A n c] 25)).alloc (.cells #[.int .i64 f.org, .int .i64 f.nd, .slice A n c] 25)); clear hg1 ho hf hO hQ hb1)
            | (refine wpList_load_blk rfl 25 (.tmp 7) rfl w1.heap.size rfl 25 [.int .i64 f.org, .int .i64 f.nd, .slice A n c] _ HB8.out Tryd.underlying25 rfl (by kernel_rfl) ?_)
            | (refine wpList_build_fm rfl (.tmp 21) rfl [.int .i64 f.org, .int .i64 f.nd, .slice A n c] rfl rfl ?_)
            | (at_builtin; refine wpList_append_lies _ rfl (.tmp 20) (.tmp 22) 23 rfl w.heap.size 25 i0 _ 3 40 Tryd.underlying23 hi hz0 hz1 hz2 rfl (by decide) ov l.length xs rfl HO.out ⟨(w1.alloc (.cells #[.int .i64 f.org, .int .i64 f.nd, .slice A n c] 25)).heap.size, 0, none⟩ 1 1 [.int .i64 f.org, .int .i64 f.nd, .slice A n c] rfl rfl (row_cell' (w := (w1.alloc (.cells #[.int .i64 f.org, .int .i64 f.nd, .slice A n c] 25)).alloc (.cells #[.int .i64 f.org, .int .i64 f.nd, .slice A n c] 25)) (Blk.fresh rfl rfl)) (fun u hu => by simp at hu; rcases hu with rfl | rfl | rfl <;> rfl) (by omega) (by unfold maxLen; omega) (by omega) (by have := HX1.out.size; simp; omega) _ rfl ?_; intro gk cap w4 ho4 hg4 hat hlt; have hOw := (fun j hj => (HO.out.lt j hj).1 : ∀ j, ov.ownBlock = some j → w.heap.size ≤ j); have HK4 := Lib.hid (Kids.snoc HFI.out HX.out.size HOB.out ((Below.refl w1.heap.size w1).alloc (Nat.le_refl _) (.cells #[.int .i64 f.org, .int .i64 f.nd, .slice A n c] 25) |>.alloc (by simp) (.cells #[.int .i64 f.org, .int .i64 f.nd, .slice A n c] 25)) HQ.out ho4 hg4 hat); have HX4 := Lib.hid (only_row' (only_trans HX1.out (only_below (((Below.refl w1.heap.size w1).alloc (Nat.le_refl _) (.cells #[.int .i64 f.org, .int .i64 f.nd, .slice A n c] 25)).alloc (by simp) (.cells #[.int .i64 f.org, .int .i64 f.nd, .slice A n c] 25)))) hg4 hOw); have HB4 := Lib.hid (HPb.out.grown hg4 (fun e => by have := hOw g e.symm; omega)); clear ho4 hg4 hat hlt hOw)
            | (go_at_call 42; (with_reducible refine (HS44.out _ HB4.out).mono ?_); rintro e w5 ⟨rfl, hb5, hg5⟩; (try rw [h44]); have HB5 := Lib.hid hb5; have HX5 := Lib.hid (only_trans HX4.out hg5); have HK5 := Lib.hid (HK4.out.only hg5 hgB); clear hb5 hg5)
            | (go_at_call 42; (with_reducible refine (HS41.out _ HB5.out).mono ?_); rintro e w6 ⟨rfl, hb6, hg6⟩; (try rw [h41]); have HB6 := Lib.hid hb6; have HX6 := Lib.hid (only_trans HX5.out hg6); have HK6 := Lib.hid (HK5.out.only hg6 hgB); clear hb6 hg6))
            go_roundw
            case rel => exact ⟨bareP (r.drop 1), l ++ [f], m, _, rfl, hbi2.out, by omega, by rw [List.length_append, List.length_singleton]; omega, HK5.out, HB5.out, HX5.out, HFin⟩
            case measure => rw [hme, restAt_of HB5.out]; omega
          | false =>
            rw [h44, if_neg (by simp)] at hL
            have hsg : signR 44 r = r := by unfold signR; rw [h44, if_neg (by simp)]; exact hrb
            rw [hsg] at hs44
            have HS44 := Lib.hid hs44
            have hs41 := fun (W : World) h => sign_any 41 g r W h
            cases h41 : begP [41] r with
            | true =>
              rw [h41, if_pos rfl] at hL
              have hsg1 : signR 41 r = bareP (r.drop 1) := by unfold signR; rw [h41, if_pos rfl]
              rw [hsg1] at hs41
              have HS41 := Lib.hid hs41
              have HFin := Lib.hid (show kidsQ (proP k) t = some (l ++ [f], bareP (r.drop 1)) by rw [hrw.out, hL]; rfl)
              clear hs44 hsg hL hrw hrb hs41 hsg1
              go_wp2_with (first
            | (go_at_call 15; (with_reducible refine (HP.out u wr HBr.out HE.out (by omega)).mono ?_); rintro e w1 ⟨ho, hg1⟩; obtain ⟨⟨A, n, c, rfl, hf⟩, hb1⟩ := PQOut.good ho HPp.out; obtain ⟨xs, hO, hQ⟩ := HK.out.only hg1 hgB; have HX1 := Lib.hid (only_trans HX.out hg1); have HFI := Lib.hid hf; have HO := Lib.hid ((hO.alloc (.cells #[.int .i64 f.org, .int .i64 f.nd, .slice A n c] 25)).alloc (.cells #[.int .i64 f.org, .int .i64 f.nd, .slice A n c] 25)); have HQ := Lib.hid hQ; have HB8 : Hid (Blk (w1.alloc (.cells #[.int .i64 f.org, .int .i64 f.nd, .slice A n c] 25)) w1.heap.size 25 [.int .i64 f.org, .int .i64 f.nd, .slice A n c]) := Lib.hid (Blk.fresh rfl rfl); have HPb := Lib.hid ((hb1.alloc (.cells #[.int .i64 f.org, .int .i64 f.nd, .slice A n c] 25)).alloc (.cells #[.int .i64 f.org, .int .i64 f.nd, .slice A n c] 25)); clear hg1 ho hf hO hQ hb1)
            | (refine wpList_load_blk rfl 25 (.tmp 7) rfl w1.heap.size rfl 25 [.int .i64 f.org, .int .i64 f.nd, .slice A n c] _ HB8.out Tryd.underlying25 rfl (by kernel_rfl) ?_)
            | (refine wpList_build_fm rfl (.tmp 21) rfl [.int .i64 f.org, .int .i64 f.nd, .slice A n c] rfl rfl ?_)
            | (at_builtin; refine wpList_append_lies _ rfl (.tmp 20) (.tmp 22) 23 rfl w.heap.size 25 i0 _ 3 40 Tryd.underlying23 hi hz0 hz1 hz2 rfl (by decide) ov l.length xs rfl HO.out ⟨(w1.alloc (.cells #[.int .i64 f.org, .int .i64 f.nd, .slice A n c] 25)).heap.size, 0, none⟩ 1 1 [.int .i64 f.org, .int .i64 f.nd, .slice A n c] rfl rfl (row_cell' (w := (w1.alloc (.cells #[.int .i64 f.org, .int .i64 f.nd, .slice A n c] 25)).alloc (.cells #[.int .i64 f.org, .int .i64 f.nd, .slice A n c] 25)) (Blk.fresh rfl rfl)) (fun u hu => by simp at hu; rcases hu with rfl | rfl | rfl <;> rfl) (by omega) (by unfold maxLen; omega) (by omega) (by have := HX1.out.size; simp; omega) _ rfl ?_; intro gk cap w4 ho4 hg4 hat hlt; have hOw := (fun j hj => (HO.out.lt j hj).1 : ∀ j, ov.ownBlock = some j → w.heap.size ≤ j); have HK4 := Lib.hid (Kids.snoc HFI.out HX.out.size HOB.out ((Below.refl w1.heap.size w1).alloc (Nat.le_refl _) (.cells #[.int .i64 f.org, .int .i64 f.nd, .slice A n c] 25) |>.alloc (by simp) (.cells #[.int .i64 f.org, .int .i64 f.nd, .slice A n c] 25)) HQ.out ho4 hg4 hat); have HX4 := Lib.hid (only_row' (only_trans HX1.out (only_below (((Below.refl w1.heap.size w1).alloc (Nat.le_refl _) (.cells #[.int .i64 f.org, .int .i64 f.nd, .slice A n c] 25)).alloc (by simp) (.cells #[.int .i64 f.org, .int .i64 f.nd, .slice A n c] 25)))) hg4 hOw); have HB4 := Lib.hid (HPb.out.grown hg4 (fun e => by have := hOw g e.symm; omega)); clear ho4 hg4 hat hlt hOw)
            | (go_at_call 42; (with_reducible refine (HS44.out _ HB4.out).mono ?_); rintro e w5 ⟨rfl, hb5, hg5⟩; (try rw [h44]); have HB5 := Lib.hid hb5; have HX5 := Lib.hid (only_trans HX4.out hg5); have HK5 := Lib.hid (HK4.out.only hg5 hgB); clear hb5 hg5)
            | (go_at_call 42; (with_reducible refine (HS41.out _ HB5.out).mono ?_); rintro e w6 ⟨rfl, hb6, hg6⟩; (try rw [h41]); have HB6 := Lib.hid hb6; have HX6 := Lib.hid (only_trans HX5.out hg6); have HK6 := Lib.hid (HK5.out.only hg6 hgB); clear hb6 hg6))
              (try simp only [Exit.inBlock, Exit.then]); refine bodyPost_ret (results_tmp2 rfl _ _ _) rfl ?_
              exact ⟨KQOut.mk_good HFin.out HK6.out HB6.out, HX6.out⟩
            | false =>
              rw [h41, if_neg (by simp)] at hL
              have HS41 := Lib.hid hs41
              have HFin := Lib.hid (show kidsQ (proP k) t = none by rw [hrw.out, hL]; rfl)
              clear hs44 hsg hL hrw hrb hs41
              go_wp2_with (first
            | (go_at_call 15; (with_reducible refine (HP.out u wr HBr.out HE.out (by omega)).mono ?_); rintro e w1 ⟨ho, hg1⟩; obtain ⟨⟨A, n, c, rfl, hf⟩, hb1⟩ := PQOut.good ho HPp.out; obtain ⟨xs, hO, hQ⟩ := HK.out.only hg1 hgB; have HX1 := Lib.hid (only_trans HX.out hg1); have HFI := Lib.hid hf; have HO := Lib.hid ((hO.alloc (.cells #[.int .i64 f.org, .int .i64 f.nd, .slice A n c] 25)).alloc (.cells #[.int .i64 f.org, .int .i64 f.nd, .slice A n c] 25)); have HQ := Lib.hid hQ; have HB8 : Hid (Blk (w1.alloc (.cells #[.int .i64 f.org, .int .i64 f.nd, .slice A n c] 25)) w1.heap.size 25 [.int .i64 f.org, .int .i64 f.nd, .slice A n c]) := Lib.hid (Blk.fresh rfl rfl); have HPb := Lib.hid ((hb1.alloc (.cells #[.int .i64 f.org, .int .i64 f.nd, .slice A n c] 25)).alloc (.cells #[.int .i64 f.org, .int .i64 f.nd, .slice A n c] 25)); clear hg1 ho hf hO hQ hb1)
            | (refine wpList_load_blk rfl 25 (.tmp 7) rfl w1.heap.size rfl 25 [.int .i64 f.org, .int .i64 f.nd, .slice A n c] _ HB8.out Tryd.underlying25 rfl (by kernel_rfl) ?_)
            | (refine wpList_build_fm rfl (.tmp 21) rfl [.int .i64 f.org, .int .i64 f.nd, .slice A n c] rfl rfl ?_)
            | (at_builtin; refine wpList_append_lies _ rfl (.tmp 20) (.tmp 22) 23 rfl w.heap.size 25 i0 _ 3 40 Tryd.underlying23 hi hz0 hz1 hz2 rfl (by decide) ov l.length xs rfl HO.out ⟨(w1.alloc (.cells #[.int .i64 f.org, .int .i64 f.nd, .slice A n c] 25)).heap.size, 0, none⟩ 1 1 [.int .i64 f.org, .int .i64 f.nd, .slice A n c] rfl rfl (row_cell' (w := (w1.alloc (.cells #[.int .i64 f.org, .int .i64 f.nd, .slice A n c] 25)).alloc (.cells #[.int .i64 f.org, .int .i64 f.nd, .slice A n c] 25)) (Blk.fresh rfl rfl)) (fun u hu => by simp at hu; rcases hu with rfl | rfl | rfl <;> rfl) (by omega) (by unfold maxLen; omega) (by omega) (by have := HX1.out.size; simp; omega) _ rfl ?_; intro gk cap w4 ho4 hg4 hat hlt; have hOw := (fun j hj => (HO.out.lt j hj).1 : ∀ j, ov.ownBlock = some j → w.heap.size ≤ j); have HK4 := Lib.hid (Kids.snoc HFI.out HX.out.size HOB.out ((Below.refl w1.heap.size w1).alloc (Nat.le_refl _) (.cells #[.int .i64 f.org, .int .i64 f.nd, .slice A n c] 25) |>.alloc (by simp) (.cells #[.int .i64 f.org, .int .i64 f.nd, .slice A n c] 25)) HQ.out ho4 hg4 hat); have HX4 := Lib.hid (only_row' (only_trans HX1.out (only_below (((Below.refl w1.heap.size w1).alloc (Nat.le_refl _) (.cells #[.int .i64 f.org, .int .i64 f.nd, .slice A n c] 25)).alloc (by simp) (.cells #[.int .i64 f.org, .int .i64 f.nd, .slice A n c] 25)))) hg4 hOw); have HB4 := Lib.hid (HPb.out.grown hg4 (fun e => by have := hOw g e.symm; omega)); clear ho4 hg4 hat hlt hOw)
            | (go_at_call 42; (with_reducible refine (HS44.out _ HB4.out).mono ?_); rintro e w5 ⟨rfl, hb5, hg5⟩; (try rw [h44]); have HB5 := Lib.hid hb5; have HX5 := Lib.hid (only_trans HX4.out hg5); have HK5 := Lib.hid (HK4.out.only hg5 hgB); clear hb5 hg5)
            | (go_at_call 42; (with_reducible refine (HS41.out _ HB5.out).mono ?_); rintro e w6 ⟨rfl, hb6, hg6⟩; (try rw [h41]); have HB6 := Lib.hid hb6; have HX6 := Lib.hid (only_trans HX5.out hg6); have HK6 := Lib.hid (HK5.out.only hg6 hgB); clear hb6 hg6))
              (try simp only [Exit.inBlock, Exit.then]); refine bodyPost_ret (results_tmp2 rfl _ _ _) rfl ?_
              exact ⟨KQOut.mk_bad' HFin.out HK6.out HB6.out, HX6.out⟩

end Go.Proofs.YtnpobhgecfjfgaaDoor
