/-
  The document's policy: what it answers is polP's.
-/
import Derived.Test.YtnpobhgecfjfgaaDoorRW
namespace Go.Proofs.YtnpobhgecfjfgaaDoor
open Go.RowKit

theorem results_cell_row_tmp1 {P : Program} {fn : Func} {p u : Tmp} {ty : TypeId} (h : fn.results = #[.cell p ty, .tmp u]) (tmps : Array Value) (w : World) (g : Nat) (t : TypeId) (cs : Array Value) (fr : Nat × Nat) (d : TypeDesc)
    (hp : tmps.getD p undef = .pointer (some ⟨g, 0, none⟩)) (hg : w.heap[g]? = some (.cells cs t fr))
    (hu : P.underlying ty = some d) (hd : (match d with | .struct _ | .array _ _ => true | _ => false) = true) (hi : (P.info? ty).map (·.size) = some cs.size) :
    (results fn tmps).run P w = .ok (.tuple #[.agg cs, tmps.getD u undef]) w := by
  have hp' : tmps[p]?.getD undef = .pointer (some ⟨g, 0, none⟩) := by simpa using hp
  simp [results, h, hp', asAddr, run_loadVar_row w g t ty cs fr d hg hu hd hi]
theorem results_cell_row_tmp2 {P : Program} {fn : Func} {p u v : Tmp} {ty : TypeId} (h : fn.results = #[.cell p ty, .tmp u, .tmp v]) (tmps : Array Value) (w : World) (g : Nat) (t : TypeId) (cs : Array Value) (fr : Nat × Nat) (d : TypeDesc)
    (hp : tmps.getD p undef = .pointer (some ⟨g, 0, none⟩)) (hg : w.heap[g]? = some (.cells cs t fr))
    (hu : P.underlying ty = some d) (hd : (match d with | .struct _ | .array _ _ => true | _ => false) = true) (hi : (P.info? ty).map (·.size) = some cs.size) :
    (results fn tmps).run P w = .ok (.tuple #[.agg cs, tmps.getD u undef, tmps.getD v undef]) w := by
  have hp' : tmps[p]?.getD undef = .pointer (some ⟨g, 0, none⟩) := by simpa using hp
  simp [results, h, hp', asAddr, run_loadVar_row w g t ty cs fr d hg hu hd hi]
/-- What lies from C on stands, where a block below C alone is turned. -/
theorem Fm.In.past {w w' : World} {f : Fm} {A : Option Addr} {n C g : Nat} (h : f.In w (C ≤ ·) A n) (hb : w.grownBy w' (some g)) (hg : g < C) : f.In w' (C ≤ ·) A n :=
  Fm.In.weak (fun _ h _ => h.1) f A n (Fm.In.keep (fun k hk => hb.block k hk.2 (fun e => by have := Option.some.inj e; omega)) f A n h.lt)
theorem Fm.In.from_ {w : World} {f : Fm} {A : Option Addr} {n B C : Nat} (h : f.In w (C ≤ ·) A n) (hB : B ≤ C) : f.In w (B ≤ ·) A n :=
  Fm.In.weak (fun _ h _ => by omega) f A n h
theorem PolOut.mk_bad {B : Nat} {r : Option (Fm × List UInt8)} {w' : World} {o a : Int} {A : Option Addr} {n c : Nat} {s : ByteArray} (hr : r = none) : PolOut B r (.returned (.tuple #[.agg #[.int .i64 o, .int .i64 a, .slice A n c], .string s, .bool false])) w' := by
  subst hr; exact ⟨o, a, A, n, c, s, rfl⟩
theorem PolOut.mk_good {B : Nat} {r : Option (Fm × List UInt8)} {w' : World} {o a : Int} {ks : List Fm} {A : Option Addr} {n c : Nat} {t : List UInt8} (hr : r = some (.mk o a ks, t)) (h : (Fm.mk o a ks).In w' (B ≤ ·) A n) : PolOut B r (.returned (.tuple #[.agg #[.int .i64 o, .int .i64 a, .slice A n c], .string (ba t), .bool true])) w' := by
  subst hr; exact ⟨A, n, c, rfl, h⟩
theorem below_block {B : Nat} {v w w' : World} {g : Nat} (h : Below B v w) (hg : w.grownBy w' (some g)) (hB : B ≤ g) (hv : B ≤ v.heap.size) : Below B v w' :=
  h.grown hg (by have := h.size; omega) (fun k hk => by have := Option.some.inj hk; omega)

theorem one3 (a b : Int) (A : Option Addr) (n c : Nat) : ([Value.int .i64 a, .int .i64 b, .slice A n c].toArray).all (·.oneCell') = true := by kernel_rfl
theorem valP_4 {l : List UInt8} (h : ∀ x, x ∈ l → isDg x = true) (h4 : l.length ≤ 4) : valP 0 l ≤ 9999 := by
  have h1 := valP_lt l 0 1 h (by omega)
  have h2 : 10 ^ l.length ≤ 10 ^ 4 := Nat.pow_le_pow_right (by omega) h4
  omega
theorem numP_lt {t r : List UInt8} {v : Nat} (h : numP t = some (v, r)) : v ≤ 9999 := by
  rw [numP_of rfl] at h
  split at h
  · cases h
  · injection h with h
    injection h with h1 _
    rw [← h1]
    exact valP_4 (fun x hx => digP_mem hx) (by omega)

set_option maxHeartbeats 8000000 in
set_option maxRecDepth 100000 in
theorem pol_step (k : Nat) (d : Int) (hd : 0 ≤ d ∧ d ≤ 10)
    (hP : ∀ (t : List UInt8) (w : World), t.length ≤ 1000 → Calls Tryd.prog 17 #[.string (ba t), .int .i64 (d + 1)] w fun e w' => PolOut w.heap.size (polP k t) e w' ∧ Below w.heap.size w w')
    (t : List UInt8) (w : World) (ht : t.length ≤ 1000) :
    Calls Tryd.prog 17 #[.string (ba t), .int .i64 d] w fun e w' => PolOut w.heap.size (polP (k + 1) t) e w' ∧ Below w.heap.size w w' := by
  have hpol := polP_succ k t
  have hbl := bareP_len t
  have hrow : ∀ u W, u.length ≤ 1000 → Calls Tryd.prog 36 #[.string (ba u), .int .i64 d] W fun e w' => RowOut W.heap.size (rowP (polP k) u) e w' ∧ Below W.heap.size W w' := fun u W hu => row_any k d hd hP u W hu
  have HRow := Lib.hid hrow
  have hba : ∀ t W, Calls Tryd.prog 35 #[.string (ba t), .string ⟨#[97, 108, 108]⟩] W fun e w' => e = .returned (.bool (begP [97, 108, 108] t)) ∧ W = w' := fun t W => begins_any t [97, 108, 108] W
  have hbn : ∀ t W, Calls Tryd.prog 35 #[.string (ba t), .string ⟨#[97, 110, 121]⟩] W fun e w' => e = .returned (.bool (begP [97, 110, 121] t)) ∧ W = w' := fun t W => begins_any t [97, 110, 121] W
  have hbo : ∀ t W, Calls Tryd.prog 35 #[.string (ba t), .string ⟨#[111, 102]⟩] W fun e w' => e = .returned (.bool (begP [111, 102] t)) ∧ W = w' := fun t W => begins_any t [111, 102] W
  have HBA := Lib.hid hba
  have HBN := Lib.hid hbn
  have HBO := Lib.hid hbo
  have HX : Hid (Below w.heap.size w (w.alloc (.cells #[.int .i64 0, .int .i64 0, .slice none 0 0] 25))) := Lib.hid ((Below.refl _ w).alloc (Nat.le_refl _) _)
  have HB : Hid (Blk (w.alloc (.cells #[.int .i64 0, .int .i64 0, .slice none 0 0] 25)) w.heap.size 25 [.int .i64 0, .int .i64 0, .slice none 0 0]) := Lib.hid (Blk.fresh rfl rfl)
  have hbare := bare_any t
  obtain ⟨b, hb⟩ : ∃ b, bareP t = b := ⟨_, rfl⟩
  rw [hb] at hpol hbl hbare
  have HBare := Lib.hid hbare
  clear hba hbn hbo hrow hP hbare hb
  go_enter Tryd.func17, Tryd.ntmps17
  cases hall : begP [97, 108, 108] b with
  | true =>
    rw [hall, if_pos rfl] at hpol
    have hl3 := begP_len hall
    simp only [List.length_cons, List.length_nil] at hl3
    have hsl := run_from_ba Tryd.underlying9 b .i64 3 3 rfl (by omega)
    have hrw := fun W => HRow.out (b.drop 3) W (by rw [List.length_drop]; omega)
    have HR := Lib.hid hrw
    clear hrw
    cases hr : rowP (polP k) (b.drop 3) with
    | none =>
      rw [hr] at hpol
      simp only at hpol
      have HRp := Lib.hid hr
      clear hr
      have hfin : polP (k + 1) t = none := hpol
      have HFin := Lib.hid hfin
      clear hfin hpol
      go_wp2_with (first
        | (go_at_call 18; (with_reducible refine (HBare.out _).mono ?_); rintro e w5 ⟨rfl, rfl⟩)
        | (go_at_call 35; (with_reducible refine (HBA.out _ _).mono ?_); rintro e w5 ⟨rfl, rfl⟩; (try rw [hall]))
        | (go_at_call 36; (with_reducible refine (HR.out _).mono ?_); rintro e w1 ⟨ho, hb⟩; obtain ⟨A, n, c, s, rfl⟩ := RowOut.bad ho HRp.out; have HX1 := Lib.hid (below_step HX.out hb); have HB := Lib.hid (HB.out.through hb); clear hb ho)
        | (refine wpList_store_blk rfl 25 (.tmp 4) (.tmp 42) rfl w.heap.size [.int .i64 0, .int .i64 (n : Int), .slice A n c] rfl rfl 25 [.int .i64 0, .int .i64 0, .slice none 0 0] HB.out (by kernel_rfl) rfl (one3 _ _ _ _ _) ?_; intro wr hbr hgr; have HBr := Lib.hid hbr; have HGr := Lib.hid hgr; clear hbr hgr))
      (try simp only [Exit.inBlock, Exit.then]); refine bodyPost_ret (results_cell_row_tmp2 rfl _ _ w.heap.size 25 _ (0, 0) _ rfl HBr.out Tryd.underlying25 rfl (by kernel_rfl)) rfl ?_
      exact ⟨PolOut.mk_bad HFin.out, below_block HX1.out HGr.out (Nat.le_refl _) (Nat.le_refl _)⟩
    | some q =>
      obtain ⟨l, r⟩ := q
      rw [hr] at hpol
      simp only at hpol
      have HRp := Lib.hid hr
      clear hr
      have hfin : polP (k + 1) t = some (.mk 0 (l.length : Int) l, r) := hpol
      have HFin := Lib.hid hfin
      clear hfin hpol
      go_wp2_with (first
        | (go_at_call 18; (with_reducible refine (HBare.out _).mono ?_); rintro e w5 ⟨rfl, rfl⟩)
        | (go_at_call 35; (with_reducible refine (HBA.out _ _).mono ?_); rintro e w5 ⟨rfl, rfl⟩; (try rw [hall]))
        | (go_at_call 36; (with_reducible refine (HR.out _).mono ?_); rintro e w1 ⟨ho, hb⟩; obtain ⟨A, c, rfl, hin⟩ := RowOut.good ho HRp.out; have HLt := Lib.hid HB.out.lt; have HX1 := Lib.hid (below_step HX.out hb); have HB := Lib.hid (HB.out.through hb); have HIN := Lib.hid hin; clear hb ho hin)
        | (refine wpList_store_blk rfl 25 (.tmp 4) (.tmp 42) rfl w.heap.size [.int .i64 0, .int .i64 (l.length : Int), .slice A l.length c] rfl rfl 25 [.int .i64 0, .int .i64 0, .slice none 0 0] HB.out (by kernel_rfl) rfl (one3 _ _ _ _ _) ?_; intro wr hbr hgr; have HBr := Lib.hid hbr; have HGr := Lib.hid hgr; clear hbr hgr))
      (try simp only [Exit.inBlock, Exit.then]); refine bodyPost_ret (results_cell_row_tmp2 rfl _ _ w.heap.size 25 _ (0, 0) _ rfl HBr.out Tryd.underlying25 rfl (by kernel_rfl)) rfl ?_
      exact ⟨PolOut.mk_good HFin.out (((HIN.out _ _).past HGr.out HLt.out).from_ (Nat.le_of_lt HLt.out)), below_block HX1.out HGr.out (Nat.le_refl _) (Nat.le_refl _)⟩
  | false =>
    rw [hall, if_neg (by simp)] at hpol
    cases hany : begP [97, 110, 121] b with
    | true =>
      rw [hany, if_pos rfl] at hpol
      have hl3 := begP_len hany
      simp only [List.length_cons, List.length_nil] at hl3
      have hsl := run_from_ba Tryd.underlying9 b .i64 3 3 rfl (by omega)
      have hrw := fun W => HRow.out (b.drop 3) W (by rw [List.length_drop]; omega)
      have HR := Lib.hid hrw
      clear hrw
      cases hr : rowP (polP k) (b.drop 3) with
      | none =>
        rw [hr] at hpol
        simp only at hpol
        have HRp := Lib.hid hr
        clear hr
        have hfin : polP (k + 1) t = none := hpol
        have HFin := Lib.hid hfin
        clear hfin hpol
        go_wp2_with (first
          | (go_at_call 18; (with_reducible refine (HBare.out _).mono ?_); rintro e w5 ⟨rfl, rfl⟩)
          | (go_at_call 35; (with_reducible refine (HBA.out _ _).mono ?_); rintro e w5 ⟨rfl, rfl⟩; (try rw [hall]))
          | (go_at_call 35; (with_reducible refine (HBN.out _ _).mono ?_); rintro e w5 ⟨rfl, rfl⟩; (try rw [hany]))
          | (go_at_call 36; (with_reducible refine (HR.out _).mono ?_); rintro e w1 ⟨ho, hb⟩; obtain ⟨A, n, c, s, rfl⟩ := RowOut.bad ho HRp.out; have HX1 := Lib.hid (below_step HX.out hb); have HB := Lib.hid (HB.out.through hb); clear hb ho)
          | (refine wpList_store_blk rfl 25 (.tmp 4) (.tmp 42) rfl w.heap.size [.int .i64 0, .int .i64 1, .slice A n c] rfl rfl 25 [.int .i64 0, .int .i64 0, .slice none 0 0] HB.out (by kernel_rfl) rfl (one3 _ _ _ _ _) ?_; intro wr hbr hgr; have HBr := Lib.hid hbr; have HGr := Lib.hid hgr; clear hbr hgr))
        (try simp only [Exit.inBlock, Exit.then]); refine bodyPost_ret (results_cell_row_tmp2 rfl _ _ w.heap.size 25 _ (0, 0) _ rfl HBr.out Tryd.underlying25 rfl (by kernel_rfl)) rfl ?_
        exact ⟨PolOut.mk_bad HFin.out, below_block HX1.out HGr.out (Nat.le_refl _) (Nat.le_refl _)⟩
      | some q =>
        obtain ⟨l, r⟩ := q
        rw [hr] at hpol
        simp only at hpol
        have HRp := Lib.hid hr
        clear hr
        have hfin : polP (k + 1) t = some (.mk 0 1 l, r) := hpol
        have HFin := Lib.hid hfin
        clear hfin hpol
        go_wp2_with (first
          | (go_at_call 18; (with_reducible refine (HBare.out _).mono ?_); rintro e w5 ⟨rfl, rfl⟩)
          | (go_at_call 35; (with_reducible refine (HBA.out _ _).mono ?_); rintro e w5 ⟨rfl, rfl⟩; (try rw [hall]))
          | (go_at_call 35; (with_reducible refine (HBN.out _ _).mono ?_); rintro e w5 ⟨rfl, rfl⟩; (try rw [hany]))
          | (go_at_call 36; (with_reducible refine (HR.out _).mono ?_); rintro e w1 ⟨ho, hb⟩; obtain ⟨A, c, rfl, hin⟩ := RowOut.good ho HRp.out; have HLt := Lib.hid HB.out.lt; have HX1 := Lib.hid (below_step HX.out hb); have HB := Lib.hid (HB.out.through hb); have HIN := Lib.hid hin; clear hb ho hin)
          | (refine wpList_store_blk rfl 25 (.tmp 4) (.tmp 42) rfl w.heap.size [.int .i64 0, .int .i64 1, .slice A l.length c] rfl rfl 25 [.int .i64 0, .int .i64 0, .slice none 0 0] HB.out (by kernel_rfl) rfl (one3 _ _ _ _ _) ?_; intro wr hbr hgr; have HBr := Lib.hid hbr; have HGr := Lib.hid hgr; clear hbr hgr))
        (try simp only [Exit.inBlock, Exit.then]); refine bodyPost_ret (results_cell_row_tmp2 rfl _ _ w.heap.size 25 _ (0, 0) _ rfl HBr.out Tryd.underlying25 rfl (by kernel_rfl)) rfl ?_
        exact ⟨PolOut.mk_good HFin.out (((HIN.out _ _).past HGr.out HLt.out).from_ (Nat.le_of_lt HLt.out)), below_block HX1.out HGr.out (Nat.le_refl _) (Nat.le_refl _)⟩
    | false =>
      rw [hany, if_neg (by simp)] at hpol
      have hnum := number_any b (by omega)
      cases hn : numP b with
      | none =>
        rw [hn] at hpol
        simp only at hpol
        have e1 : numV b = 0 := by unfold numV; rw [hn]
        have e2 : numR b = b := by unfold numR; rw [hn]
        have e3 : numO b = false := by unfold numO; rw [hn]; rfl
        rw [e1, e2, e3] at hnum
        have HN := Lib.hid hnum
        clear hnum e1 e2 e3 hn
        have hfin : polP (k + 1) t = none := hpol
        have HFin := Lib.hid hfin
        clear hfin hpol
        go_wp2_with (first
          | (go_at_call 18; (with_reducible refine (HBare.out _).mono ?_); rintro e w5 ⟨rfl, rfl⟩)
          | (go_at_call 35; (with_reducible refine (HBA.out _ _).mono ?_); rintro e w5 ⟨rfl, rfl⟩; (try rw [hall]))
          | (go_at_call 35; (with_reducible refine (HBN.out _ _).mono ?_); rintro e w5 ⟨rfl, rfl⟩; (try rw [hany]))
          | (go_at_call 37; (with_reducible refine (HN.out _).mono ?_); rintro e w9 ⟨rfl, hb⟩; have HX := Lib.hid (below_step HX.out hb); have HB := Lib.hid (HB.out.through hb); clear hb)
          | (refine wpList_store_blk rfl 25 (.tmp 4) (.tmp 53) rfl w.heap.size [.int .i64 0, .int .i64 0, .slice none 0 0] rfl rfl 25 [.int .i64 0, .int .i64 0, .slice none 0 0] HB.out (by kernel_rfl) rfl (one3 _ _ _ _ _) ?_; intro wr hbr hgr; have HBr := Lib.hid hbr; have HGr := Lib.hid hgr; clear hbr hgr))
        (try simp only [Exit.inBlock, Exit.then]); refine bodyPost_ret (results_cell_row_tmp2 rfl _ _ w.heap.size 25 _ (0, 0) _ rfl HBr.out Tryd.underlying25 rfl (by kernel_rfl)) rfl ?_
        exact ⟨PolOut.mk_bad HFin.out, below_block HX.out HGr.out (Nat.le_refl _) (Nat.le_refl _)⟩
      | some q =>
        obtain ⟨v, rest⟩ := q
        rw [hn] at hpol
        simp only at hpol
        have e1 : numV b = (v : Int) := by unfold numV; rw [hn]
        have e2 : numR b = rest := by unfold numR; rw [hn]
        have e3 : numO b = true := by unfold numO; rw [hn]; rfl
        rw [e1, e2, e3] at hnum
        have HN := Lib.hid hnum
        have hnl := numP_len hn
        have hv4 : v ≤ 9999 := numP_lt hn
        clear hnum e1 e2 e3 hn
        have hbl2 := bareP_len rest
        have hbare2 := bare_any rest
        obtain ⟨b2, hb2⟩ : ∃ b2, bareP rest = b2 := ⟨_, rfl⟩
        rw [hb2] at hpol hbl2 hbare2
        have HBare2 := Lib.hid hbare2
        clear hbare2 hb2
        cases hof : begP [111, 102] b2 with
        | false =>
          rw [hof, if_neg (by simp)] at hpol
          have hfin : polP (k + 1) t = some (.mk v 0 [], rest) := hpol
          have HFin := Lib.hid hfin
          clear hfin hpol
          go_wp2_with (first
            | (go_at_call 18; (with_reducible refine (HBare.out _).mono ?_); rintro e w5 ⟨rfl, rfl⟩)
            | (go_at_call 35; (with_reducible refine (HBA.out _ _).mono ?_); rintro e w5 ⟨rfl, rfl⟩; (try rw [hall]))
            | (go_at_call 35; (with_reducible refine (HBN.out _ _).mono ?_); rintro e w5 ⟨rfl, rfl⟩; (try rw [hany]))
            | (go_at_call 37; (with_reducible refine (HN.out _).mono ?_); rintro e w9 ⟨rfl, hb⟩; have HX := Lib.hid (below_step HX.out hb); have HB := Lib.hid (HB.out.through hb); clear hb)
            | (go_at_call 18; (with_reducible refine (HBare2.out _).mono ?_); rintro e w5 ⟨rfl, rfl⟩)
            | (go_at_call 35; (with_reducible refine (HBO.out _ _).mono ?_); rintro e w5 ⟨rfl, rfl⟩; (try rw [hof]))
            | (refine wpList_store_blk rfl 25 (.tmp 4) (.tmp 60) rfl w.heap.size [.int .i64 (v : Int), .int .i64 0, .slice none 0 0] rfl rfl 25 [.int .i64 0, .int .i64 0, .slice none 0 0] HB.out (by kernel_rfl) rfl (one3 _ _ _ _ _) ?_; intro wr hbr hgr; have HBr := Lib.hid hbr; have HGr := Lib.hid hgr; clear hbr hgr))
          (try simp only [Exit.inBlock, Exit.then]); refine bodyPost_ret (results_cell_row_tmp2 rfl _ _ w.heap.size 25 _ (0, 0) _ rfl HBr.out Tryd.underlying25 rfl (by kernel_rfl)) rfl ?_
          exact ⟨PolOut.mk_good HFin.out (⟨rfl, by omega, fun h0 => absurd h0 (by omega)⟩), below_block HX.out HGr.out (Nat.le_refl _) (Nat.le_refl _)⟩
        | true =>
          rw [hof, if_pos rfl] at hpol
          have hl2 := begP_len hof
          simp only [List.length_cons, List.length_nil] at hl2
          have hsl := run_from_ba Tryd.underlying9 b2 .i64 2 2 rfl (by omega)
          have hrw := fun W => HRow.out (b2.drop 2) W (by rw [List.length_drop]; omega)
          have HR := Lib.hid hrw
          clear hrw
          cases hr : rowP (polP k) (b2.drop 2) with
          | none =>
            rw [hr] at hpol
            simp only at hpol
            have HRp := Lib.hid hr
            clear hr
            have hfin : polP (k + 1) t = none := hpol
            have HFin := Lib.hid hfin
            clear hfin hpol
            go_wp2_with (first
              | (go_at_call 18; (with_reducible refine (HBare.out _).mono ?_); rintro e w5 ⟨rfl, rfl⟩)
              | (go_at_call 35; (with_reducible refine (HBA.out _ _).mono ?_); rintro e w5 ⟨rfl, rfl⟩; (try rw [hall]))
              | (go_at_call 35; (with_reducible refine (HBN.out _ _).mono ?_); rintro e w5 ⟨rfl, rfl⟩; (try rw [hany]))
              | (go_at_call 37; (with_reducible refine (HN.out _).mono ?_); rintro e w9 ⟨rfl, hb⟩; have HX := Lib.hid (below_step HX.out hb); have HB := Lib.hid (HB.out.through hb); clear hb)
              | (go_at_call 18; (with_reducible refine (HBare2.out _).mono ?_); rintro e w5 ⟨rfl, rfl⟩)
              | (go_at_call 35; (with_reducible refine (HBO.out _ _).mono ?_); rintro e w5 ⟨rfl, rfl⟩; (try rw [hof]))
              | (go_at_call 36; (with_reducible refine (HR.out _).mono ?_); rintro e w1 ⟨ho, hb⟩; obtain ⟨A, n, c, s, rfl⟩ := RowOut.bad ho HRp.out; have HX1 := Lib.hid (below_step HX.out hb); have HB := Lib.hid (HB.out.through hb); clear hb ho)
              | (refine wpList_store_blk rfl 25 (.tmp 4) (.tmp 73) rfl w.heap.size [.int .i64 0, .int .i64 (v : Int), .slice A n c] rfl rfl 25 [.int .i64 0, .int .i64 0, .slice none 0 0] HB.out (by kernel_rfl) rfl (one3 _ _ _ _ _) ?_; intro wr hbr hgr; have HBr := Lib.hid hbr; have HGr := Lib.hid hgr; clear hbr hgr))
            (try simp only [Exit.inBlock, Exit.then]); refine bodyPost_ret (results_cell_row_tmp2 rfl _ _ w.heap.size 25 _ (0, 0) _ rfl HBr.out Tryd.underlying25 rfl (by kernel_rfl)) rfl ?_
            exact ⟨PolOut.mk_bad HFin.out, below_block HX1.out HGr.out (Nat.le_refl _) (Nat.le_refl _)⟩
          | some q =>
            obtain ⟨l, r⟩ := q
            rw [hr] at hpol
            simp only at hpol
            have HRp := Lib.hid hr
            clear hr
            by_cases hv1 : 1 ≤ v
            · by_cases hv2 : v ≤ 99
              · rw [if_pos ⟨hv1, hv2⟩] at hpol
                have hv5 : decide ((v : Int) ≤ 99) = true := by simp; omega
                have hfin : polP (k + 1) t = some (.mk 0 v l, r) := hpol
                have HFin := Lib.hid hfin
                clear hfin hpol
                go_wp2_with (first
                  | (go_at_call 18; (with_reducible refine (HBare.out _).mono ?_); rintro e w5 ⟨rfl, rfl⟩)
                  | (go_at_call 35; (with_reducible refine (HBA.out _ _).mono ?_); rintro e w5 ⟨rfl, rfl⟩; (try rw [hall]))
                  | (go_at_call 35; (with_reducible refine (HBN.out _ _).mono ?_); rintro e w5 ⟨rfl, rfl⟩; (try rw [hany]))
                  | (go_at_call 37; (with_reducible refine (HN.out _).mono ?_); rintro e w9 ⟨rfl, hb⟩; have HX := Lib.hid (below_step HX.out hb); have HB := Lib.hid (HB.out.through hb); clear hb)
                  | (go_at_call 18; (with_reducible refine (HBare2.out _).mono ?_); rintro e w5 ⟨rfl, rfl⟩)
                  | (go_at_call 35; (with_reducible refine (HBO.out _ _).mono ?_); rintro e w5 ⟨rfl, rfl⟩; (try rw [hof]))
                  | (go_at_call 36; (with_reducible refine (HR.out _).mono ?_); rintro e w1 ⟨ho, hb⟩; obtain ⟨A, c, rfl, hin⟩ := RowOut.good ho HRp.out; have HLt := Lib.hid HB.out.lt; have HX1 := Lib.hid (below_step HX.out hb); have HB := Lib.hid (HB.out.through hb); have HIN := Lib.hid hin; clear hb ho hin)
                  | (refine wpList_store_blk rfl 25 (.tmp 4) (.tmp 73) rfl w.heap.size [.int .i64 0, .int .i64 (v : Int), .slice A l.length c] rfl rfl 25 [.int .i64 0, .int .i64 0, .slice none 0 0] HB.out (by kernel_rfl) rfl (one3 _ _ _ _ _) ?_; intro wr hbr hgr; have HBr := Lib.hid hbr; have HGr := Lib.hid hgr; clear hbr hgr))
                (try simp only [Exit.inBlock, Exit.then]); refine bodyPost_ret (results_cell_row_tmp2 rfl _ _ w.heap.size 25 _ (0, 0) _ rfl HBr.out Tryd.underlying25 rfl (by kernel_rfl)) rfl ?_
                exact ⟨PolOut.mk_good HFin.out (((HIN.out _ _).past HGr.out HLt.out).from_ (Nat.le_of_lt HLt.out)), below_block HX1.out HGr.out (Nat.le_refl _) (Nat.le_refl _)⟩
              · rw [if_neg (fun h => hv2 h.2)] at hpol
                have hv3 : ¬ ((v : Int) ≤ 99) := by omega
                have hv4 : decide ((v : Int) ≤ 99) = false := by simp; omega
                have hfin : polP (k + 1) t = none := hpol
                have HFin := Lib.hid hfin
                clear hfin hpol
                go_wp2_with (first
                  | (go_at_call 18; (with_reducible refine (HBare.out _).mono ?_); rintro e w5 ⟨rfl, rfl⟩)
                  | (go_at_call 35; (with_reducible refine (HBA.out _ _).mono ?_); rintro e w5 ⟨rfl, rfl⟩; (try rw [hall]))
                  | (go_at_call 35; (with_reducible refine (HBN.out _ _).mono ?_); rintro e w5 ⟨rfl, rfl⟩; (try rw [hany]))
                  | (go_at_call 37; (with_reducible refine (HN.out _).mono ?_); rintro e w9 ⟨rfl, hb⟩; have HX := Lib.hid (below_step HX.out hb); have HB := Lib.hid (HB.out.through hb); clear hb)
                  | (go_at_call 18; (with_reducible refine (HBare2.out _).mono ?_); rintro e w5 ⟨rfl, rfl⟩)
                  | (go_at_call 35; (with_reducible refine (HBO.out _ _).mono ?_); rintro e w5 ⟨rfl, rfl⟩; (try rw [hof]))
                  | (go_at_call 36; (with_reducible refine (HR.out _).mono ?_); rintro e w1 ⟨ho, hb⟩; obtain ⟨A, c, rfl, hin⟩ := RowOut.good ho HRp.out; have HLt := Lib.hid HB.out.lt; have HX1 := Lib.hid (below_step HX.out hb); have HB := Lib.hid (HB.out.through hb); have HIN := Lib.hid hin; clear hb ho hin)
                  | (refine wpList_store_blk rfl 25 (.tmp 4) (.tmp 73) rfl w.heap.size [.int .i64 0, .int .i64 (v : Int), .slice A l.length c] rfl rfl 25 [.int .i64 0, .int .i64 0, .slice none 0 0] HB.out (by kernel_rfl) rfl (one3 _ _ _ _ _) ?_; intro wr hbr hgr; have HBr := Lib.hid hbr; have HGr := Lib.hid hgr; clear hbr hgr))
                (try simp only [Exit.inBlock, Exit.then]); refine bodyPost_ret (results_cell_row_tmp2 rfl _ _ w.heap.size 25 _ (0, 0) _ rfl HBr.out Tryd.underlying25 rfl (by kernel_rfl)) rfl ?_
                exact ⟨PolOut.mk_bad HFin.out, below_block HX1.out HGr.out (Nat.le_refl _) (Nat.le_refl _)⟩
            · rw [if_neg (fun h => hv1 h.1)] at hpol
              have hfin : polP (k + 1) t = none := hpol
              have HFin := Lib.hid hfin
              clear hfin hpol
              go_wp2_with (first
                | (go_at_call 18; (with_reducible refine (HBare.out _).mono ?_); rintro e w5 ⟨rfl, rfl⟩)
                | (go_at_call 35; (with_reducible refine (HBA.out _ _).mono ?_); rintro e w5 ⟨rfl, rfl⟩; (try rw [hall]))
                | (go_at_call 35; (with_reducible refine (HBN.out _ _).mono ?_); rintro e w5 ⟨rfl, rfl⟩; (try rw [hany]))
                | (go_at_call 37; (with_reducible refine (HN.out _).mono ?_); rintro e w9 ⟨rfl, hb⟩; have HX := Lib.hid (below_step HX.out hb); have HB := Lib.hid (HB.out.through hb); clear hb)
                | (go_at_call 18; (with_reducible refine (HBare2.out _).mono ?_); rintro e w5 ⟨rfl, rfl⟩)
                | (go_at_call 35; (with_reducible refine (HBO.out _ _).mono ?_); rintro e w5 ⟨rfl, rfl⟩; (try rw [hof]))
                | (go_at_call 36; (with_reducible refine (HR.out _).mono ?_); rintro e w1 ⟨ho, hb⟩; obtain ⟨A, c, rfl, hin⟩ := RowOut.good ho HRp.out; have HLt := Lib.hid HB.out.lt; have HX1 := Lib.hid (below_step HX.out hb); have HB := Lib.hid (HB.out.through hb); have HIN := Lib.hid hin; clear hb ho hin)
                | (refine wpList_store_blk rfl 25 (.tmp 4) (.tmp 73) rfl w.heap.size [.int .i64 0, .int .i64 (v : Int), .slice A l.length c] rfl rfl 25 [.int .i64 0, .int .i64 0, .slice none 0 0] HB.out (by kernel_rfl) rfl (one3 _ _ _ _ _) ?_; intro wr hbr hgr; have HBr := Lib.hid hbr; have HGr := Lib.hid hgr; clear hbr hgr))
              (try simp only [Exit.inBlock, Exit.then]); refine bodyPost_ret (results_cell_row_tmp2 rfl _ _ w.heap.size 25 _ (0, 0) _ rfl HBr.out Tryd.underlying25 rfl (by kernel_rfl)) rfl ?_
              exact ⟨PolOut.mk_bad HFin.out, below_block HX1.out HGr.out (Nat.le_refl _) (Nat.le_refl _)⟩

end Go.Proofs.YtnpobhgecfjfgaaDoor
