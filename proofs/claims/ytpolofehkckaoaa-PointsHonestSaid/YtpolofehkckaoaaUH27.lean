/-
  Joined: PwC.
-/
import Derived.Test.YtpolofehkckaoaaUH26
import Derived.Test.YtpolofehkckaoaaUH16
import Derived.Test.YtpolofehkckaoaaUHT
namespace Go.Proofs.Ytpolofehkckaoaa
open Go.RowKit

def flP (l : List Po) : List Value := (l.map Po.cells).flatten
/-- a row of points in a block of its own -/
def Vr (w : World) (s : Pl) (l : List Po) : Prop := (∀ p ∈ l, p.dg.length = 32) ∧ l.length = s.2.1 ∧ (s = (none, 0, 0) ∨ ∃ g rest, s.1 = some ⟨g, 0, none⟩ ∧ Blk w g tPo (flP l ++ rest) ∧ rest.length = (s.2.2 - s.2.1) * 33 ∧ s.2.1 ≤ s.2.2 ∧ s.2.2 ≤ maxLen)
def vrB (s : Pl) : Nat → Prop := fun q => ∃ a, s.1 = some a ∧ a.block = q
theorem flP_len {l : List Po} (h : ∀ p ∈ l, p.dg.length = 32) : (flP l).length = l.length * 33 := by
 have := flatten_len (k := 33) (l.map Po.cells) (po_rows h).1
 rw [List.length_map] at this
 exact this
theorem flP_one {l : List Po} : ∀ u ∈ flP l, u.oneCell' = true := fun u hu => by
 obtain ⟨y, hy, hu⟩ := List.mem_flatten.1 hu
 obtain ⟨p, hp, rfl⟩ := List.mem_map.1 hy
 exact Array.all_eq_true_iff_forall_mem.1 (Po.one p) u (by simpa using hu)
theorem flP_app (a b : List Po) : flP (a ++ b) = flP a ++ flP b := by unfold flP; rw [List.map_append, List.flatten_append]
theorem flP_cons (x : Po) (b : List Po) : flP (x :: b) = Po.cells x ++ flP b := rfl
theorem flP_nil : flP [] = [] := rfl
theorem flP_td (l : List Po) (i : Nat) : flP l = flP (l.take i) ++ flP (l.drop i) := by rw [← flP_app, List.take_append_drop]
theorem Vr.nil (w : World) : Vr w (none, 0, 0) [] := ⟨fun _ h => (by cases h), rfl, .inl rfl⟩
theorem Vr.os {w : World} {s : Pl} {l : List Po} (h : Vr w s l) : Os w 0 tPo 33 s.val (l.map Po.cells) := by
 obtain ⟨A, k, c⟩ := s
 obtain ⟨h1, h2, h3⟩ := h
 have hl : (l.map Po.cells).flatten.length = k * 33 := by have := flP_len h1; rw [h2] at this; exact this
 refine ⟨⟨by rw [List.length_map, h2]; exact hl, ?_⟩, (po_rows h1).1⟩
 rcases h3 with h3 | ⟨g, rest, e, hb, hr, hk, hm⟩
 ·injection h3 with e1 e2
  injection e2 with e2 e3
  subst e1 e2 e3
  exact .inl ⟨rfl, by rw [List.length_map]; exact h2⟩
 ·simp only at h2 e hr hk hm
  subst e
  refine .inr ⟨g, c, (flP l ++ rest).toArray, by rw [List.length_map, h2]; rfl, Nat.zero_le _, hb, by rw [List.length_map, h2]; exact hk, hm, ?_, ?_⟩
  ·rw [List.size_toArray, List.length_append, flP_len h1, hr, h2, ← Nat.add_mul]
   congr 1
   omega
  ·show List.take _ (flP l ++ rest) = flP l
   rw [List.length_map, h2]
   have : (flP l).length = k * 33 := hl
   rw [← this, List.take_left]
theorem Vr.pos {w : World} {s : Pl} {l : List Po} (h : Vr w s l) : PosIn w s.1 s.2.1 l := by
 obtain ⟨A, c, e, h1, h2, h3⟩ := h.os.out
 obtain ⟨A0, k0, c0⟩ := s
 have hl : l.length = k0 := h.2.1
 injection e with e1 e2 e3
 subst e1
 refine ⟨?_, h.1⟩
 have h4 := h3
 rw [List.length_map, hl] at h4
 exact h4
theorem Vr.ft {w w' : World} {s : Pl} {l : List Po} {E : Nat → Prop} (h : Vr w s l) (hf : Ft E w w') (hd : ∀ q, vrB s q → ¬ E q) : Vr w' s l := by
 refine ⟨h.1, h.2.1, ?_⟩
 rcases h.2.2 with h3 | ⟨g, rest, e, hb, h3⟩
 ·exact .inl h3
 ·exact .inr ⟨g, rest, e, hf.blk hb (hd g ⟨_, e, rfl⟩), h3⟩
theorem Vr.through {w w' : World} {s : Pl} {l : List Po} (h : Vr w s l) (hb : Below w.heap.size w w') : Vr w' s l := h.ft (Ft.of_below hb) (E := fun _ => False) (fun _ _ h => h)
theorem Vr.lt {w : World} {s : Pl} {l : List Po} (h : Vr w s l) : ∀ q, vrB s q → q < w.heap.size := by
 rintro q ⟨a, e, rfl⟩
 rcases h.2.2 with h3 | ⟨g, rest, e2, hb, h3⟩
 ·rw [h3] at e; cases e
 ·rw [e2] at e
  injection e with e
  rw [← e]
  exact hb.lt
/-- what a call leaves of a row that it was given -/
def VrOut (w : World) (s : Pl) (l : List Po) (n : Nat) (e : Ending) (w' : World) : Prop := ∃ s' : Pl, e = .returned (.slice s'.1 n s'.2.2) ∧ s'.2.1 = n ∧ Vr w' s' l ∧ Ft (vrB s) w w' ∧ ∀ q, vrB s' q → vrB s q ∨ w.heap.size ≤ q
theorem po_z1 : ∀ u ∈ (Value.agg (Po.cells ⟨0, List.replicate 32 0⟩).toArray).cells.toList, u.oneCell' = true := fun u hu => Array.all_eq_true_iff_forall_mem.1 (Po.one ⟨0, List.replicate 32 0⟩) u (by simpa [Value.cells] using hu)
theorem spl_in (F1 F2 R X : List Value) (a : Nat) (ha : F1.length = a) (hx : X.length = 33) (hr : 33 ≤ R.length) : splice (splice (F1 ++ F2 ++ R) (a + 33) F2) a X = F1 ++ X ++ F2 ++ R.drop 33 := by
 subst ha
 have e1 : (F1 ++ F2 ++ R).take (F1.length + 33) = F1 ++ ((F2 ++ R).take 33) := by
  rw [List.append_assoc, List.take_append, List.take_of_length_le (by omega)]
  congr 2
  omega
 have e2 : (F1 ++ F2 ++ R).drop (F1.length + 33 + F2.length) = R.drop 33 := by
  rw [List.drop_append, List.drop_of_length_le (by simp <;> omega), List.nil_append]
  congr 1
  simp
  omega
 have e3 : ((F2 ++ R).take 33).length = 33 := by simp; omega
 unfold splice
 rw [e1, e2, hx]
 simp only [List.append_assoc]
 rw [List.take_left, List.drop_append, List.drop_of_length_le (by omega), List.nil_append, show F1.length + 33 - F1.length = 33 by omega, List.drop_append, List.drop_of_length_le (by omega), List.nil_append, e3, Nat.sub_self, List.drop_zero]
theorem spl_new (F1 F2 T X : List Value) (a : Nat) (ha : F1.length = a) (hx : X.length = 33) (hr : 33 + F2.length ≤ T.length) : splice (splice (F1 ++ T) a X) (a + 33) F2 = F1 ++ X ++ F2 ++ T.drop (33 + F2.length) := by
 subst ha
 have e1 : splice (F1 ++ T) F1.length X = (F1 ++ X) ++ T.drop 33 := by
  unfold splice
  rw [List.take_left, hx, List.drop_append, List.drop_of_length_le (by omega), List.nil_append, show F1.length + 33 - F1.length = 33 by omega, List.append_assoc]
 rw [e1]
 unfold splice
 have e2 : (F1 ++ X).length = F1.length + 33 := by rw [List.length_append, hx]
 rw [← e2, List.take_left, List.drop_append, List.drop_of_length_le (by omega), List.nil_append, show (F1 ++ X).length + F2.length - (F1 ++ X).length = F2.length by omega, List.drop_drop, ← List.append_assoc]
theorem spl_del (X F R zs : List Value) (hx : X.length = 33) (hz : zs.length = 33) : splice (splice (X ++ F ++ R) 0 F) F.length zs = F ++ zs ++ R := by
 have e1 : splice (X ++ F ++ R) 0 F = F ++ (X ++ F ++ R).drop F.length := by
  unfold splice
  simp
 have e3 : F.length + 33 = (X ++ F).length := by rw [List.length_append, hx]; omega
 rw [e1]
 unfold splice
 rw [List.take_left, hz, List.drop_append, List.drop_of_length_le (by omega), List.nil_append, List.drop_drop, show F.length + (F.length + 33 - F.length) = (X ++ F).length by rw [← e3]; omega, List.drop_left, ← List.append_assoc]
theorem addr_lit (g o j : Nat) : (⟨g, o, none⟩ : Addr).add j = ⟨g, o + j, none⟩ := by unfold Addr.add; split <;> simp_all
/-- cells of a part of a block -/
theorem Blk.part {{w : World}} {{g : Nat}} {{t : TypeId}} {{F1 F2 R : List Value}} (h : Blk w g t (F1 ++ F2 ++ R)) {{a : Nat}} (ha : F1.length = a) : ∀ j v, F2[j]? = some v → w.cell? ((⟨g, a, none⟩ : Addr).add j) = some v := fun j v hj => by
 rw [addr_lit]
 refine h.cellAt ?_
 subst ha
 rw [List.append_assoc, List.getElem?_append_right (by omega), show F1.length + j - F1.length = j by omega, List.getElem?_append_left (List.getElem?_eq_some_iff.1 hj).1]
 exact hj
theorem run_append_vr (s : Pl) (l : List Po) (x : Po) (gx : Nat) (w : World) (ty : TypeId) (h : Vr w s l) (hx : Blk w gx tPo (Po.cells x)) (hxd : x.dg.length = 32) (hk : s.2.1 ≤ 1000) :
  ∃ (s' : Pl) (w' : World), (Builtin.append_ #[tPos, tPos] ty #[.slice s.1 s.2.1 s.2.2, .slice (some ⟨gx, 0, none⟩) 1 1]).run Try.prog w = .ok (.slice s'.1 (s.2.1 + 1) s'.2.2) w' ∧ VrOut w s (l ++ [x]) (s.2.1 + 1) (.returned (.slice s'.1 (s.2.1 + 1) s'.2.2)) w' := by
 obtain ⟨A, k, c⟩ := s
 have hE := Try.el_po
 obtain ⟨ti, hti, h2⟩ := Option.map_eq_some_iff.1 hE.info
 simp only [Prod.mk.injEq] at h2
 obtain ⟨hz, hsize, hby⟩ := h2
 have hxl := Po.cells_len x hxd
 have hdd : ∀ p ∈ l ++ [x], p.dg.length = 32 := fun p hp => (List.mem_append.1 hp).elim (h.1 p) (fun e => by rw [List.mem_singleton.1 e]; exact hxd)
 have hll : (l ++ [x]).length = k + 1 := by have := h.2.1; simp at this ⊢; exact this
 have hfl : flP (l ++ [x]) = flP l ++ Po.cells x := by rw [flP_app, flP_cons, flP_nil, List.append_nil]
 have hsrc : ∀ j v, (Po.cells x)[j]? = some v → w.cell? ((⟨gx, 0, none⟩ : Addr).add j) = some v := fun j v hj => by
  rw [addr_lit, Nat.zero_add]
  exact hx.cellAt hj
 have h1x : ∀ v ∈ Po.cells x, v.oneCell' = true := fun u hu => Array.all_eq_true_iff_forall_mem.1 (Po.one x) u (by simpa using hu)
 have hzz : ((Value.agg (Po.cells ⟨0, List.replicate 32 0⟩).toArray).cells).size = 33 := hE.zero
 have grown : ∀ (old : Nat), old < k + 1 → ∀ olds : List Value, olds = flP l → VrOut w (A, k, c) (l ++ [x]) (k + 1) (.returned (.slice (some ⟨w.heap.size, 0, none⟩) (k + 1) (grownCap w (k + 1) old tPo)))
   (w.drew.alloc (.cells (olds.toArray ++ (Po.cells x).toArray ++ Builtin.zeroCells (Value.agg (Po.cells ⟨0, List.replicate 32 0⟩).toArray).cells (grownCap w (k + 1) old tPo - (k + 1))) tPo)) := by
  rintro old ho olds rfl
  have hge := grownCap_ge w (k + 1) old tPo
  have hcm : grownCap w (k + 1) old tPo ≤ maxLen := grownCap_le_maxLen w (k + 1) old tPo (by simp only at hk; simp only [maxLen]; omega)
  refine ⟨(some ⟨w.heap.size, 0, none⟩, k + 1, grownCap w (k + 1) old tPo), rfl, rfl, ⟨hdd, hll, .inr ⟨w.heap.size, (Builtin.zeroCells (Value.agg (Po.cells ⟨0, List.replicate 32 0⟩).toArray).cells (grownCap w (k + 1) old tPo - (k + 1))).toList, rfl, ?_, ?_, hge, hcm⟩⟩, ⟨rfl, rfl, rfl, by simp, fun b hb _ => Below.heap_alloc w.drew _ b hb⟩, ?_⟩
  ·show Blk (w.drew.alloc _) w.drew.heap.size tPo _
   exact Blk.fresh rfl (by rw [hfl]; simp)
  ·simp only [Array.length_toList, size_zeroCells, hzz]
  ·rintro q ⟨a, e, rfl⟩
   injection e with e
   rw [← e]
   exact .inr (Nat.le_refl _)
 rcases h.2.2 with e | ⟨g, rest, e, hb, hr, hkc, hm⟩
 ·injection e with e1 e2
  injection e2 with e2 e3
  subst e1 e2 e3
  have hl0 : l = [] := List.eq_nil_of_length_eq_zero h.2.1
  subst hl0
  have hrun := run_append_nil (P := Try.prog) (w := w) tPos ty tPo ti _ hE.sl hti hz ⟨gx, 0, none⟩ 1 1 (Po.cells x) (by rw [hsize, hxl]) hsrc (by omega) (by omega) (by rw [hby]; omega)
  have := grown 0 (by omega) [] rfl
  simp only [List.toArray, Array.empty_append, Nat.zero_add] at this hrun
  exact ⟨(some ⟨w.heap.size, 0, none⟩, 0 + 1, grownCap w 1 0 tPo), _, hrun, by simpa using this⟩
 ·simp only at e hr hkc hm hb
  subst e
  have hl9 : (flP l).length = k * 33 := by have := flP_len h.1; rw [h.2.1] at this; exact this
  by_cases hroom : k + 1 ≤ c
  ·have hrun := hE.run_append_in w ty g k c (flP l ++ rest) hb ⟨gx, 0, none⟩ 1 1 (Po.cells x) (by rw [hxl]) hsrc h1x hroom (by rw [hxl, List.length_append, hl9, hr]; omega)
   refine ⟨(some ⟨g, 0, none⟩, k + 1, c), _, hrun, (some ⟨g, 0, none⟩, k + 1, c), rfl, rfl, ⟨hdd, hll, .inr ⟨g, rest.drop 33, rfl, ?_, ?_, hroom, hm⟩⟩, Ft.of_grown (only_row w g _) (fun b hb => .inl ⟨_, rfl, Option.some.inj hb⟩), fun q hq => .inl hq⟩
   ·have e9 : splice (flP l ++ rest) (k * 33) (Po.cells x) = flP (l ++ [x]) ++ rest.drop 33 := by
     rw [hfl, ← hl9]
     unfold splice
     rw [List.take_left, hxl, List.drop_append, List.drop_of_length_le (by omega), List.nil_append, show (flP l).length + 33 - (flP l).length = 33 by omega, List.append_assoc]
    rw [← e9]
    exact hb.spl _ _
   ·rw [List.length_drop, hr]
    show (c - k) * 33 - 33 = (c - (k + 1)) * 33
    omega
  ·have holds : ∀ j u, (flP l)[j]? = some u → w.cell? ((⟨g, 0, none⟩ : Addr).add j) = some u := fun j u hu => by
    rw [addr_lit, Nat.zero_add]
    exact hb.cellAt (by rw [List.getElem?_append_left (List.getElem?_eq_some_iff.1 hu).1]; exact hu)
   have hrun := run_append_grow (P := Try.prog) (w := w) tPos ty tPo ti _ hE.sl hti hz ⟨g, 0, none⟩ k c (flP l) (by rw [hsize]; exact hl9) holds ⟨gx, 0, none⟩ 1 1 (Po.cells x) (by rw [hsize, hxl]) hsrc (by omega) (by simp only at hk; omega) (growslice_fits (by omega) (by rw [hby]; simp only at hk; omega))
   exact ⟨(some ⟨w.heap.size, 0, none⟩, k + 1, grownCap w (k + 1) c tPo), _, hrun, grown c (by omega) (flP l) rfl⟩
set_option maxHeartbeats 16000000 in
set_option maxRecDepth 100000 in
theorem insertp_end (s : Pl) (l : List Po) (x : Po) (gx : Nat) (w : World) (h : Vr w s l) (hx : Blk w gx tPo (Po.cells x)) (hxd : x.dg.length = 32) (hk : s.2.1 ≤ 1000) :
  Calls Try.prog 39 #[.slice s.1 s.2.1 s.2.2, .int .i64 (s.2.1 : Int), .slice (some ⟨gx, 0, none⟩) 1 1] w fun e w' => VrOut w s (l ++ [x]) (s.2.1 + 1) e w' := by
 obtain ⟨s', w', hrun, HO⟩ := run_append_vr s l x gx w tPos h hx hxd hk
 obtain ⟨A, k, c⟩ := s
 simp only at hrun
 have HOut := Lib.hid HO
 have HR : Hid ((Builtin.append_ #[tPos, tPos] tPos #[.slice A k c, .slice (some ⟨gx, 0, none⟩) 1 1]).run Try.prog w = .ok (.slice s'.1 (k + 1) s'.2.2) w') := Lib.hid hrun
 clear h hx hxd hrun HO hk
 go_enter Try.func39, Try.ntmps39
 go_wp2_with (at_builtin; refine wpList_append_runI _ rfl (.tmp 23) (.tmp 24) tPos tPos rfl _ _ rfl rfl HR.out ?_)
 all_goals (go_ret; exact HOut.out)
set_option maxHeartbeats 16000000 in
set_option maxRecDepth 100000 in
theorem insertp_in (s : Pl) (l : List Po) (x : Po) (i gx : Nat) (w : World) (h : Vr w s l) (hx : Blk w gx tPo (Po.cells x)) (hxd : x.dg.length = 32) (hne : ¬ vrB s gx) (hi : i < s.2.1) (hk : s.2.1 ≤ 1000) (hroom : s.2.1 + 1 ≤ s.2.2) :
  Calls Try.prog 39 #[.slice s.1 s.2.1 s.2.2, .int .i64 (i : Int), .slice (some ⟨gx, 0, none⟩) 1 1] w fun e w' => VrOut w s (insP l i x) (s.2.1 + 1) e w' := by
 obtain ⟨A, k, c⟩ := s
 have hov : ∀ (W : World) (g : Nat) (o lb cb : Nat) (cur : List Value), Blk W gx tPo (Po.cells x) → Blk W g tPo cur → gx ≠ g → cur ≠ [] → (callFunc 53 #[.slice (some ⟨gx, 0, none⟩) 1 1, .slice (some ⟨g, o, none⟩) lb cb]).run Try.prog W = .ok (.value (.bool false)) W := fun W g o lb cb cur hx1 hg1 hne1 hc1 => by
  rw [run_callFunc_extern Try.func53 (by kernel_rfl) (by kernel_rfl) (by kernel_rfl) (e := Extern.SlicesOverlaps.overlaps #[tPos, tPos] #[4]) (by kernel_rfl),
   Lib.run_overlaps_apart W tPos 4 tPo Try.underlying39 33 (fun W => by kernel_rfl) ⟨gx, 0, none⟩ ⟨g, o, none⟩ 1 1 lb cb hne1 tPo tPo (Po.cells x).length cur.length (by simp [World.shape?, show W.heap[gx]? = _ from hx1]) (by simp [World.shape?, show W.heap[g]? = _ from hg1]) (by intro h9; exact hc1 (List.eq_nil_of_length_eq_zero h9)) (hx1.frozen 0) (hx1.frozen _)]
  rfl
 have h2 := h.2.1
 rcases h.2.2 with e | ⟨g, rest, e, hb, hr, hkc, hm⟩
 ·injection e with e1 e2
  injection e2 with e2 e3
  subst e1 e2 e3
  exact absurd hi (Nat.not_lt_zero _)
 simp only at e hr hkc hm hb hi hk h2
 subst e
 have hgx : gx ≠ g := fun e => hne ⟨⟨g, 0, none⟩, rfl, e.symm⟩
 have hl9 : (flP l).length = k * 33 := by have := flP_len h.1; rw [h2] at this; exact this
 have hF1 : (flP (l.take i)).length = i * 33 := by rw [flP_len (fun p hp => h.1 p (List.mem_of_mem_take hp)), List.length_take]; congr 1; omega
 have hF2 : (flP (l.drop i)).length = (k - i) * 33 := by rw [flP_len (fun p hp => h.1 p (List.mem_of_mem_drop hp)), List.length_drop, h2]
 have hdd : ∀ p ∈ insP l i x, p.dg.length = 32 := fun p hp => by
  rcases mem_ins.1 hp with rfl | h9
  ·exact hxd
  ·exact h.1 p h9
 have hll : (insP l i x).length = k + 1 := by rw [insP_len (by omega)]; omega
 have hfl : flP (insP l i x) = flP (l.take i) ++ Po.cells x ++ flP (l.drop i) := by unfold insP; rw [flP_app, flP_cons, List.append_assoc]
 have hxl := Po.cells_len x hxd
 rw [flP_td l i] at hb
 simp only at hroom
 have hz2 : ¬ ((i : Int) = (k : Int)) := by omega
 have hw0 : IntKind.i64.wrap ((k : Int) + 1) = (k : Int) + 1 := IntWalk.i64_in _ (by omega)
 have hw1 : IntKind.i64.wrap ((i : Int) + 1) = (i : Int) + 1 := IntWalk.i64_in _ (by omega)
 have hb1 : (0 : Int) ≤ (i : Int) + 1 := by omega
 have htn : ((i : Int) + 1).toNat = i + 1 := by omega
 have htk : ((k : Int) + 1).toNat = k + 1 := by omega
 have hb5 : (0 : Int) ≤ (k : Int) + 1 := by omega
 have hb4 : ¬ c = i := by omega
 have hin : i ≤ k := by omega
 have hcg : ¬ (c : Int) < (k : Int) + 1 := by omega
 have hcg2 : ¬ c < k + 1 := by omega
 have hb2 : ¬ c = i + 1 := by omega
 have hc0 : ¬ c = 0 := by omega
 have hb3 : (i : Int) ≤ (k : Int) + 1 := by omega
 have hb6 : (k : Int) + 1 ≤ (c : Int) := by omega
 have hm63 : c ≤ 9223372036854775807 := by unfold maxLen at hm; omega
 have hov1 := fun lb cb => hov w g ((i + 1) * 33) lb cb _ hx hb hgx (by intro h9; have h8 := congrArg List.length h9; simp only [List.length_append, hF1, hF2, List.length_nil] at h8; omega)
 have HB := Lib.hid hb
 have HX := Lib.hid hx
 have HM := Lib.hid hm
 clear h hx hb hxd hne hov hm
 go_enter Try.func39, Try.ntmps39
 go_wp2_with (simp only [hov1])
 refine wp_region_held_drew (S := fun _ => True) (by kernel_rfl) trivial (fun hHeld => ?_)
 change wpAnyH _ _ _ _ _ _ #[false, false, false, false, false, false, false, false, false] _ _
 refine tkq (i := 0) (d := 69) (v := (.slice (some ⟨g, 0, none⟩) (k + 1) c)) rfl rfl (Or.inl ⟨by kernel_rfl, fun w hSw => ?_⟩) (by assumption) ?_
 ·(try dsimp only at hSw); go_simp <;> (try rfl)
 simp only [Act.put, sq1, sq2, sq3]
 refine tkq (i := 1) (d := 70) (v := (.int .i64 (i : Int))) rfl rfl (Or.inl ⟨by kernel_rfl, fun w hSw => ?_⟩) (by assumption) ?_
 ·(try dsimp only at hSw); go_simp <;> (try rfl)
 simp only [Act.put, sq1, sq2, sq3]
 refine tkq (i := 2) (d := 71) (v := (.int .i64 1)) rfl rfl (Or.inl ⟨by kernel_rfl, fun w hSw => ?_⟩) (by assumption) ?_
 ·(try dsimp only at hSw); go_simp <;> (try rfl)
 simp only [Act.put, sq1, sq2, sq3]
 refine tkq (i := 3) (d := 72) (v := (.int .i64 ((i : Int) + 1))) rfl rfl (Or.inl ⟨by kernel_rfl, fun w hSw => ?_⟩) (by assumption) ?_
 ·(try dsimp only at hSw); go_simp <;> (try rfl)
 simp only [Act.put, sq1, sq2, sq3]
 refine tkq (i := 4) (d := 73) (v := (.slice (some ⟨g, (i + 1) * 33, none⟩) (k - i) (c - (i + 1)))) rfl rfl (Or.inl ⟨by kernel_rfl, fun w hSw => ?_⟩) (by assumption) ?_
 ·(try dsimp only at hSw); go_simp <;> (try rfl)
 simp only [Act.put, sq1, sq2, sq3]
 refine tkq (i := 5) (d := 74) (v := (.slice (some ⟨g, 0, none⟩) (k + 1) c)) rfl rfl (Or.inl ⟨by kernel_rfl, fun w hSw => ?_⟩) (by assumption) ?_
 ·(try dsimp only at hSw); go_simp <;> (try rfl)
 simp only [Act.put, sq1, sq2, sq3]
 refine tkq (i := 6) (d := 75) (v := (.int .i64 (i : Int))) rfl rfl (Or.inl ⟨by kernel_rfl, fun w hSw => ?_⟩) (by assumption) ?_
 ·(try dsimp only at hSw); go_simp <;> (try rfl)
 simp only [Act.put, sq1, sq2, sq3]
 refine tkq (i := 7) (d := 76) (v := (.slice (some ⟨g, i * 33, none⟩) (k + 1 - i) (c - i))) rfl rfl (Or.inl ⟨by kernel_rfl, fun w hSw => ?_⟩) (by assumption) ?_
 ·(try dsimp only at hSw); go_simp <;> (try rfl)
 simp only [Act.put, sq1, sq2, sq3]
 refine wpAnyH_ready (rs := [8]) (by kernel_rfl) (by simp) ?_
 refine AllReadyH.cons (o := ⟨some 77, .call ⟨.builtin .copy, #[.tmp 73, .tmp 76], #[tPos, tPos]⟩, _, _, _, none⟩) rfl (fun K hK => ?_) AllReadyH.nil
 refine step_copy_k rfl Try.el_po (.tmp 73) (.tmp 76) rfl g ((i + 1) * 33) (k - i) (c - (i + 1)) ⟨g, i * 33, none⟩ (k + 1 - i) (c - i) (flP (l.take i) ++ flP (l.drop i) ++ rest) tPo (flP (l.drop i)) (k - i) rfl rfl HB.out (by simp only [Nat.min_def]; split <;> omega) hF2 (HB.out.part hF1) (by rw [hF2, List.length_append, List.length_append, hF1, hF2, hr]; omega) flP_one ?_; intro w5 hb5 hg5; have HB5 := Lib.hid hb5; have HG5 := Lib.hid hg5; have HX5 := Lib.hid (HX.out.drew.grown hg5 (fun e => hgx (Option.some.inj e))); clear hb5 hg5
 refine hK.out _ _ trivial (fun hHeld1 => ?_)
 clear hHeld hK K
 have hHeld := hHeld1
 clear hHeld1
 change wpAnyH _ _ _ _ _ _ _ (Act.put _ (some (77 : Nat)) (.int .i64 ((k - i : Nat) : Int))) _
 simp only [Act.put, sq1, sq2, sq3]
 refine wpAnyH_done (by kernel_rfl) ?_ _
 clear hHeld
 go_wp2_with (refine wpList_copy_k rfl Try.el_po (.tmp 80) (.tmp 81) rfl g (i * 33) (k + 1 - i) (c - i) ⟨gx, 0, none⟩ 1 1 _ tPo (Po.cells x) 1 rfl rfl HB5.out (by simp only [Nat.min_def]; split <;> omega) (by rw [hxl]) (by intro j v hj; rw [addr_lit, Nat.zero_add]; exact HX5.out.cellAt hj) (by rw [hxl, splice_len _ _ _ (by rw [hF2, List.length_append, List.length_append, hF1, hF2, hr]; omega), List.length_append, List.length_append, hF1, hF2, hr]; omega) (fun u hu => Array.all_eq_true_iff_forall_mem.1 (Po.one x) u (by simpa using hu)) ?_; intro w6 hb6 hg6; have HB6 := Lib.hid hb6; have HG6 := Lib.hid (only_trans HG5.out hg6); clear hb6 hg6)
 go_ret
 have e6 := spl_in (flP (l.take i)) (flP (l.drop i)) rest (Po.cells x) (i * 33) hF1 hxl (by rw [hr]; omega)
 rw [show (i + 1) * 33 = i * 33 + 33 by omega] at HB6
 rw [e6] at HB6
 refine ⟨(some ⟨g, 0, none⟩, k + 1, c), rfl, rfl, ⟨hdd, hll, .inr ⟨g, rest.drop 33, rfl, by rw [hfl]; exact HB6.out, ?_, hroom, HM.out⟩⟩, Ft.of_grown (only_trans (only_drew w g) HG6.out) (fun b hb => .inl ⟨_, rfl, Option.some.inj hb⟩), fun q hq => .inl hq⟩
 rw [List.length_drop, hr]
 show (c - k) * 33 - 33 = (c - (k + 1)) * 33
 omega
set_option maxHeartbeats 16000000 in
set_option maxRecDepth 100000 in
theorem insertp_new (s : Pl) (l : List Po) (x : Po) (i gx : Nat) (w : World) (h : Vr w s l) (hx : Blk w gx tPo (Po.cells x)) (hxd : x.dg.length = 32) (hne : ¬ vrB s gx) (hi : i < s.2.1) (hk : s.2.1 ≤ 1000) (hroom : s.2.2 < s.2.1 + 1) :
  Calls Try.prog 39 #[.slice s.1 s.2.1 s.2.2, .int .i64 (i : Int), .slice (some ⟨gx, 0, none⟩) 1 1] w fun e w' => VrOut w s (insP l i x) (s.2.1 + 1) e w' := by
 obtain ⟨A, k, c⟩ := s
 have h2 := h.2.1
 rcases h.2.2 with e | ⟨g, rest, e, hb, hr, hkc, hm⟩
 ·injection e with e1 e2
  injection e2 with e2 e3
  subst e1 e2 e3
  exact absurd hi (Nat.not_lt_zero _)
 simp only at e hr hkc hm hb hi hk h2
 subst e
 have hgx : gx ≠ g := fun e => hne ⟨⟨g, 0, none⟩, rfl, e.symm⟩
 have hl9 : (flP l).length = k * 33 := by have := flP_len h.1; rw [h2] at this; exact this
 have hF1 : (flP (l.take i)).length = i * 33 := by rw [flP_len (fun p hp => h.1 p (List.mem_of_mem_take hp)), List.length_take]; congr 1; omega
 have hF2 : (flP (l.drop i)).length = (k - i) * 33 := by rw [flP_len (fun p hp => h.1 p (List.mem_of_mem_drop hp)), List.length_drop, h2]
 have hdd : ∀ p ∈ insP l i x, p.dg.length = 32 := fun p hp => by
  rcases mem_ins.1 hp with rfl | h9
  ·exact hxd
  ·exact h.1 p h9
 have hll : (insP l i x).length = k + 1 := by rw [insP_len (by omega)]; omega
 have hfl : flP (insP l i x) = flP (l.take i) ++ Po.cells x ++ flP (l.drop i) := by unfold insP; rw [flP_app, flP_cons, List.append_assoc]
 have hxl := Po.cells_len x hxd
 rw [flP_td l i] at hb
 simp only at hroom
 obtain rfl : c = k := by omega
 have hz2 : ¬ ((i : Int) = (c : Int)) := by omega
 have hw0 : IntKind.i64.wrap ((c : Int) + 1) = (c : Int) + 1 := IntWalk.i64_in _ (by omega)
 have hw1 : IntKind.i64.wrap ((i : Int) + 1) = (i : Int) + 1 := IntWalk.i64_in _ (by omega)
 have hb1 : (0 : Int) ≤ (i : Int) + 1 := by omega
 have htn : ((i : Int) + 1).toNat = i + 1 := by omega
 have htk : ((c : Int) + 1).toNat = c + 1 := by omega
 have hb5 : (0 : Int) ≤ (c : Int) + 1 := by omega
 have hb4 : ¬ c = i := by omega
 have hin : i ≤ c := by omega
 have hcg : (c : Int) < (c : Int) + 1 := by omega
 have hw2 : IntKind.i64.wrap ((c : Int) + 1 - (i : Int)) = (c : Int) + 1 - (i : Int) := IntWalk.i64_in _ (by omega)
 have hkk : (c : Int) + 1 - (i : Int) = ((c + 1 - i : Nat) : Int) := by omega
 have hik : i + (c + 1 - i) = c + 1 := by omega
 have hb6 : (i : Int) ≤ (c : Int) := by omega
 have hb7 : (i : Int) ≤ (c : Int) + 1 := by omega
 have hb8 : (i : Int) + 1 ≤ (c : Int) + 1 := by omega
 have HB := Lib.hid hb
 have HX := Lib.hid hx
 clear h hx hb hxd hne hm
 go_enter Try.func39, Try.ntmps39
 go_upto_region 9 with fail
 go_upto_region 10 with (at_builtin; refine wpList_append_more rfl Try.el_po 3 Try.underlying3 (.tmp 34) (.tmp 39) rfl g i c (c + 1 - i) rfl (by first | rfl | exact congrArg (Value.int .i64) hkk) (flP (l.take i) ++ flP (l.drop i) ++ rest) HB.out (by rw [List.length_append, List.length_append, hF1, hF2]; omega) (by omega) (by omega) (by omega) ?_; intro g9 G w5 tl hg9 hb9 htl hG hGm hx9; rw [hik]; rw [List.append_assoc, ← hF1, List.take_left] at hb9; have HB5 := Lib.hid hb9; have HTl := Lib.hid htl; have HG9 := Lib.hid hG; have HGm := Lib.hid hGm; have HX5 := Lib.hid hx9; have HE9 := Lib.hid hg9; have hG1 : ¬ G = i := (by omega); have hG2 : ¬ G = i + 1 := (by omega); clear hg9 hb9 htl hG hGm hx9)
 go_wp2_with (refine wpList_copy_k rfl Try.el_po (.tmp 43) (.tmp 44) rfl g9 (i * 33) (c + 1 - i) (G - i) ⟨gx, 0, none⟩ 1 1 _ tPo (Po.cells x) 1 rfl rfl HB5.out (by simp only [Nat.min_def]; split <;> omega) (by rw [hxl]) (by intro j v hj; rw [addr_lit, Nat.zero_add]; exact (HX.out.through HX5.out).cellAt hj) (by have := HTl.out; have := HG9.out; rw [hxl, List.length_append, hF1]; omega) (fun u hu => Array.all_eq_true_iff_forall_mem.1 (Po.one x) u (by simpa using hu)) ?_; intro w6 hb6 hg6; have HB6 := Lib.hid hb6; have HG6 := Lib.hid hg6; have HO6 := Lib.hid ((HB.out.through HX5.out).grown hg6 (fun e => by have h9 := Option.some.inj e; have h8 := HE9.out; have := HB.out.lt; omega)); clear hb6 hg6)
 refine wp_region_held_drew (S := fun _ => True) (by kernel_rfl) trivial (fun hHeld => ?_)
 change wpAnyH _ _ _ _ _ _ #[false, false, false, false, false, false, false, false, false] _ _
 refine tkq (i := 0) (d := 46) (v := (.slice (some ⟨g9, 0, none⟩) (c + 1) G)) rfl rfl (Or.inl ⟨by kernel_rfl, fun w hSw => ?_⟩) (by assumption) ?_
 ·(try dsimp only at hSw); go_simp <;> (try rfl)
 simp only [Act.put, sq1, sq2, sq3]
 refine tkq (i := 1) (d := 47) (v := (.int .i64 (i : Int))) rfl rfl (Or.inl ⟨by kernel_rfl, fun w hSw => ?_⟩) (by assumption) ?_
 ·(try dsimp only at hSw); go_simp <;> (try rfl)
 simp only [Act.put, sq1, sq2, sq3]
 refine tkq (i := 2) (d := 48) (v := (.int .i64 1)) rfl rfl (Or.inl ⟨by kernel_rfl, fun w hSw => ?_⟩) (by assumption) ?_
 ·(try dsimp only at hSw); go_simp <;> (try rfl)
 simp only [Act.put, sq1, sq2, sq3]
 refine tkq (i := 3) (d := 49) (v := (.int .i64 ((i : Int) + 1))) rfl rfl (Or.inl ⟨by kernel_rfl, fun w hSw => ?_⟩) (by assumption) ?_
 ·(try dsimp only at hSw); go_simp <;> (try rfl)
 simp only [Act.put, sq1, sq2, sq3]
 refine tkq (i := 4) (d := 50) (v := (.slice (some ⟨g9, (i + 1) * 33, none⟩) (c - i) (G - (i + 1)))) rfl rfl (Or.inl ⟨by kernel_rfl, fun w hSw => ?_⟩) (by assumption) ?_
 ·(try dsimp only at hSw); go_simp <;> (try rfl)
 simp only [Act.put, sq1, sq2, sq3]
 refine tkq (i := 5) (d := 51) (v := (.slice (some ⟨g, 0, none⟩) c c)) rfl rfl (Or.inl ⟨by kernel_rfl, fun w hSw => ?_⟩) (by assumption) ?_
 ·(try dsimp only at hSw); go_simp <;> (try rfl)
 simp only [Act.put, sq1, sq2, sq3]
 refine tkq (i := 6) (d := 52) (v := (.int .i64 (i : Int))) rfl rfl (Or.inl ⟨by kernel_rfl, fun w hSw => ?_⟩) (by assumption) ?_
 ·(try dsimp only at hSw); go_simp <;> (try rfl)
 simp only [Act.put, sq1, sq2, sq3]
 refine tkq (i := 7) (d := 53) (v := (.slice (some ⟨g, i * 33, none⟩) (c - i) (c - i))) rfl rfl (Or.inl ⟨by kernel_rfl, fun w hSw => ?_⟩) (by assumption) ?_
 ·(try dsimp only at hSw); go_simp <;> (try rfl)
 simp only [Act.put, sq1, sq2, sq3]
 refine wpAnyH_ready (rs := [8]) (by kernel_rfl) (by simp) ?_
 refine AllReadyH.cons (o := ⟨some 54, .call ⟨.builtin .copy, #[.tmp 50, .tmp 53], #[tPos, tPos]⟩, _, _, _, none⟩) rfl (fun K hK => ?_) AllReadyH.nil
 refine step_copy_k rfl Try.el_po (.tmp 50) (.tmp 53) rfl g9 ((i + 1) * 33) (c - i) (G - (i + 1)) ⟨g, i * 33, none⟩ (c - i) (c - i) _ tPo (flP (l.drop i)) (c - i) rfl rfl HB6.out.drew (by simp only [Nat.min_def]; split <;> omega) hF2 (HO6.out.drew.part hF1) (by have := HTl.out; have := HG9.out; rw [hF2, splice_len _ _ _ (by rw [hxl, List.length_append, hF1]; omega), List.length_append, hF1]; omega) flP_one ?_; intro w7 hb7 hg7; have HB7 := Lib.hid hb7; have HG7 := Lib.hid hg7; clear hb7 hg7
 refine hK.out _ _ trivial (fun hHeld1 => ?_)
 clear hHeld hK K
 have hHeld := hHeld1
 clear hHeld1
 change wpAnyH _ _ _ _ _ _ _ (Act.put _ (some (54 : Nat)) (.int .i64 ((c - i : Nat) : Int))) _
 simp only [Act.put, sq1, sq2, sq3]
 refine wpAnyH_done (by kernel_rfl) ?_ _
 clear hHeld
 go_wp2
 go_ret
 have e6 := spl_new (flP (l.take i)) (flP (l.drop i)) tl (Po.cells x) (i * 33) hF1 hxl (by have := HTl.out; have := HG9.out; rw [hF2]; omega)
 rw [show (i + 1) * 33 = i * 33 + 33 by omega] at HB7
 rw [e6] at HB7
 have hle := HX5.out.size
 refine ⟨(some ⟨g9, 0, none⟩, c + 1, G), rfl, rfl, ⟨hdd, hll, .inr ⟨g9, tl.drop (33 + (flP (l.drop i)).length), rfl, by rw [hfl]; exact HB7.out, ?_, (by have := HG9.out; simp only; omega), HGm.out⟩⟩, ⟨(HG7.out.os).trans ((HG6.out.os).trans HX5.out.os), (HG7.out.tape).trans ((HG6.out.tape).trans HX5.out.tape), (HG7.out.output).trans ((HG6.out.output).trans HX5.out.output), Nat.le_trans hle (Nat.le_trans HG6.out.size HG7.out.size), fun b hb _ => ?_⟩, ?_⟩
 ·have := HTl.out; have := HG9.out; rw [List.length_drop, hF2]; show _ = (G - (c + 1)) * 33; omega
 ·have h8 := HG7.out.block b (by have := HG6.out.size; show b < w6.heap.size; omega) (fun e => by have := Option.some.inj e; have := HE9.out; omega)
  have h7 := HG6.out.block b (by omega) (fun e => by have := Option.some.inj e; have := HE9.out; omega)
  exact h8.trans (h7.trans (HX5.out.block b hb))
 ·rintro q ⟨a, e, rfl⟩
  injection e with e
  rw [← e]
  exact .inr (Nat.le_of_eq HE9.out.symm)
theorem insertp_any (s : Pl) (l : List Po) (x : Po) (i gx : Nat) (w : World) (h : Vr w s l) (hx : Blk w gx tPo (Po.cells x)) (hxd : x.dg.length = 32) (hne : ¬ vrB s gx) (hi : i ≤ s.2.1) (hk : s.2.1 ≤ 1000) :
  Calls Try.prog 39 #[.slice s.1 s.2.1 s.2.2, .int .i64 (i : Int), .slice (some ⟨gx, 0, none⟩) 1 1] w fun e w' => VrOut w s (insP l i x) (s.2.1 + 1) e w' := by
 by_cases h1 : i = s.2.1
 ·subst h1
  have e : insP l s.2.1 x = l ++ [x] := by unfold insP; rw [← h.2.1, List.take_length, List.drop_length]
  rw [e]
  exact insertp_end s l x gx w h hx hxd hk
 ·by_cases h2 : s.2.1 + 1 ≤ s.2.2
  ·exact insertp_in s l x i gx w h hx hxd hne (by omega) hk h2
  ·exact insertp_new s l x i gx w h hx hxd hne (by omega) hk (by omega)
set_option maxHeartbeats 16000000 in
set_option maxRecDepth 100000 in
theorem delete_none (s : Pl) (l : List Po) (w : World) (h : Vr w s l) (hk : s.2.1 ≤ 1000) :
  Calls Try.prog 40 #[.slice s.1 s.2.1 s.2.2, .int .i64 0, .int .i64 0] w fun e w' => VrOut w s l s.2.1 e w' := by
 have HV : Hid (VrOut w s l s.2.1 (.returned (.slice s.1 s.2.1 s.2.2)) w) := Lib.hid ⟨s, rfl, rfl, h, Ft.refl _ w, fun q hq => .inl hq⟩
 obtain ⟨A, k, c⟩ := s
 have hkc : k ≤ c := by
  rcases h.2.2 with e | ⟨g, rest, e, hb, hr, hkc, hm⟩
  ·injection e with e1 e2
   injection e2 with e2 e3
   subst e2 e3
   exact Nat.le_refl _
  ·exact hkc
 simp only at hk
 have hkc2 : (k : Int) ≤ (c : Int) := by omega
 clear h
 go_enter Try.func40, Try.ntmps40
 go_wp2
 all_goals (go_ret; exact HV.out)
set_option maxHeartbeats 16000000 in
set_option maxRecDepth 100000 in
theorem delete_one (s : Pl) (x : Po) (l : List Po) (w : World) (h : Vr w s (x :: l)) (hk2 : 2 ≤ s.2.1) (hk : s.2.1 ≤ 1000) :
  Calls Try.prog 40 #[.slice s.1 s.2.1 s.2.2, .int .i64 0, .int .i64 1] w fun e w' => VrOut w s l (s.2.1 - 1) e w' := by
 obtain ⟨A, k, c⟩ := s
 rcases h.2.2 with e | ⟨g, rest, e, hb, hr, hkc, hm⟩
 ·injection e with e1 e2
  injection e2 with e2 e3
  subst e1 e2 e3
  exact absurd hk2 (by simp)
 simp only at e hr hkc hm hb hk hk2
 subst e
 have HLk : Hid (l.length = k - 1) := Lib.hid (by have := h.2.1; simp at this; omega)
 have hxl := Po.cells_len x (h.1 x (List.mem_cons_self ..))
 have hF := flP_len (fun p hp => h.1 p (List.mem_cons_of_mem x hp))
 have HD := Lib.hid h.1
 rw [flP_cons] at hb
 have HB := Lib.hid hb
 have HM := Lib.hid hm
 have hm63 : c ≤ 9223372036854775807 := by unfold maxLen at hm; omega
 have hc0 : ¬ c = 0 := by omega
 have hc1 : ¬ c = 1 := by omega
 have hck : ¬ c = k - 1 := by omega
 have hkk1 : k - (k - 1) = 1 := by omega
 have hb2 : (k : Int) ≤ (c : Int) := by omega
 have hb3 : (1 : Int) ≤ (k : Int) := by omega
 have hb4 : k - 1 ≤ k := by omega
 clear h hb hm
 go_enter Try.func40, Try.ntmps40
 go_upto_region 5 with fail
 refine wp_region_held_drew (S := fun _ => True) (by kernel_rfl) trivial (fun hHeld => ?_)
 change wpAnyH _ _ _ _ _ _ #[false, false, false, false, false, false, false, false] _ _
 refine tkq (i := 0) (d := 20) (v := (.slice (some ⟨g, 0, none⟩) k c)) rfl rfl (Or.inl ⟨by kernel_rfl, fun w hSw => ?_⟩) (by assumption) ?_
 ·(try dsimp only at hSw); go_simp <;> (try rfl)
 simp only [Act.put, sq1, sq2, sq3]
 refine tkq (i := 1) (d := 21) (v := (.int .i64 0)) rfl rfl (Or.inl ⟨by kernel_rfl, fun w hSw => ?_⟩) (by assumption) ?_
 ·(try dsimp only at hSw); go_simp <;> (try rfl)
 simp only [Act.put, sq1, sq2, sq3]
 refine tkq (i := 2) (d := 22) (v := (.slice (some ⟨g, 0, none⟩) 0 c)) rfl rfl (Or.inl ⟨by kernel_rfl, fun w hSw => ?_⟩) (by assumption) ?_
 ·(try dsimp only at hSw); go_simp <;> (try rfl)
 simp only [Act.put, sq1, sq2, sq3]
 refine tkq (i := 3) (d := 23) (v := (.slice (some ⟨g, 0, none⟩) k c)) rfl rfl (Or.inl ⟨by kernel_rfl, fun w hSw => ?_⟩) (by assumption) ?_
 ·(try dsimp only at hSw); go_simp <;> (try rfl)
 simp only [Act.put, sq1, sq2, sq3]
 refine tkq (i := 4) (d := 24) (v := (.int .i64 1)) rfl rfl (Or.inl ⟨by kernel_rfl, fun w hSw => ?_⟩) (by assumption) ?_
 ·(try dsimp only at hSw); go_simp <;> (try rfl)
 simp only [Act.put, sq1, sq2, sq3]
 refine tkq (i := 5) (d := 25) (v := (.slice (some ⟨g, 33, none⟩) (k - 1) (c - 1))) rfl rfl (Or.inl ⟨by kernel_rfl, fun w hSw => ?_⟩) (by assumption) ?_
 ·(try dsimp only at hSw); go_simp <;> (try rfl)
 simp only [Act.put, sq1, sq2, sq3]
 refine wpAnyH_ready (rs := [6]) (by kernel_rfl) (by simp) ?_
 refine AllReadyH.cons (o := ⟨some 26, .call ⟨.builtin .append, #[.tmp 22, .tmp 25], #[tPos, tPos]⟩, _, _, _, none⟩) rfl (fun K hK => ?_) AllReadyH.nil
 refine step_append_in rfl Try.el_po (.tmp 22) (.tmp 25) rfl g 0 c ⟨g, 33, none⟩ (k - 1) (c - 1) (Po.cells x ++ flP l ++ rest) (flP l) rfl rfl HB.out.drew (by rw [hF, HLk.out]) (HB.out.drew.part hxl) flP_one (by omega) (by rw [hF, HLk.out, List.length_append, List.length_append, hxl, hF, HLk.out, hr]; omega) ?_; rw [Nat.zero_mul, Nat.zero_add]; intro w5 hb5 hg5; have HB5 := Lib.hid hb5; have HG5 := Lib.hid hg5; clear hb5 hg5
 refine hK.out _ _ trivial (fun hHeld1 => ?_)
 clear hHeld hK K
 have hHeld := hHeld1
 clear hHeld1
 change wpAnyH _ _ _ _ _ _ _ (Act.put _ (some (26 : Nat)) (.slice (some ⟨g, 0, none⟩) (k - 1) c)) _
 simp only [Act.put, sq1, sq2, sq3]
 refine tkq (i := 7) (d := 0) (v := (.slice (some ⟨g, 0, none⟩) (k - 1) c)) rfl rfl (Or.inl ⟨by kernel_rfl, fun w hSw => ?_⟩) (by assumption) ?_
 ·(try dsimp only at hSw); go_simp <;> (try rfl)
 simp only [Act.put, sq1, sq2, sq3]
 refine wpAnyH_done (by kernel_rfl) ?_ _
 clear hHeld
 go_wp2_with (refine wpList_clear_k rfl Try.el_po po_z1 (.tmp 31) rfl g ((k - 1) * 33) 1 (c - (k - 1)) tPo _ rfl HB5.out (by rw [splice_len _ _ _ (by rw [hF, HLk.out, List.length_append, List.length_append, hxl, hF, HLk.out, hr]; omega), List.length_append, List.length_append, hxl, hF, HLk.out, hr]; omega) ?_; intro w6 zs hz6 hb6 hg6; have HZ6 := Lib.hid hz6; have HB6 := Lib.hid hb6; have HG6 := Lib.hid (only_trans HG5.out hg6); clear hz6 hb6 hg6)
 go_ret
 have e6 := spl_del (Po.cells x) (flP l) rest zs hxl (by rw [HZ6.out])
 rw [show (k - 1) * 33 = (flP l).length by rw [hF, HLk.out]] at HB6
 rw [e6] at HB6
 refine ⟨(some ⟨g, 0, none⟩, k - 1, c), rfl, rfl, ⟨fun p hp => HD.out p (List.mem_cons_of_mem _ hp), HLk.out, .inr ⟨g, zs ++ rest, rfl, by rw [← List.append_assoc]; exact HB6.out, ?_, by show k - 1 ≤ c; omega, HM.out⟩⟩, Ft.of_grown (only_trans (only_drew w g) HG6.out) (fun b hb => .inl ⟨_, rfl, Option.some.inj hb⟩), fun q hq => .inl hq⟩
 rw [List.length_append, HZ6.out, hr]
 show 1 * 33 + (c - k) * 33 = (c - (k - 1)) * 33
 omega
theorem insertp_c (A : Option Addr) (k c : Nat) (l : List Po) (x : Po) (i gx : Nat) (w : World) (h : Vr w (A, k, c) l) (hx : Blk w gx tPo (Po.cells x)) (hxd : x.dg.length = 32) (hne : ¬ vrB (A, k, c) gx) (hi : i ≤ k) (hk : k ≤ 1000) :
  Calls Try.prog 39 #[.slice A k c, .int .i64 (i : Int), .slice (some ⟨gx, 0, none⟩) 1 1] w fun e w' => VrOut w (A, k, c) (insP l i x) (k + 1) e w' := insertp_any (A, k, c) l x i gx w h hx hxd hne hi hk
theorem delete_none_c (A : Option Addr) (k c : Nat) (l : List Po) (w : World) (h : Vr w (A, k, c) l) (hk : k ≤ 1000) :
  Calls Try.prog 40 #[.slice A k c, .int .i64 0, .int .i64 0] w fun e w' => VrOut w (A, k, c) l k e w' := delete_none (A, k, c) l w h hk
theorem delete_one_c (A : Option Addr) (k c : Nat) (x : Po) (l : List Po) (w : World) (h : Vr w (A, k, c) (x :: l)) (hk2 : 2 ≤ k) (hk : k ≤ 1000) :
  Calls Try.prog 40 #[.slice A k c, .int .i64 0, .int .i64 1] w fun e w' => VrOut w (A, k, c) l (k - 1) e w' := delete_one (A, k, c) x l w h hk2 hk

end Go.Proofs.Ytpolofehkckaoaa
