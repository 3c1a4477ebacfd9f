/-
  Joined: WnV.
-/
import Derived.Deep.CutBlock
import Derived.BigRegion
import Derived.Test.YtponmfkddglopaaWV39
namespace Go.Proofs.Ytponmfkddglopaa
open Go.RowKit

theorem Sl.from_ {w : World} {k n c i : Nat} {A : Option Addr} {xs : List (List Value)} (h : Sl w k A n xs) (hi : i ≤ n) (hc : n ≤ c) : ∃ A', (if c = i then A else A.map (·.add (i * k))) = A' ∧ Sl w k A' (n - i) (xs.drop i) :=
 ⟨_, rfl, by rw [List.length_drop, h.1], fun hn => by
  obtain ⟨g, o, e, hcell⟩ := h.2 (by omega)
  subst e
  rw [if_neg (by omega)]
  refine ⟨g, o + i * k, ?_, fun j cs hj => ?_⟩
  ·simp only [Option.map_some, Option.some.injEq]
   unfold Addr.add; split <;> simp_all
  ·have h1 := hcell (i + j) cs (by rw [← hj, List.getElem?_drop])
   rw [show o + (i + j) * k = o + i * k + j * k by rw [Nat.add_mul]; omega] at h1
   exact h1⟩
theorem Sl.to_ {w : World} {k n i : Nat} {A : Option Addr} {xs : List (List Value)} (h : Sl w k A n xs) (hi : i ≤ n) : Sl w k A i (xs.take i) :=
 ⟨by rw [List.length_take, h.1]; omega, fun hn => by
  obtain ⟨g, o, e, hcell⟩ := h.2 (by omega)
  refine ⟨g, o, e, fun j cs hj => hcell j cs ?_⟩
  rw [List.getElem?_take] at hj
  split at hj
  ·exact hj
  ·cases hj⟩
def rowQ (A : Option Addr) (n : Nat) : Nat → Prop := fun q => 0 < n ∧ ∃ a, A = some a ∧ a.block = q
def pairW (f : List Fr) : Lw := f.map (fun x => (x.q, x.s))
/-- the document's log: its box, its two rows, its slots -/
structure DLg (W : World) (L : Nat) (n low : Int) (f : List Fr) (A B : Option Addr) (c d : Nat) : Prop where
 box : Blk W L 38 (lgC n low (.slice A f.length c) (.slice B f.length d))
 hc : f.length ≤ c
 hd : f.length ≤ d
 sq : QIn W A f.length (f.map Fr.q)
 pt : VIn W B f.length (f.map Fr.v)
 fam : Fam TD W f
 apA : ∀ q, rowQ A f.length q → q ≠ L ∧ ¬ FD f q
 apB : ∀ q, rowQ B f.length q → q ≠ L ∧ ¬ FD f q
 apL : ¬ FD f L
theorem Sl.ft {w w' : World} {D : Nat → Prop} {A : Option Addr} {n : Nat} {xs : List (List Value)} (h : Sl w 1 A n xs) (hx : ∀ x ∈ xs, x.length = 1) (hf : Ft D w w') (ha : ∀ q, rowQ A n q → ¬ D q) : Sl w' 1 A n xs := by
 refine ⟨h.1, fun hn => ?_⟩
 obtain ⟨g, o, e, hc⟩ := h.2 hn
 refine ⟨g, o, e, fun i cs hi => ?_⟩
 have h1 := hc i cs hi
 have hl := hx cs (List.mem_of_getElem? hi)
 intro j v hv
 have h2 := h1 j v hv
 have hb : w'.heap[g]? = w.heap[g]? := hf.block g (World.block_lt_of_cell? _ _ h2) (ha g ⟨hn, _, e, rfl⟩)
 rw [show w'.cell? ⟨g, o + i * 1 + j, none⟩ = w.cell? ⟨g, o + i * 1 + j, none⟩ by unfold World.cell?; simp only [hb]]
 exact h2
set_option maxRecDepth 100000 in
theorem Try.sl_qs (A : Option Addr) (n c : Nat) (hn : 1 ≤ n) (hc : n ≤ c) (W : World) : (Instr.slice 33 (.slice A n c) (some (.int .i64 1)) none none).run Try.prog W = .ok (.slice (if c = 1 then A else A.map (·.add (1 * 1))) (n - 1) (c - 1)) W := by
 have hsz : ∀ W, (sizeOf 2).run Try.prog W = .ok 1 W := fun W => by kernel_rfl
 have hel : Try.prog.elem 33 = 2 := by kernel_rfl
 have h9 := run_slice_l (P := Try.prog) (w := W) 33 A n c Try.underlying33 .i64 1 (by omega) (by omega)
 rw [hel, hsz] at h9
 simp only [Result.andThen_ok, sliced] at h9
 exact h9
set_option maxRecDepth 100000 in
theorem Try.sl_ps (A : Option Addr) (n c : Nat) (hn : 1 ≤ n) (hc : n ≤ c) (W : World) : (Instr.slice 36 (.slice A n c) (some (.int .i64 1)) none none).run Try.prog W = .ok (.slice (if c = 1 then A else A.map (·.add (1 * 1))) (n - 1) (c - 1)) W := by
 have hsz : ∀ W, (sizeOf 43).run Try.prog W = .ok 1 W := fun W => by kernel_rfl
 have hel : Try.prog.elem 36 = 43 := by kernel_rfl
 have h9 := run_slice_l (P := Try.prog) (w := W) 36 A n c Try.underlying36 .i64 1 (by omega) (by omega)
 rw [hel, hsz] at h9
 simp only [Result.andThen_ok, sliced] at h9
 exact h9
def dropF (low : Int) : List Fr → List Fr
 | [] => []
 | x :: l => if x.q ≤ low then dropF low l else x :: l
theorem dropF_pair (low : Int) : ∀ f : List Fr, pairW (dropF low f) = dropW low (pairW f)
 | [] => rfl
 | x :: l => by
  show pairW (if x.q ≤ low then dropF low l else x :: l) = (if x.q ≤ low then dropW low (pairW l) else (x.q, x.s) :: pairW l)
  split
  ·exact dropF_pair low l
  ·rfl
def lenAt (w : World) (L : Nat) : Nat := match w.cell? ⟨L, 2, none⟩ with | some (.slice _ n _) => n | _ => 0
theorem lenAt_of {w : World} {L : Nat} {n low : Int} {A : Option Addr} {m c : Nat} {tv : Value} (h : Blk w L 38 (lgC n low (.slice A m c) tv)) : lenAt w L = m := by
 unfold lenAt
 rw [h.cellAt (i := 2) rfl]
theorem DLg.ft {W W' : World} {L : Nat} {n n' low low' : Int} {f : List Fr} {A B : Option Addr} {c d : Nat} (h : DLg W L n low f A B c d) (hf : Ft (fun q => q = L) W W') (hB : Blk W' L 38 (lgC n' low' (.slice A f.length c) (.slice B f.length d))) : DLg W' L n' low' f A B c d :=
 ⟨hB, h.hc, h.hd, Sl.ft h.sq (fun x hx => by obtain ⟨a, _, rfl⟩ := List.mem_map.1 hx; rfl) hf (fun q hq e => (h.apA q hq).1 e), Sl.ft h.pt (fun x hx => by obtain ⟨a, _, rfl⟩ := List.mem_map.1 hx; rfl) hf (fun q hq e => (h.apB q hq).1 e), h.fam.ft td_kv hf (fun q hq e => h.apL (e ▸ hq)), h.apA, h.apB, h.apL⟩
theorem rowQ_tl {A : Option Addr} {n c : Nat} {q : Nat} (h : rowQ (if c = 1 then A else A.map (·.add (1 * 1))) n q) : rowQ A (n + 1) q := by
 obtain ⟨_, a, e, hb⟩ := h
 split at e
 ·exact ⟨Nat.succ_pos _, a, e, hb⟩
 ·obtain ⟨a0, e0, e1⟩ := Option.map_eq_some_iff.1 e
  refine ⟨Nat.succ_pos _, a0, e0, ?_⟩
  rw [← hb, ← e1]
  unfold Addr.add
  split <;> rfl
theorem DLg.tl {W W' : World} {L : Nat} {n low : Int} {x : Fr} {f : List Fr} {A B : Option Addr} {c d : Nat} (h : DLg W L n low (x :: f) A B c d) (hf : Ft (fun q => q = L) W W')
  (hB : Blk W' L 38 (lgC n low (.slice (if c = 1 then A else A.map (·.add (1 * 1))) f.length (c - 1)) (.slice (if d = 1 then B else B.map (·.add (1 * 1))) f.length (d - 1)))) : DLg W' L n low f (if c = 1 then A else A.map (·.add (1 * 1))) (if d = 1 then B else B.map (·.add (1 * 1))) (c - 1) (d - 1) := by
 have h1 := h.hc
 have h2 := h.hd
 simp only [List.length_cons] at h1 h2
 obtain ⟨A', e1, s1⟩ := Sl.from_ (i := 1) h.sq (by simp) (by simpa using h1)
 obtain ⟨B', e2, s2⟩ := Sl.from_ (i := 1) h.pt (by simp) (by simpa using h2)
 rw [← e1] at s1
 rw [← e2] at s2
 have hs : ∀ q, FD f q → FD (x :: f) q := fun q hq => FD.sub (List.sublist_cons_self x f) hq
 have r1 : QIn W (if c = 1 then A else A.map (·.add (1 * 1))) f.length (f.map Fr.q) := by
  have h9 := s1
  simp only [List.map_cons, List.drop_succ_cons, List.drop_zero, List.length_cons, Nat.add_sub_cancel] at h9
  exact h9
 have r2 : VIn W (if d = 1 then B else B.map (·.add (1 * 1))) f.length (f.map Fr.v) := by
  have h9 := s2
  simp only [List.map_cons, List.drop_succ_cons, List.drop_zero, List.length_cons, Nat.add_sub_cancel] at h9
  exact h9
 exact ⟨hB, by omega, by omega, Sl.ft r1 (fun x hx => by obtain ⟨a, _, rfl⟩ := List.mem_map.1 hx; rfl) hf (fun q hq e => (h.apA q (rowQ_tl hq)).1 e), Sl.ft r2 (fun x hx => by obtain ⟨a, _, rfl⟩ := List.mem_map.1 hx; rfl) hf (fun q hq e => (h.apB q (rowQ_tl hq)).1 e),
  (h.fam.sub (List.sublist_cons_self x f)).ft td_kv hf (fun q hq e => h.apL (e ▸ hs q hq)), fun q hq => ⟨(h.apA q (rowQ_tl hq)).1, fun h9 => (h.apA q (rowQ_tl hq)).2 (hs q h9)⟩, fun q hq => ⟨(h.apB q (rowQ_tl hq)).1, fun h9 => (h.apB q (rowQ_tl hq)).2 (hs q h9)⟩, fun h9 => h.apL (hs L h9)⟩
theorem ft_one {w w' : World} {L : Nat} (h : w.grownBy w' (some L)) : Ft (fun q => q = L) w w' := Ft.of_grown h (fun _ hb => .inl (Option.some.inj hb).symm)
set_option maxHeartbeats 16000000 in
set_option maxRecDepth 100000 in
theorem rmove_any {w : World} {L : Nat} {n low : Int} {f : List Fr} {A B : Option Addr} {c d : Nat} (q : Int) (h : DLg w L n low f A B c d) (hm : f.length ≤ 1000) :
  Calls Try.prog 16 #[(.pointer (some ⟨L, 0, none⟩)), .int .i64 q] w fun e w' => e = .returned (.int .i64 (if q < low ∨ 1048576 < q then 14 else 0)) ∧ (if q < low ∨ 1048576 < q then w' = w else ∃ A' B' c' d', DLg w' L n q (dropF q f) A' B' c' d' ∧ (∀ b, rowQ A' (dropF q f).length b → rowQ A f.length b) ∧ (∀ b, rowQ B' (dropF q f).length b → rowQ B f.length b) ∧ Ft (fun b => b = L) w w') := by
 have k1 : w.cell? ⟨L, 1, none⟩ = some (.int .i64 low) := h.box.cellAt rfl
 have HH := Lib.hid h
 have HMf := Lib.hid hm
 clear h hm
 by_cases b1 : q < low
 ·simp only [if_pos (show q < low ∨ 1048576 < q from .inl b1)]
  go_enter Try.func16, Try.ntmps16
  go_wp2
  go_ret
  exact ⟨rfl, rfl⟩
 by_cases b2 : 1048576 < q
 ·simp only [if_pos (show q < low ∨ 1048576 < q from .inr b2)]
  go_enter Try.func16, Try.ntmps16
  go_wp2
  go_ret
  exact ⟨rfl, rfl⟩
 have hno : ¬ (q < low ∨ 1048576 < q) := by omega
 simp only [if_neg hno]
 obtain ⟨F, hF⟩ : ∃ F, dropF q f = F := ⟨_, rfl⟩
 have HF0 := Lib.hid hF
 rw [hF]
 clear hno hF
 go_enter Try.func16, Try.ntmps16
 go_wp2_with (first
  | (refine wpList_store_cell rfl 2 (.tmp 18) (.tmp 16) rfl L 1 rfl (.int .i64 q) rfl rfl rfl Try.sz_i64 38 (lgC n low (.slice A f.length c) (.slice B f.length d)) HH.out.box (by simp [lgC]) ?_; intro w1 hb9 hg9; have HBw1 : Hid (Blk w1 L 38 (lgC n q (.slice A f.length c) (.slice B f.length d))) := Lib.hid hb9; have HGw1 := Lib.hid hg9; clear hb9 hg9))
 have HD1 := Lib.hid (HH.out.ft (ft_one HGw1.out) HBw1.out)
 go_loopw [] (fun wr => ∃ (f' : List Fr) (A' B' : Option Addr) (c' d' : Nat), DLg wr L n q f' A' B' c' d' ∧ dropF q f' = F ∧ f'.length ≤ 1000 ∧ (∀ b, rowQ A' f'.length b → rowQ A f.length b) ∧ (∀ b, rowQ B' f'.length b → rowQ B f.length b) ∧ Ft (fun b => b = L) w wr) (fun wr => lenAt wr L)
 case atStart => exact ⟨f, A, B, c, d, HD1.out, HF0.out, HMf.out, fun _ h => h, fun _ h => h, ft_one HGw1.out⟩
 case round =>
  obtain ⟨f', A', B', c', d', hD, hF, hl, ha, hb, hft⟩ := hrel
  have HD := Lib.hid hD
  have HF := Lib.hid hF
  have HA := Lib.hid ha
  have HB := Lib.hid hb
  have HFt := Lib.hid hft
  have HLn := Lib.hid (lenAt_of hD.box)
  have k2 := hD.box.cellAt (i := 2) rfl
  have k3 := hD.box.cellAt (i := 3) rfl
  have fz2 := hD.box.frozen 2
  have fz3 := hD.box.frozen 3
  clear k1 ha hb hft
  cases f' with
  | nil =>
   simp only [List.length_nil] at k2 k3
   clear hD hF hl
   go_wp2
   go_ret
   have e9 : F = [] := HF.out.symm
   subst e9
   exact ⟨rfl, A', B', c', d', HD.out, HA.out, HB.out, HFt.out⟩
  | cons x f2 =>
   simp only [List.length_cons] at k2 k3 hl
   obtain ⟨g0, o0, y, rfl, hy, _, hc0⟩ := hD.sq.at (i := 0) (by simp)
   have hyx : y = x.q := by simpa using hy.symm
   rw [hyx, Nat.add_zero] at hc0
   have hix : ∀ W, (Instr.indexAt 33 (.slice (some ⟨g0, o0, none⟩) (f2.length + 1) c') (.int .i64 0)).run Try.prog W = .ok (.pointer (some ⟨g0, o0, none⟩)) W := fun W => Try.ix_qs W g0 o0 (f2.length + 1) c' 0 (Nat.succ_pos _)
   have HS1 := Lib.hid (Try.sl_qs (some ⟨g0, o0, none⟩) (f2.length + 1) c' (by omega) (by simpa using hD.hc))
   have HS2 := Lib.hid (Try.sl_ps B' (f2.length + 1) d' (by omega) (by simpa using hD.hd))
   have hpos : ((f2.length + 1 : Nat) : Int) > 0 := by omega
   have HPt : Hid (B' = none ∨ ∃ g9 o9, B' = some (⟨g9, o9, none⟩ : Addr)) := Lib.hid (by
    obtain ⟨g9, o9, e9, _⟩ := hD.pt.2 (by simp)
    exact .inr ⟨g9, o9, e9⟩)
   clear hy hyx hD
   by_cases hx : x.q ≤ q
   ·have HF2 : Hid (dropF q f2 = F) := Lib.hid (by rw [← hF]; unfold dropF; rw [if_pos hx]; cases f2 <;> rfl)
    have hs1 := HS1.out
    have hs2 := HS2.out
    clear hF
    go_upto_region 5 with fail
    try dsimp only [Act.put]
    go_region
    go_wp2_with fail
    have eA : (if c' = 1 then some (⟨g0, o0, none⟩ : Addr) else some ⟨g0, o0 + 1, none⟩) = (if c' = 1 then some ⟨g0, o0, none⟩ else (some (⟨g0, o0, none⟩ : Addr)).map (·.add (1 * 1))) := by
     split
     ·rfl
     ·simp [Addr.add]
    have eB : (if d' = 1 then B' else B'.map (fun x => (⟨x.block, x.off + 1, none⟩ : Addr))) = (if d' = 1 then B' else B'.map (·.add (1 * 1))) := by
     split
     ·rfl
     ·rcases HPt.out with e9 | ⟨g9, o9, e9⟩ <;> (rw [e9]; simp [Addr.add])
    have hB2 := ((HD.out.box.set_ 2 (.slice (if c' = 1 then some (⟨g0, o0, none⟩ : Addr) else some ⟨g0, o0 + 1, none⟩) f2.length (c' - 1))).set_ 3 (.slice (if d' = 1 then B' else B'.map (fun x => (⟨x.block, x.off + 1, none⟩ : Addr))) f2.length (d' - 1))).drew
    have hf2 := ((ft_one (only_set wr L 2 (.slice (if c' = 1 then some (⟨g0, o0, none⟩ : Addr) else some ⟨g0, o0 + 1, none⟩) f2.length (c' - 1)))).trans (D' := fun q => q = L) (ft_one (only_set _ L 3 (.slice (if d' = 1 then B' else B'.map (fun x => (⟨x.block, x.off + 1, none⟩ : Addr))) f2.length (d' - 1)))) (fun _ h => .inl h)).deep (Below.refl _ _).drew
    have HB2 := Lib.hid hB2
    have HT2 := Lib.hid hf2
    have HEA := Lib.hid eA
    have HEB := Lib.hid eB
    clear hB2 hf2 eA eB
    go_roundw
    case rel =>
     refine ⟨f2, _, _, _, _, HD.out.tl HT2.out ?_, HF2.out, by omega, fun b hb => HA.out b (rowQ_tl hb), fun b hb => HB.out b (rowQ_tl hb), HFt.out.trans HT2.out (fun _ h => .inl h)⟩
     rw [← HEA.out, ← HEB.out]
     exact HB2.out
    case measure =>
     rw [HLn.out]
     have h9 := lenAt_of (n := n) (low := q) HB2.out
     rw [h9]
     simp
   ·have HF2 : Hid (F = x :: f2) := Lib.hid (by rw [← hF]; unfold dropF; rw [if_neg hx])
    clear hF
    go_wp2
    go_ret
    have e9 := HF2.out
    subst e9
    first | exact ⟨rfl, _, B', c', d', HD.out, HA.out, HB.out, HFt.out⟩ | exact ⟨rfl, _, B', ⟨c', d', HD.out⟩, HA.out, HB.out, HFt.out⟩

end Go.Proofs.Ytponmfkddglopaa
