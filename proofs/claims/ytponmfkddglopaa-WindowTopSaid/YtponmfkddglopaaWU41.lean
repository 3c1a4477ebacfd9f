/-
  Joined: WpS.
-/
import Derived.Sort.OwnSortedInts
import Derived.Maps.RangeWalk
import Derived.OwnWalk
import Derived.Test.YtponmfkddglopaaWU39
import Derived.Test.YtponmfkddglopaaWU40
namespace Go.Proofs.Ytponmfkddglopaa
open Go.RowKit

open Go.Sort Go.Shelf
def srt (l : List Int) : List Int := l.mergeSort fun x y => decide (x ≤ y)
theorem srt_len (l : List Int) : (srt l).length = l.length := List.length_mergeSort ..
theorem flat_q : ∀ l : List Int, (l.map qC).flatten = l.map (Value.int .i64)
 | [] => rfl
 | x :: l => by
  show [Value.int .i64 x] ++ (l.map qC).flatten = _
  rw [flat_q l]
  rfl
theorem sort_qs {w : World} {B0 : Nat} {v : Value} {xs : List Int} (h : Os w B0 2 1 v (xs.map qC)) (hl : xs.length ≤ 1000000) (hB : B0 ≤ w.heap.size) :
  Calls Try.prog 22 #[v] w fun e w' => e = .returned (.tuple #[]) ∧ Os w' B0 2 1 v ((srt xs).map qC) ∧ Below B0 w w' := by
 have h1 := h.1
 rw [flat_q, List.length_map] at h1
 have hlen := srt_len xs
 rcases h1.2 with ⟨hv, hn⟩ | ⟨g, cap, cur, hv, hg, hb, hn, hc, hz, hx⟩
 ·subst hv
  refine (AnyM.slices_Sort_int_none Try.sortI none 0 w).mono ?_
  rintro e w' ⟨rfl, rfl⟩
  have e0 : xs = [] := List.length_eq_zero_iff.1 hn
  subst e0
  exact ⟨rfl, by rw [show srt [] = [] by simp [srt]]; exact h, Below.refl _ _⟩
 ·subst hv
  rw [Nat.mul_one] at hx hz
  have hgl : g < w.heap.size := (Array.getElem?_eq_some_iff.1 hb).1
  refine (AnyM.slices_Sort_int Try.sortI g 0 cap xs w (holds_of_blockI hb hx) hgl (by omega)).mono ?_
  rintro e w' ⟨rfl, n, os, rfl⟩
  refine ⟨rfl, ⟨?_, fun y hy => ?_⟩, (Below.refl _ w).grown (grownBy_sortedI _) hB (fun b hb => by rw [← Option.some.inj hb]; exact hg)⟩
  ·rw [flat_q, List.length_map, hlen]
   exact ownsRow_sortedI hlen hg hb hn hc (by rw [hz, Nat.mul_one])
  ·obtain ⟨a, _, rfl⟩ := List.mem_map.1 hy
   rfl
theorem srt_perm {l l' : List Int} (h : l.Perm l') : srt l = srt l' := by
 refine List.Perm.eq_of_pairwise (le := fun a b => a ≤ b) (fun a b _ _ h1 h2 => Int.le_antisymm h1 h2) ?_ ?_ ((List.mergeSort_perm l _).trans (h.trans (List.mergeSort_perm l' _).symm))
 ·exact (List.pairwise_mergeSort (le := fun x y : Int => decide (x ≤ y)) (fun a b c h1 h2 => by simp at *; omega) (fun a b => by simp; omega) l).imp (fun h => by simpa using h)
 ·exact (List.pairwise_mergeSort (le := fun x y : Int => decide (x ≤ y)) (fun a b c h1 h2 => by simp at *; omega) (fun a b => by simp; omega) l').imp (fun h => by simpa using h)
theorem Try.one_q64 (q : Int) (w : World) : (Instr.buildSlice 33 1 #[(0, .int .i64 q)]).run Try.prog w = .ok (.slice (some ⟨w.heap.size, 0, none⟩) 1 1) (w.alloc (.cells #[.int .i64 q] 2)) := by kernel_rfl
set_option maxHeartbeats 16000000 in
set_option maxRecDepth 100000 in
theorem seqs_lp {w : World} {B gm : Nat} {n low : Int} {f : List Fr} (h : PLg w B gm n low f) (hn : 1 ≤ n) (hf : f.length ≤ 1000) : Calls Try.prog 12 #[(.pointer (some ⟨B, 0, none⟩))] w fun e w' => ∃ A c, e = .returned (.slice A f.length c) ∧ QIn w' A f.length (srt (f.map Fr.q)) ∧ f.length ≤ c ∧ c ≤ maxLen ∧ Below w.heap.size w w' := by
 have HB := Lib.hid h.box
 have HN1 := Lib.hid hn
 have HMp := Lib.hid h.mp
 have HFl := Lib.hid hf
 have hbs := Try.one_q64
 have hkq := ent_keys f
 have k2 : w.cell? ⟨B, 2, none⟩ = some (.map (some gm)) := h.box.cellAt rfl
 have HKq := Lib.hid hkq
 clear h hn hf hkq
 go_enter Try.func12, Try.ntmps12
 go_wp2_with (first
  | (go_at_call 20; (with_reducible refine (isnone_lp _ HB.out HN1.out).mono ?_); rintro e w9 ⟨rfl, hw9⟩; have hw8 := hw9.symm; clear hw9; subst hw8)
  | (at_range; refine wpList_range_k rfl _ 49 rfl Try.underlying49 rfl HMp.out ?_; intro w2 hrg9 hb9; have HR2 := Lib.hid hrg9; have HX2 := Lib.hid hb9; clear hrg9 hb9))
 go_frame
 obtain ⟨B0, hB0⟩ : ∃ B0, w2.heap.size = B0 := ⟨_, rfl⟩
 have HW2 : Hid (w2.heap.size = B0) := Lib.hid hB0
 have HR0 : Hid (w.heap.size < B0) := Lib.hid (by rw [← hB0]; exact HR2.out.lt)
 clear hB0
 go_loopw [3, 4] (fun v3 _ wr => ∃ Dn N, MpRg encI wr gm w.heap.size (entF f) N ∧ Os wr B0 2 1 v3 (Dn.map qC) ∧ (Dn ++ N.map Prod.fst).Perm (f.map Fr.q) ∧ Below w.heap.size w wr ∧ B0 ≤ wr.heap.size) (fun _ _ wr => rgLeft wr gm w.heap.size)
 case atStart =>
  refine ⟨[], entF f, HR2.out, Os.nil _ _ _ _, ?_, HX2.out, by rw [HW2.out]; exact Nat.le_refl _⟩
  rw [HKq.out]
  exact List.Perm.refl _
 case round =>
  obtain ⟨Dn, N, hR, hO, hP, hX, hB⟩ := hrel
  have HR := Lib.hid hR
  have HO := Lib.hid hO
  have HP := Lib.hid hP
  have HX := Lib.hid hX
  have HB0 := Lib.hid hB
  have HLn : Hid (Dn.length ≤ 1000) := Lib.hid (by
   have h9 := hP.length_eq
   have := HFl.out
   simp at h9
   omega)
  clear hR hO hP hX hB
  go_wp2_with (first
   | (at_next; refine wpList_next_i rfl _ rfl rfl HR.out ?_ ?_))
  ·intro hN0
   have HPe : Hid (Dn.Perm (f.map Fr.q)) := Lib.hid (by
    have h9 := HP.out
    rw [hN0] at h9
    simpa using h9)
   clear hN0
   go_wp2_with (first
    | (go_at_call 22; (with_reducible refine (sort_qs HO.out (by have := HLn.out; omega) HB0.out).mono ?_); rintro e w9 ⟨rfl, ho9, hb9⟩; have HO9 := Lib.hid ho9; have HB9 := Lib.hid hb9; clear ho9 hb9))
   go_ret
   obtain ⟨A, c, e1, h1, h2, h3⟩ := HO9.out.out
   have e2 : ((srt Dn).map qC).length = f.length := by
    rw [List.length_map, srt_len, HPe.out.length_eq, List.length_map]
   rw [e2] at e1 h1 h3
   rw [srt_perm HPe.out] at h3
   exact ⟨A, c, by rw [e1]; rfl, h3, h1, h2, HX.out.trans (HB9.out.mono (Nat.le_of_lt HR0.out))⟩
  ·intro N1 x v N2 w4 hN hR4 hg4 hen
   have HR4 := Lib.hid hR4
   have HG4 := Lib.hid hg4
   have HNn : Hid (N = N1 ++ (x, v) :: N2) := Lib.hid hN
   have HO4 : Hid (Os w4 B0 2 1 u3 (Dn.map qC)) := Lib.hid (HO.out.far hg4 HR0.out)
   have HX4 : Hid (Below w.heap.size w w4) := Lib.hid (HX.out.grown hg4 HX.out.size (fun b hb => by rw [← Option.some.inj hb]; exact Nat.le_refl _))
   have HB4 : Hid (B0 ≤ w4.heap.size) := Lib.hid (Nat.le_trans HB0.out hg4.size)
   have HB0 := HB4
   clear hN hR4 hg4
   go_wp2_with (first
    | (at_builtin; refine wpList_append_el rfl Try.el_qs (.tmp 16) (.tmp 18) rfl B0 u3 (Dn.map qC) rfl (HO4.out.alloc (.cells #[.int .i64 x] 2)) w4.heap.size (qC x) rfl (Blk.fresh rfl rfl) rfl (by intro u hu; simp [qC] at hu; subst hu; rfl) (by have := HLn.out; simp; omega) (by have := HB0.out; simp; omega) ?_; intro v6 w6 ho6 hg6; have HO6 := Lib.hid ho6; have HG6 := Lib.hid hg6; clear ho6 hg6))
   refine ⟨?rel, ?measure⟩
   case rel =>
    have hx6 := (below1_ w4 (.cells #[.int .i64 x] 2))
    have hlt := HO4.out.lt
    refine ⟨Dn ++ [x], N1 ++ N2, (HR4.out.through hx6).grown HG6.out ?_ ?_, ?_, ?_, ?_, ?_⟩
    ·intro e
     have := (hlt gm e.symm).1
     have := HMp.out.lt
     have := HR0.out
     omega
    ·intro e
     have := (hlt _ e.symm).1
     have := HR0.out
     omega
    ·rw [List.map_append]
     exact HO6.out
    ·refine List.Perm.trans ?_ HP.out
     rw [HNn.out]
     simp only [List.map_append, List.map_cons, List.append_assoc, List.singleton_append]
     exact List.Perm.append_left _ (List.perm_middle.symm)
    ·refine (below_step HX4.out hx6).grown HG6.out (Nat.le_trans HX4.out.size hx6.size) (fun b hb => ?_)
     have := (hlt b hb).1
     have := HR0.out
     omega
    ·exact Nat.le_trans (Nat.le_trans HB4.out hx6.size) HG6.out.size
   case measure =>
    have hx6 := (below1_ w4 (.cells #[.int .i64 x] 2))
    have hlt := HO4.out.lt
    have h9 : MpRg encI w6 gm w.heap.size (entF f) (N1 ++ N2) := (HR4.out.through hx6).grown HG6.out (fun e => by
     have := (hlt gm e.symm).1
     have := HMp.out.lt
     have := HR0.out
     omega) (fun e => by
     have := (hlt _ e.symm).1
     have := HR0.out
     omega)
    rw [h9.left, HR.out.left, HNn.out]
    simp

end Go.Proofs.Ytponmfkddglopaa
