/-
  Joined: PtM.
-/
import Derived.Test.YtpolofehkckaoaaUH13
import Derived.Test.YtpolofehkckaoaaUH5
namespace Go.Proofs.Ytpolofehkckaoaa
open Go.RowKit

abbrev tPt : TypeId := 50
abbrev tPo : TypeId := 31
abbrev tPos : TypeId := 39
abbrev tOf : TypeId := 47
theorem Try.el_of : El Try.prog tOf tPos 1 24 (.slice none 0 0) := ⟨Try.underlying47, by kernel_rfl, rfl, by omega, by omega, by omega⟩
theorem Try.ix_of (W : World) (g o n c j : Nat) (hj : j < n) : (Instr.indexAt tOf (.slice (some ⟨g, o, none⟩) n c) (.int .i64 (j : Int))).run Try.prog W = .ok (.pointer (some ⟨g, o + j, none⟩)) W := by
  have := Try.el_of.index (by kernel_rfl) W g o n c j hj
  rwa [Nat.mul_one] at this
theorem Try.agg_in (w : World) : (isAgg 3).run Try.prog w = .ok false w := by kernel_rfl
theorem Try.agg_i6 (w : World) : (isAgg 2).run Try.prog w = .ok false w := by kernel_rfl
theorem Try.zero_po (w : World) : (zeroValue tPo).run Try.prog w = .ok (.agg (Po.cells poZ).toArray) w := by kernel_rfl
def ptC (n self k : Nat) (gO : Nat) (rv : Value) : List Value := [.int .i64 (n : Int), .int .i64 (self : Int), .slice (some ⟨gO, 0, none⟩) k k, rv]
def AllO (w : World) : List Pl → List (List Po) → Prop
  | [], [] => True
  | s :: ss, l :: ls => (PosIn w s.1 s.2.1 l ∧ s.2.1 ≤ s.2.2 ∧ s.2.2 ≤ maxLen) ∧ AllO w ss ls
  | [], _ :: _ => False
  | _ :: _, [] => False
def AllB (w : World) : List Pl → List (List UInt8) → Prop
  | [], [] => True
  | s :: ss, l :: ls => (By w (fun _ => True) s.1 s.2.1 l ∧ s.2.1 ≤ s.2.2 ∧ s.2.2 ≤ maxLen) ∧ AllB w ss ls
  | [], _ :: _ => False
  | _ :: _, [] => False
/-- the block that a slice of something lies in -/
def plB (s : Pl) : Nat → Prop := fun q => 0 < s.2.1 ∧ ∃ a, s.1 = some a ∧ a.block = q
section
variable {w w' : World}
theorem AllO.len : ∀ {ss : List Pl} {ls : List (List Po)}, AllO w ss ls → ss.length = ls.length
  | [], [], _ => rfl
  | _ :: _, _ :: _, h => by simp [AllO.len h.2]
  | [], _ :: _, h => h.elim
  | _ :: _, [], h => h.elim
theorem AllB.len : ∀ {ss : List Pl} {ls : List (List UInt8)}, AllB w ss ls → ss.length = ls.length
  | [], [], _ => rfl
  | _ :: _, _ :: _, h => by simp [AllB.len h.2]
  | [], _ :: _, h => h.elim
  | _ :: _, [], h => h.elim
theorem AllO.at : ∀ {ss : List Pl} {ls : List (List Po)} {i : Nat}, AllO w ss ls → i < ls.length → ∃ s l, ss[i]? = some s ∧ ls[i]? = some l ∧ ls.drop i = l :: ls.drop (i + 1) ∧ PosIn w s.1 s.2.1 l ∧ s.2.1 ≤ s.2.2 ∧ s.2.2 ≤ maxLen
  | [], [], _, _, hi => absurd hi (Nat.not_lt_zero _)
  | s :: _, l :: _, 0, h, _ => ⟨s, l, rfl, rfl, rfl, h.1⟩
  | _ :: ss, _ :: ls, i + 1, h, hi => by
    obtain ⟨s, l, h1, h2, h3, h4⟩ := AllO.at (i := i) h.2 (by simpa using hi)
    exact ⟨s, l, by simpa using h1, by simpa using h2, by simpa using h3, h4⟩
  | [], _ :: _, _, h, _ => h.elim
  | _ :: _, [], _, h, _ => h.elim
theorem AllB.at : ∀ {ss : List Pl} {ls : List (List UInt8)} {i : Nat}, AllB w ss ls → i < ls.length → ∃ s l, ss[i]? = some s ∧ ls[i]? = some l ∧ By w (fun _ => True) s.1 s.2.1 l ∧ s.2.1 ≤ s.2.2 ∧ s.2.2 ≤ maxLen
  | [], [], _, _, hi => absurd hi (Nat.not_lt_zero _)
  | s :: _, l :: _, 0, h, _ => ⟨s, l, rfl, rfl, h.1⟩
  | _ :: ss, _ :: ls, i + 1, h, hi => by
    obtain ⟨s, l, h1, h2, h4⟩ := AllB.at (i := i) h.2 (by simpa using hi)
    exact ⟨s, l, by simpa using h1, by simpa using h2, h4⟩
  | [], _ :: _, _, h, _ => h.elim
  | _ :: _, [], _, h, _ => h.elim
theorem AllO.mono : ∀ {ss : List Pl} {ls : List (List Po)}, AllO w ss ls → (∀ s ∈ ss, ∀ l, PosIn w s.1 s.2.1 l → PosIn w' s.1 s.2.1 l) → AllO w' ss ls
  | [], [], _, _ => trivial
  | s :: _, _ :: _, h, hm => ⟨⟨hm s (List.mem_cons_self ..) _ h.1.1, h.1.2⟩, AllO.mono h.2 (fun s hs => hm s (List.mem_cons_of_mem _ hs))⟩
  | [], _ :: _, h, _ => h.elim
  | _ :: _, [], h, _ => h.elim
theorem AllB.mono : ∀ {ss : List Pl} {ls : List (List UInt8)}, AllB w ss ls → (∀ s ∈ ss, ∀ l, By w (fun _ => True) s.1 s.2.1 l → By w' (fun _ => True) s.1 s.2.1 l) → AllB w' ss ls
  | [], [], _, _ => trivial
  | s :: _, _ :: _, h, hm => ⟨⟨hm s (List.mem_cons_self ..) _ h.1.1, h.1.2⟩, AllB.mono h.2 (fun s hs => hm s (List.mem_cons_of_mem _ hs))⟩
  | [], _ :: _, h, _ => h.elim
  | _ :: _, [], h, _ => h.elim
theorem AllO.set : ∀ {ss : List Pl} {ls : List (List Po)} {i : Nat} {s : Pl} {l : List Po}, AllO w ss ls → (PosIn w s.1 s.2.1 l ∧ s.2.1 ≤ s.2.2 ∧ s.2.2 ≤ maxLen) → AllO w (ss.set i s) (ls.set i l)
  | [], [], _, _, _, _, _ => trivial
  | _ :: _, _ :: _, 0, _, _, h, h' => ⟨h', h.2⟩
  | _ :: _, _ :: _, i + 1, _, _, h, h' => ⟨h.1, AllO.set (i := i) h.2 h'⟩
  | [], _ :: _, _, _, _, h, _ => h.elim
  | _ :: _, [], _, _, _, h, _ => h.elim
theorem AllB.set : ∀ {ss : List Pl} {ls : List (List UInt8)} {i : Nat} {s : Pl} {l : List UInt8}, AllB w ss ls → (By w (fun _ => True) s.1 s.2.1 l ∧ s.2.1 ≤ s.2.2 ∧ s.2.2 ≤ maxLen) → AllB w (ss.set i s) (ls.set i l)
  | [], [], _, _, _, _, _ => trivial
  | _ :: _, _ :: _, 0, _, _, h, h' => ⟨h', h.2⟩
  | _ :: _, _ :: _, i + 1, _, _, h, h' => ⟨h.1, AllB.set (i := i) h.2 h'⟩
  | [], _ :: _, _, _, _, h, _ => h.elim
  | _ :: _, [], _, _, _, h, _ => h.elim
theorem AllB.take : ∀ {ss : List Pl} {ls : List (List UInt8)} (i : Nat), AllB w ss ls → AllB w (ss.take i) (ls.take i)
  | [], [], _, _ => by rw [List.take_nil, List.take_nil]; trivial
  | _ :: _, _ :: _, 0, _ => trivial
  | _ :: _, _ :: _, i + 1, h => ⟨h.1, AllB.take i h.2⟩
  | [], _ :: _, _, h => h.elim
  | _ :: _, [], _, h => h.elim
theorem AllB.drop : ∀ {ss : List Pl} {ls : List (List UInt8)} (i : Nat), AllB w ss ls → AllB w (ss.drop i) (ls.drop i)
  | [], [], _, _ => by rw [List.drop_nil, List.drop_nil]; trivial
  | _ :: _, _ :: _, 0, h => h
  | _ :: _, _ :: _, i + 1, h => AllB.drop i h.2
  | [], _ :: _, _, h => h.elim
  | _ :: _, [], _, h => h.elim
theorem Sl.off {k n : Nat} {A : Option Addr} {xs : List (List Value)} {D : Nat → Prop} (h : Sl w k A n xs) (hf : Ft D w w') (hd : ∀ q, plB (A, n, n) q → ¬ D q) : Sl w' k A n xs :=
  ⟨h.1, fun hn => by
    obtain ⟨g, o, e, hc⟩ := h.2 hn
    refine ⟨g, o, e, fun i cs hi j v hv => ?_⟩
    have h2 := hc i cs hi j v hv
    have hb : w'.heap[g]? = w.heap[g]? := hf.block g (World.block_lt_of_cell? _ _ h2) (hd g ⟨hn, _, e, rfl⟩)
    rw [show w'.cell? ⟨g, o + i * k + j, none⟩ = w.cell? ⟨g, o + i * k + j, none⟩ by unfold World.cell?; simp only [hb]]
    exact h2⟩
theorem PosIn.off {k : Nat} {A : Option Addr} {l : List Po} {D : Nat → Prop} (h : PosIn w A k l) (hf : Ft D w w') (hd : ∀ q, plB (A, k, k) q → ¬ D q) : PosIn w' A k l := ⟨Sl.off h.1 hf hd, h.2⟩
theorem By.off {n : Nat} {A : Option Addr} {l : List UInt8} {D : Nat → Prop} (h : By w (fun _ => True) A n l) (hf : Ft D w w') (hd : ∀ q, plB (A, n, n) q → ¬ D q) : By w' (fun _ => True) A n l :=
  ⟨h.1, fun hn => by
    obtain ⟨g, o, e, hq, hc⟩ := h.2 hn
    refine ⟨g, o, e, hq, fun j v hv => ?_⟩
    have h2 := hc j v hv
    have hb : w'.heap[g]? = w.heap[g]? := hf.block g (World.block_lt_of_cell? _ _ h2) (hd g ⟨hn, _, e, rfl⟩)
    rw [show w'.cell? ⟨g, o + j, none⟩ = w.cell? ⟨g, o + j, none⟩ by unfold World.cell?; simp only [hb]]
    exact h2⟩
end
/-- the document's checkpoints: the box, the row of each one's points, the row of bytes; what is read alone lies apart from what is written -/
structure DPt (w : World) (R gO : Nat) (r : Ptp) (ss : List Pl) (RA : Option Addr) (m rc : Nat) (rs : List Pl) : Prop where
  box : Blk w R tPt (ptC r.n r.self r.of.length gO (.slice RA m rc))
  ob : Blk w gO tPos (ss.map Pl.val)
  all : AllO w ss r.of
  rr : Sl w 1 RA m (rs.map fun s => [s.val])
  rb : AllB w rs r.rows
  rk : 0 < m → ∀ a, RA = some a → ∃ cs, Blk w a.block 34 cs
  hrc : m ≤ rc ∧ rc ≤ maxLen
  ro : m = (ownL r).length
  n1 : 1 ≤ r.n
  n7 : r.n ≤ 7
  nl : r.of.length = r.n
  sf : r.self < r.n
  nr : ∀ q, plB (RA, m, rc) q → q ≠ R ∧ q ≠ gO
  io : ∀ s ∈ ss, ∀ q, plB s q → q ≠ R ∧ q ≠ gO ∧ ¬ plB (RA, m, rc) q
  ib : ∀ s ∈ rs, ∀ q, plB s q → q ≠ R ∧ q ≠ gO ∧ ¬ plB (RA, m, rc) q
/-- what it has of memory -/
def DT (R gO : Nat) (ss : List Pl) (RA : Option Addr) (m rc : Nat) (rs : List Pl) : Nat → Prop := fun q => q = R ∨ q = gO ∨ plB (RA, m, rc) q ∨ (∃ s ∈ ss, plB s q) ∨ ∃ s ∈ rs, plB s q
section
variable {w w' : World} {R gO m rc : Nat} {r : Ptp} {ss rs : List Pl} {RA : Option Addr}
theorem DPt.off {D : Nat → Prop} (h : DPt w R gO r ss RA m rc rs) (hf : Ft D w w') (hd : ∀ q, DT R gO ss RA m rc rs q → ¬ D q) : DPt w' R gO r ss RA m rc rs :=
  ⟨hf.blk h.box (hd R (.inl rfl)), hf.blk h.ob (hd gO (.inr (.inl rfl))), h.all.mono (fun s hs l hl => hl.off hf (fun q hq => hd q (.inr (.inr (.inr (.inl ⟨s, hs, hq⟩)))))), Sl.off h.rr hf (fun q hq => hd q (.inr (.inr (.inl hq)))),
   h.rb.mono (fun s hs l hl => hl.off hf (fun q hq => hd q (.inr (.inr (.inr (.inr ⟨s, hs, hq⟩)))))), (fun hm a ha => by obtain ⟨cs, hb⟩ := h.rk hm a ha; exact ⟨cs, hf.blk hb (hd _ (.inr (.inr (.inl ⟨hm, a, ha, rfl⟩))))⟩), h.hrc, h.ro, h.n1, h.n7, h.nl, h.sf, h.nr, h.io, h.ib⟩
theorem DPt.through (h : DPt w R gO r ss RA m rc rs) (hb : Below w.heap.size w w') : DPt w' R gO r ss RA m rc rs := h.off (Ft.of_below hb) (D := fun _ => False) (fun _ _ h => h)
end

end Go.Proofs.Ytpolofehkckaoaa
