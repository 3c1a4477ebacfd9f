/-
  Joined: WlJ.
-/
import Derived.Test.YtponmfkddglopaaWU44
namespace Go.Proofs.Ytponmfkddglopaa
open Go.RowKit

/-- an act, as it lies in memory -/
structure Wa where
  kd : Int
  q : Int
  who : Int
  dg : List UInt8
def Wa.cells (x : Wa) : List Value := .int .u8 x.kd :: .int .i64 x.q :: .int .i64 x.who :: vs x.dg
theorem Wa.len {x : Wa} (h : x.dg.length = 32) : x.cells.length = 35 := by simp [Wa.cells, vs, h]
structure WaOk (x : Wa) : Prop where
  dg : x.dg.length = 32
  lo : 0 ≤ x.kd
def WasIn (w : World) (A : Option Addr) (k : Nat) (l : List Wa) : Prop := Sl w 35 A k (l.map Wa.cells) ∧ ∀ x ∈ l, WaOk x
theorem WasIn.len {w : World} {A : Option Addr} {k : Nat} {l : List Wa} (h : WasIn w A k l) : l.length = k := by simpa using h.1.len
theorem WasIn.at {w w' : World} {A : Option Addr} {k : Nat} {l : List Wa} (h : WasIn w A k l) (hb : Below w.heap.size w w') {i : Nat} (hi : i < k) : ∃ g o x, A = some ⟨g, o, none⟩ ∧ WaOk x ∧ w'.rangeAt g (o + i * 35) x.cells := by
  obtain ⟨g, o, cs, e, h1, _, _, h4⟩ := (h.1.through hb).at hi
  have hl : i < l.length := by rw [h.len]; exact hi
  rw [List.getElem?_map, List.getElem?_eq_getElem hl] at h1
  simp only [Option.map_some, Option.some.injEq] at h1
  subst h1
  exact ⟨g, o, l[i], e, h.2 _ (List.getElem_mem hl), h4⟩
def DD (L : Nat) (fd : List Fr) (A A' : Option Addr) : Nat → Prop := fun b => b = L ∨ rowQ A fd.length b ∨ rowQ A' fd.length b ∨ FD fd b
theorem sl_lt {w : World} {A : Option Addr} {n b : Nat} {xs : List (List Value)} (h : Sl w 1 A n xs) (hx : ∀ x ∈ xs, x.length = 1) (hb : rowQ A n b) : b < w.heap.size := by
  obtain ⟨hn, a, e, rfl⟩ := hb
  obtain ⟨g, o, e2, hc⟩ := h.2 hn
  rw [e] at e2
  obtain rfl := Option.some.inj e2
  have hl : 0 < xs.length := by rw [h.1]; exact hn
  have h1 := hc 0 xs[0] (List.getElem?_eq_getElem hl)
  have h2 := hx xs[0] (List.getElem_mem hl)
  have h3 := h1 0 _ (List.getElem?_eq_getElem (by omega))
  exact World.block_lt_of_cell? w ⟨g, _, none⟩ h3
section
variable {W W' : World} {L : Nat} {n ld : Int} {fd : List Fr} {A A' : Option Addr} {c d : Nat}
theorem DLg.lt (h : DLg W L n ld fd A A' c d) : ∀ b, DD L fd A A' b → b < W.heap.size := by
  rintro b (rfl | hb | hb | hb)
  · exact h.box.lt
  · exact sl_lt h.sq (fun x hx => by obtain ⟨a, _, rfl⟩ := List.mem_map.1 hx; rfl) hb
  · exact sl_lt h.pt (fun x hx => by obtain ⟨a, _, rfl⟩ := List.mem_map.1 hx; rfl) hb
  · exact h.fam.lt td_kv b hb
theorem DLg.off {D : Nat → Prop} (h : DLg W L n ld fd A A' c d) (hf : Ft D W W') (hd : ∀ b, DD L fd A A' b → ¬ D b) : DLg W' L n ld fd A A' c d :=
  ⟨hf.blk h.box (hd L (.inl rfl)), h.hc, h.hd, Sl.ft h.sq (fun x hx => by obtain ⟨a, _, rfl⟩ := List.mem_map.1 hx; rfl) hf (fun b hb => hd b (.inr (.inl hb))), Sl.ft h.pt (fun x hx => by obtain ⟨a, _, rfl⟩ := List.mem_map.1 hx; rfl) hf (fun b hb => hd b (.inr (.inr (.inl hb)))), h.fam.ft td_kv hf (fun b hb => hd b (.inr (.inr (.inr hb)))), h.apA, h.apB, h.apL⟩
end
structure Jwb (w0 W : World) (B gm L : Nat) (n lp ld : Int) (f fd : List Fr) (A A' : Option Addr) (c d : Nat) : Prop where
  p : PLg W B gm n lp f
  dc : DLg W L n ld fd A A' c d
  be : Below w0.heap.size w0 W
  p0 : ∀ b, DP B gm f b → w0.heap.size ≤ b
  d0 : ∀ b, DD L fd A A' b → w0.heap.size ≤ b
  ap : ∀ b, DP B gm f b → ¬ DD L fd A A' b
section
variable {w0 W W' : World} {B gm L : Nat} {n lp ld lp' ld' : Int} {f fd f' fd' : List Fr} {A A' A2 A2' : Option Addr} {c d c' d' : Nat}
theorem Jwb.through (h : Jwb w0 W B gm L n lp ld f fd A A' c d) (hb : Below W.heap.size W W') : Jwb w0 W' B gm L n lp ld f fd A A' c d :=
  ⟨h.p.through hb, h.dc.off (Ft.of_below hb) (D := fun _ => False) (fun _ _ h => h), below_step h.be hb, h.p0, h.d0, h.ap⟩
theorem Jwb.prog {D : Nat → Prop} (h : Jwb w0 W B gm L n lp ld f fd A A' c d) (hp : PLg W' B gm n lp' f') (hf : Ft D W W') (hD : ∀ b, D b → DP B gm f b) (hn : ∀ b, DP B gm f' b → DP B gm f b ∨ W.heap.size ≤ b) : Jwb w0 W' B gm L n lp' ld f' fd A A' c d :=
  ⟨hp, h.dc.off hf (fun b hb h9 => h.ap b (hD b h9) hb), hf.below h.be h.be.size (fun b hb => h.p0 b (hD b hb)), fun b hb => (hn b hb).elim (h.p0 b) (fun h9 => Nat.le_trans h.be.size h9), h.d0,
   fun b hb hd => (hn b hb).elim (fun h9 => h.ap b h9 hd) (fun h9 => by have := h.dc.lt b hd; omega)⟩
end
def anyF : List Fr → Prop := fun _ => True
/-- both logs: what the program's holds, what the document's; what is known of the two families -/
def JH (w0 W : World) (B gm L : Nat) (n lp ld : Int) (P Q : Lw) : Prop := ∃ f fd A A' c d, Jwb w0 W B gm L n lp ld f fd A A' c d ∧ (pairW f).Perm P ∧ pairW fd = Q
/-- the same, and the act's block beside them -/
def JG (w0 W : World) (B gm L : Nat) (n lp ld : Int) (P Q : Lw) (K1 K2 : List Fr → Prop) (g : Nat) (x : Wa) : Prop := ∃ f fd A A' c d, Jwb w0 W B gm L n lp ld f fd A A' c d ∧ (pairW f).Perm P ∧ pairW fd = Q ∧ K1 f ∧ K2 fd ∧ Blk W g 42 x.cells ∧ ¬ DP B gm f g ∧ ¬ DD L fd A A' g
section
variable {w0 W W' : World} {B gm L g : Nat} {n lp ld : Int} {P Q : Lw} {K1 K2 : List Fr → Prop} {x : Wa}
theorem JH.be (h : JH w0 W B gm L n lp ld P Q) : Below w0.heap.size w0 W := by obtain ⟨f, fd, A, A', c, d, h, _⟩ := h; exact h.be
theorem JH.through (h : JH w0 W B gm L n lp ld P Q) (hb : Below W.heap.size W W') : JH w0 W' B gm L n lp ld P Q := by obtain ⟨f, fd, A, A', c, d, h, h2⟩ := h; exact ⟨f, fd, A, A', c, d, h.through hb, h2⟩
theorem JG.h (h : JG w0 W B gm L n lp ld P Q K1 K2 g x) : JH w0 W B gm L n lp ld P Q := by obtain ⟨f, fd, A, A', c, d, h, h2, h3, _⟩ := h; exact ⟨f, fd, A, A', c, d, h, h2, h3⟩
theorem JG.blk (h : JG w0 W B gm L n lp ld P Q K1 K2 g x) : Blk W g 42 x.cells := by obtain ⟨f, fd, A, A', c, d, _, _, _, _, _, h, _⟩ := h; exact h
theorem JG.any (h : JG w0 W B gm L n lp ld P Q K1 K2 g x) : JG w0 W B gm L n lp ld P Q anyF anyF g x := by obtain ⟨f, fd, A, A', c, d, h, h2, h3, _, _, h4⟩ := h; exact ⟨f, fd, A, A', c, d, h, h2, h3, trivial, trivial, h4⟩
theorem JG.through (h : JG w0 W B gm L n lp ld P Q K1 K2 g x) (hb : Below W.heap.size W W') : JG w0 W' B gm L n lp ld P Q K1 K2 g x := by
  obtain ⟨f, fd, A, A', c, d, h, h2, h3, h4, h5, h6, h7⟩ := h
  exact ⟨f, fd, A, A', c, d, h.through hb, h2, h3, h4, h5, h6.through hb, h7⟩
theorem JG.prog {f fd : List Fr} {A A' : Option Addr} {c d : Nat} {D : Nat → Prop} {lp' : Int} {f' : List Fr} {P' : Lw} {K1' : List Fr → Prop} (h : Jwb w0 W B gm L n lp ld f fd A A' c d) (h3 : pairW fd = Q) (h5 : K2 fd) (h6 : Blk W g 42 x.cells) (h7 : ¬ DP B gm f g) (h8 : ¬ DD L fd A A' g)
    (hp : PLg W' B gm n lp' f') (hf : Ft D W W') (hD : ∀ b, D b → DP B gm f b) (hn : ∀ b, DP B gm f' b → DP B gm f b ∨ W.heap.size ≤ b) (hP : (pairW f').Perm P') (hK : K1' f') : JG w0 W' B gm L n lp' ld P' Q K1' K2 g x :=
  ⟨f', fd, A, A', c, d, h.prog hp hf hD hn, hP, h3, hK, h5, hf.blk h6 (fun h9 => h7 (hD g h9)), fun h9 => (hn g h9).elim h7 (fun h10 => by have := h6.lt; omega), h8⟩
theorem DP.sub {f f' : List Fr} (hs : f'.Sublist f) : ∀ b, DP B gm f' b → DP B gm f b ∨ W.heap.size ≤ b := fun b hb => .inl (hb.imp id (fun h => h.imp id (FD.sub hs)))
-- the calls
end

end Go.Proofs.Ytponmfkddglopaa
