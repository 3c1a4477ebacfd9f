/-
  Joined: WlJ.
-/
import Derived.Test.YtponmfkddglopaaWV44
namespace Go.Proofs.Ytponmfkddglopaa
open Go.RowKit

/-- an act, as it lies in memory -/
structure Wa where
  kd : Int
  q : Int
  who : Int
  dg : List UInt8
def Wa.cells (x : Wa) : List Value := .int .u8 x.kd :: .int .i64 x.q :: .int .i64 x.who :: vs x.dg
theorem Wa.len {x : Wa} (h : x.dg.length = 32) : x.cells.length = 35 := by simp [Wa.cells, vs, h]
theorem Wa.one (x : Wa) : x.cells.toArray.all (·.oneCell') = true := Array.all_eq_true_iff_forall_mem.2 (fun u hu => by
  simp only [Wa.cells, List.mem_toArray, List.mem_cons, vs, List.mem_map] at hu
  rcases hu with rfl | rfl | rfl | ⟨b, _, rfl⟩ <;> rfl)
structure WaOk (x : Wa) : Prop where
  dg : x.dg.length = 32
  lo : 0 ≤ x.kd
def WasIn (w : World) (A : Option Addr) (k : Nat) (l : List Wa) : Prop := Sl w 35 A k (l.map Wa.cells) ∧ ∀ x ∈ l, WaOk x
theorem WasIn.len {w : World} {A : Option Addr} {k : Nat} {l : List Wa} (h : WasIn w A k l) : l.length = k := by simpa using h.1.len
theorem WasIn.at {w w' : World} {A : Option Addr} {k : Nat} {l : List Wa} (h : WasIn w A k l) (hb : Below w.heap.size w w') {i : Nat} (hi : i < k) : ∃ g o x, A = some ⟨g, o, none⟩ ∧ WaOk x ∧ w'.rangeAt g (o + i * 35) x.cells := by
  obtain ⟨g, o, cs, e, h1, _, _, h4⟩ := (h.1.through hb).at hi
  have hl : i < l.length := by rw [h.len]; exact hi
  rw [List.getElem?_map, List.getElem?_eq_getElem hl] at h1
  simp only [Option.map_some, Option.some.injEq] at h1
  subst h1
  exact ⟨g, o, l[i], e, h.2 _ (List.getElem_mem hl), h4⟩
theorem Try.el_wa : El Try.prog 22 42 35 56 (.agg (Wa.cells ⟨0, 0, 0, dgZ⟩).toArray) := ⟨Try.underlying22, by kernel_rfl, rfl, by omega, by omega, by omega⟩
theorem Try.ix_wa (W : World) (g o n c j : Nat) (hj : j < n) : (Instr.indexAt 22 (.slice (some ⟨g, o, none⟩) n c) (.int .i64 (j : Int))).run Try.prog W = .ok (.pointer (some ⟨g, o + j * 35, none⟩)) W := Try.el_wa.index (by kernel_rfl) W g o n c j hj
def DD (L : Nat) (fd : List Fr) (A A' : Option Addr) : Nat → Prop := fun b => b = L ∨ rowQ A fd.length b ∨ rowQ A' fd.length b ∨ FD fd b
theorem sl_lt {w : World} {A : Option Addr} {n b : Nat} {xs : List (List Value)} (h : Sl w 1 A n xs) (hx : ∀ x ∈ xs, x.length = 1) (hb : rowQ A n b) : b < w.heap.size := by
  obtain ⟨hn, a, e, rfl⟩ := hb
  obtain ⟨g, o, e2, hc⟩ := h.2 hn
  rw [e] at e2
  obtain rfl := Option.some.inj e2
  have hl : 0 < xs.length := by rw [h.1]; exact hn
  have h1 := hc 0 xs[0] (List.getElem?_eq_getElem hl)
  have h2 := hx xs[0] (List.getElem_mem hl)
  have h3 := h1 0 _ (List.getElem?_eq_getElem (by omega))
  exact World.block_lt_of_cell? w ⟨g, _, none⟩ h3
section
variable {W W' : World} {L : Nat} {n ld : Int} {fd : List Fr} {A A' : Option Addr} {c d : Nat}
theorem DLg.lt (h : DLg W L n ld fd A A' c d) : ∀ b, DD L fd A A' b → b < W.heap.size := by
  rintro b (rfl | hb | hb | hb)
  · exact h.box.lt
  · exact sl_lt h.sq (fun x hx => by obtain ⟨a, _, rfl⟩ := List.mem_map.1 hx; rfl) hb
  · exact sl_lt h.pt (fun x hx => by obtain ⟨a, _, rfl⟩ := List.mem_map.1 hx; rfl) hb
  · exact h.fam.lt td_kv b hb
theorem DLg.off {D : Nat → Prop} (h : DLg W L n ld fd A A' c d) (hf : Ft D W W') (hd : ∀ b, DD L fd A A' b → ¬ D b) : DLg W' L n ld fd A A' c d :=
  ⟨hf.blk h.box (hd L (.inl rfl)), h.hc, h.hd, Sl.ft h.sq (fun x hx => by obtain ⟨a, _, rfl⟩ := List.mem_map.1 hx; rfl) hf (fun b hb => hd b (.inr (.inl hb))), Sl.ft h.pt (fun x hx => by obtain ⟨a, _, rfl⟩ := List.mem_map.1 hx; rfl) hf (fun b hb => hd b (.inr (.inr (.inl hb)))), h.fam.ft td_kv hf (fun b hb => hd b (.inr (.inr (.inr hb)))), h.apA, h.apB, h.apL⟩
end
structure Jwb (w0 W : World) (B gm L : Nat) (n lp ld : Int) (f fd : List Fr) (A A' : Option Addr) (c d : Nat) : Prop where
  p : PLg W B gm n lp f
  dc : DLg W L n ld fd A A' c d
  be : Below w0.heap.size w0 W
  p0 : ∀ b, DP B gm f b → w0.heap.size ≤ b
  d0 : ∀ b, DD L fd A A' b → w0.heap.size ≤ b
  ap : ∀ b, DP B gm f b → ¬ DD L fd A A' b
section
variable {w0 W W' : World} {B gm L : Nat} {n lp ld lp' ld' : Int} {f fd f' fd' : List Fr} {A A' A2 A2' : Option Addr} {c d c' d' : Nat}
theorem Jwb.through (h : Jwb w0 W B gm L n lp ld f fd A A' c d) (hb : Below W.heap.size W W') : Jwb w0 W' B gm L n lp ld f fd A A' c d :=
  ⟨h.p.through hb, h.dc.off (Ft.of_below hb) (D := fun _ => False) (fun _ _ h => h), below_step h.be hb, h.p0, h.d0, h.ap⟩
theorem Jwb.prog {D : Nat → Prop} (h : Jwb w0 W B gm L n lp ld f fd A A' c d) (hp : PLg W' B gm n lp' f') (hf : Ft D W W') (hD : ∀ b, D b → DP B gm f b) (hn : ∀ b, DP B gm f' b → DP B gm f b ∨ W.heap.size ≤ b) : Jwb w0 W' B gm L n lp' ld f' fd A A' c d :=
  ⟨hp, h.dc.off hf (fun b hb h9 => h.ap b (hD b h9) hb), hf.below h.be h.be.size (fun b hb => h.p0 b (hD b hb)), fun b hb => (hn b hb).elim (h.p0 b) (fun h9 => Nat.le_trans h.be.size h9), h.d0,
   fun b hb hd => (hn b hb).elim (fun h9 => h.ap b h9 hd) (fun h9 => by have := h.dc.lt b hd; omega)⟩
theorem Jwb.doc {D : Nat → Prop} (h : Jwb w0 W B gm L n lp ld f fd A A' c d) (hp : DLg W' L n ld' fd' A2 A2' c' d') (hf : Ft D W W') (hD : ∀ b, D b → DD L fd A A' b) (hn : ∀ b, DD L fd' A2 A2' b → DD L fd A A' b ∨ W.heap.size ≤ b) : Jwb w0 W' B gm L n lp ld' f fd' A2 A2' c' d' :=
  ⟨h.p.ft hf (fun b hb h9 => h.ap b hb (hD b h9)), hp, hf.below h.be h.be.size (fun b hb => h.d0 b (hD b hb)), h.p0, fun b hb => (hn b hb).elim (h.d0 b) (fun h9 => Nat.le_trans h.be.size h9),
   fun b hb hd => (hn b hd).elim (fun h9 => h.ap b hb h9) (fun h9 => by have := h.p.lt b hb; omega)⟩
end
def hasF (q : Int) (v : Value) (s : Slt) : List Fr → Prop := fun f => ∃ D, (⟨q, v, D, s⟩ : Fr) ∈ f
def anyF : List Fr → Prop := fun _ => True
/-- both logs: what the program's holds, what the document's; what is known of the two families -/
def JH (w0 W : World) (B gm L : Nat) (n lp ld : Int) (P Q : Lw) : Prop := ∃ f fd A A' c d, Jwb w0 W B gm L n lp ld f fd A A' c d ∧ (pairW f).Perm P ∧ pairW fd = Q
/-- the same, and the act's block beside them -/
def JG (w0 W : World) (B gm L : Nat) (n lp ld : Int) (P Q : Lw) (K1 K2 : List Fr → Prop) (g : Nat) (x : Wa) : Prop := ∃ f fd A A' c d, Jwb w0 W B gm L n lp ld f fd A A' c d ∧ (pairW f).Perm P ∧ pairW fd = Q ∧ K1 f ∧ K2 fd ∧ Blk W g 42 x.cells ∧ ¬ DP B gm f g ∧ ¬ DD L fd A A' g
section
variable {w0 W W' : World} {B gm L g : Nat} {n lp ld : Int} {P Q : Lw} {K1 K2 : List Fr → Prop} {x : Wa}
theorem JH.be (h : JH w0 W B gm L n lp ld P Q) : Below w0.heap.size w0 W := by obtain ⟨f, fd, A, A', c, d, h, _⟩ := h; exact h.be
theorem JH.through (h : JH w0 W B gm L n lp ld P Q) (hb : Below W.heap.size W W') : JH w0 W' B gm L n lp ld P Q := by obtain ⟨f, fd, A, A', c, d, h, h2⟩ := h; exact ⟨f, fd, A, A', c, d, h.through hb, h2⟩
theorem JG.h (h : JG w0 W B gm L n lp ld P Q K1 K2 g x) : JH w0 W B gm L n lp ld P Q := by obtain ⟨f, fd, A, A', c, d, h, h2, h3, _⟩ := h; exact ⟨f, fd, A, A', c, d, h, h2, h3⟩
theorem JG.blk (h : JG w0 W B gm L n lp ld P Q K1 K2 g x) : Blk W g 42 x.cells := by obtain ⟨f, fd, A, A', c, d, _, _, _, _, _, h, _⟩ := h; exact h
theorem JG.any (h : JG w0 W B gm L n lp ld P Q K1 K2 g x) : JG w0 W B gm L n lp ld P Q anyF anyF g x := by obtain ⟨f, fd, A, A', c, d, h, h2, h3, _, _, h4⟩ := h; exact ⟨f, fd, A, A', c, d, h, h2, h3, trivial, trivial, h4⟩
theorem JG.through (h : JG w0 W B gm L n lp ld P Q K1 K2 g x) (hb : Below W.heap.size W W') : JG w0 W' B gm L n lp ld P Q K1 K2 g x := by
  obtain ⟨f, fd, A, A', c, d, h, h2, h3, h4, h5, h6, h7⟩ := h
  exact ⟨f, fd, A, A', c, d, h.through hb, h2, h3, h4, h5, h6.through hb, h7⟩
theorem JH.withAct (h : JH w0 W B gm L n lp ld P Q) (hg : W.heap.size ≤ g) (hb : Below W.heap.size W W') (hx : Blk W' g 42 x.cells) : JG w0 W' B gm L n lp ld P Q anyF anyF g x := by
  obtain ⟨f, fd, A, A', c, d, h, h2, h3⟩ := h
  exact ⟨f, fd, A, A', c, d, h.through hb, h2, h3, trivial, trivial, hx, fun h9 => by have := h.p.lt g h9; omega, fun h9 => by have := h.dc.lt g h9; omega⟩
theorem JG.prog {f fd : List Fr} {A A' : Option Addr} {c d : Nat} {D : Nat → Prop} {lp' : Int} {f' : List Fr} {P' : Lw} {K1' : List Fr → Prop} (h : Jwb w0 W B gm L n lp ld f fd A A' c d) (h3 : pairW fd = Q) (h5 : K2 fd) (h6 : Blk W g 42 x.cells) (h7 : ¬ DP B gm f g) (h8 : ¬ DD L fd A A' g)
    (hp : PLg W' B gm n lp' f') (hf : Ft D W W') (hD : ∀ b, D b → DP B gm f b) (hn : ∀ b, DP B gm f' b → DP B gm f b ∨ W.heap.size ≤ b) (hP : (pairW f').Perm P') (hK : K1' f') : JG w0 W' B gm L n lp' ld P' Q K1' K2 g x :=
  ⟨f', fd, A, A', c, d, h.prog hp hf hD hn, hP, h3, hK, h5, hf.blk h6 (fun h9 => h7 (hD g h9)), fun h9 => (hn g h9).elim h7 (fun h10 => by have := h6.lt; omega), h8⟩
theorem JG.doc {f fd : List Fr} {A A' A2 A2' : Option Addr} {c d c' d' : Nat} {D : Nat → Prop} {ld' : Int} {fd' : List Fr} {Q' : Lw} {K2' : List Fr → Prop} (h : Jwb w0 W B gm L n lp ld f fd A A' c d) (h2 : (pairW f).Perm P) (h4 : K1 f) (h6 : Blk W g 42 x.cells) (h7 : ¬ DP B gm f g) (h8 : ¬ DD L fd A A' g)
    (hp : DLg W' L n ld' fd' A2 A2' c' d') (hf : Ft D W W') (hD : ∀ b, D b → DD L fd A A' b) (hn : ∀ b, DD L fd' A2 A2' b → DD L fd A A' b ∨ W.heap.size ≤ b) (hQ : pairW fd' = Q') (hK : K2' fd') : JG w0 W' B gm L n lp ld' P Q' K1 K2' g x :=
  ⟨f, fd', A2, A2', c', d', h.doc hp hf hD hn, h2, hQ, h4, hK, hf.blk h6 (fun h9 => h8 (hD g h9)), h7, fun h9 => (hn g h9).elim h8 (fun h10 => by have := h6.lt; omega)⟩
theorem DP.sub {f f' : List Fr} (hs : f'.Sublist f) : ∀ b, DP B gm f' b → DP B gm f b ∨ W.heap.size ≤ b := fun b hb => .inl (hb.imp id (fun h => h.imp id (FD.sub hs)))
-- the calls
theorem JG.lowP (h : JG w0 W B gm L n lp ld P Q K1 K2 g x) (h1 : 1 ≤ n) : Calls Try.prog 11 #[(.pointer (some ⟨B, 0, none⟩))] W fun e w' => e = .returned (.int .i64 lp) ∧ w' = W := by
  obtain ⟨f, fd, A, A', c, d, h, _⟩ := h
  exact low_lp W h.p.box h1
theorem JG.inP (h : JG w0 W B gm L n lp ld P Q K1 K2 g x) (q : Int) (h1 : 1 ≤ n) (h2 : 0 ≤ lp) (h3 : lp ≤ 1048576) : Calls Try.prog 10 #[(.pointer (some ⟨B, 0, none⟩)), .int .i64 q] W fun e w' => e = .returned (.bool (inB lp q)) ∧ w' = W := by
  obtain ⟨f, fd, A, A', c, d, h, _⟩ := h
  exact in_lp q W h.p.box h1 h2 h3
theorem JG.inD (h : JG w0 W B gm L n lp ld P Q K1 K2 g x) (q : Int) (h2 : 0 ≤ ld) (h3 : ld ≤ 1048576) : Calls Try.prog 18 #[.pointer (some ⟨L, 0, none⟩), .int .i64 q] W fun e w' => e = .returned (.bool (inB ld q)) ∧ w' = W := by
  obtain ⟨f, fd, A, A', c, d, h, _⟩ := h
  exact rin_any L n ld q _ _ W h.dc.box h2 h3
theorem JG.seqsP (h : JG w0 W B gm L n lp ld P Q K1 K2 g x) (h1 : 1 ≤ n) (hr : RisW P) (hl : P.length ≤ 8) : Calls Try.prog 12 #[(.pointer (some ⟨B, 0, none⟩))] W fun e w' => ∃ A c, e = .returned (.slice A P.length c) ∧ QIn w' A P.length (seqW P) ∧ Below W.heap.size W w' := by
  obtain ⟨f, fd, A, A', c, d, h, h2, _⟩ := h
  have hlen : f.length = P.length := by rw [← pair_len, h2.length_eq]
  refine (seqs_lp h.p h1 (by omega)).mono ?_
  rintro e w' ⟨A, c, rfl, hq, _, _, hb⟩
  rw [hlen, srt_seq hr h2] at hq
  exact ⟨A, c, by rw [hlen], hq, hb⟩
theorem JG.docBox (h : JG w0 W B gm L n lp ld P Q K1 K2 g x) : ∃ A c d v, Blk W L 38 (lgC n ld (.slice A Q.length c) v) ∧ QIn W A Q.length (seqW Q) ∧ Q.length ≤ c ∧ d = 0 := by
  obtain ⟨f, fd, A, A', c, d, h, _, h3, _⟩ := h
  have hlen : fd.length = Q.length := by rw [← pair_len, h3]
  have hb := h.dc.box
  have hq := h.dc.sq
  have hc := h.dc.hc
  rw [hlen] at hb hq hc
  have e9 : seqW Q = fd.map Fr.q := by rw [← h3, pair_seq]
  exact ⟨A, c, 0, _, hb, by rw [e9]; exact hq, hc, rfl⟩
theorem JG.clearP (h : JG w0 W B gm L n lp ld P Q K1 K2 g x) (h1 : 1 ≤ n) : Calls Try.prog 8 #[(.pointer (some ⟨B, 0, none⟩))] W fun e w' => e = .returned (.tuple #[]) ∧ JG w0 w' B gm L n lp ld [] Q anyF K2 g x := by
  obtain ⟨f, fd, A, A', c, d, h, h2, h3, h4, h5, h6, h7, h8⟩ := h
  refine (clear_lp h.p h1).mono ?_
  rintro e w' ⟨rfl, hp, hf⟩
  exact ⟨rfl, JG.prog h h3 h5 h6 h7 h8 hp hf (fun b hb => hb.elim .inl (fun e => .inr (.inl e))) (DP.sub (List.nil_sublist _)) (List.Perm.refl _) trivial⟩
theorem JG.moveP (h : JG w0 W B gm L n lp ld P Q K1 K2 g x) (q : Int) (h1 : 1 ≤ n) (hr : RisW P) (hq : ¬ (q < lp ∨ 1048576 < q)) : Calls Try.prog 9 #[(.pointer (some ⟨B, 0, none⟩)), .int .i64 q] W fun e w' => e = .returned (.int .i64 0) ∧ JG w0 w' B gm L n q ld (dropW q P) Q anyF K2 g x := by
  obtain ⟨f, fd, A, A', c, d, h, h2, h3, h4, h5, h6, h7, h8⟩ := h
  refine (move_lp q h.p h1 hq).mono ?_
  rintro e w' ⟨rfl, hp, hf⟩
  exact ⟨rfl, JG.prog h h3 h5 h6 h7 h8 hp hf (fun b hb => hb.elim .inl (fun e => .inr (.inl e))) (DP.sub List.filter_sublist) (by rw [pair_filter, dropW_filter hr]; exact h2.filter _) trivial⟩
theorem JG.moveN (h : JG w0 W B gm L n lp ld P Q K1 K2 g x) (q : Int) (h1 : 1 ≤ n) (hq : q < lp ∨ 1048576 < q) : Calls Try.prog 9 #[(.pointer (some ⟨B, 0, none⟩)), .int .i64 q] W fun e w' => e = .returned (.int .i64 14) ∧ w' = W := by
  obtain ⟨f, fd, A, A', c, d, h, _⟩ := h
  exact move_lno q h.p h1 hq
theorem dd_sub {fd fd' : List Fr} {A A' A2 A2' : Option Addr} (hs : ∀ b, FD fd' b → FD fd b) (h1 : ∀ b, rowQ A2 fd'.length b → rowQ A fd.length b) (h2 : ∀ b, rowQ A2' fd'.length b → rowQ A' fd.length b) : ∀ b, DD L fd' A2 A2' b → DD L fd A A' b ∨ W.heap.size ≤ b := by
  rintro b (rfl | hb | hb | hb)
  · exact .inl (.inl rfl)
  · exact .inl (.inr (.inl (h1 b hb)))
  · exact .inl (.inr (.inr (.inl (h2 b hb))))
  · exact .inl (.inr (.inr (.inr (hs b hb))))
theorem dropF_sub (low : Int) : ∀ f : List Fr, (dropF low f).Sublist f
  | [] => List.Sublist.refl _
  | x :: l => by
    unfold dropF
    split
    · exact (dropF_sub low l).cons x
    · exact List.Sublist.refl _
theorem JG.moveD (h : JG w0 W B gm L n lp ld P Q K1 K2 g x) (q : Int) (hl : Q.length ≤ 8) : Calls Try.prog 16 #[.pointer (some ⟨L, 0, none⟩), .int .i64 q] W fun e w' => e = .returned (.int .i64 (if q < ld ∨ 1048576 < q then 14 else 0)) ∧ (if q < ld ∨ 1048576 < q then w' = W else JG w0 w' B gm L n lp q P (dropW q Q) K1 anyF g x) := by
  obtain ⟨f, fd, A, A', c, d, h, h2, h3, h4, h5, h6, h7, h8⟩ := h
  have hlen : fd.length = Q.length := by rw [← pair_len, h3]
  refine (rmove_any q h.dc (by omega)).mono ?_
  rintro e w' ⟨rfl, hm⟩
  refine ⟨rfl, ?_⟩
  split
  · rename_i hc
    rw [if_pos hc] at hm
    exact hm
  · rename_i hc
    rw [if_neg hc] at hm
    obtain ⟨A2, A2', c2, d2, hd, ha, hb, hf⟩ := hm
    exact JG.doc h h2 h4 h6 h7 h8 hd hf (fun b hb => .inl hb) (dd_sub (fun b => FD.sub (dropF_sub q fd)) ha hb) (by rw [dropF_pair, h3]) trivial
theorem rowQ_nil {b : Nat} {A : Option Addr} (h : rowQ A 0 b) : False := absurd h.1 (by omega)
theorem JG.clearD (h : JG w0 W B gm L n lp ld P Q K1 K2 g x) : Calls Try.prog 17 #[.pointer (some ⟨L, 0, none⟩)] W fun e w' => e = .returned (.tuple #[]) ∧ JG w0 w' B gm L n lp ld P [] K1 anyF g x := by
  obtain ⟨f, fd, A, A', c, d, h, h2, h3, h4, h5, h6, h7, h8⟩ := h
  refine (rclear_any L n ld _ _ W h.dc.box).mono ?_
  rintro e w' ⟨rfl, hb, hf⟩
  have hd : DLg w' L n ld [] none none 0 0 := ⟨hb, Nat.le_refl _, Nat.le_refl _, Sl.none_, Sl.none_, Fam.nil, fun b hb => (rowQ_nil hb).elim, fun b hb => (rowQ_nil hb).elim, FD.nil _⟩
  exact ⟨rfl, JG.doc h h2 h4 h6 h7 h8 hd hf (fun b hb => .inl hb) (dd_sub (fun b hb => (FD.nil b hb).elim) (fun b hb => (rowQ_nil hb).elim) (fun b hb => (rowQ_nil hb).elim)) rfl trivial⟩
theorem JG.outP (h : JG w0 W B gm L n lp ld P Q K1 K2 g x) (q : Int) (h1 : 1 ≤ n) (h2 : 0 ≤ lp) (h3 : lp ≤ 1048576) (hin : inB lp q = false) : Calls Try.prog 7 #[(.pointer (some ⟨B, 0, none⟩)), .int .i64 q] W fun e w' => e = .returned (.tuple #[(.pointer none), .int .i64 14]) ∧ w' = W := by
  obtain ⟨f, fd, A, A', c, d, h, _⟩ := h
  exact at_lout q h.p h1 h2 h3 hin
theorem JG.outD (h : JG w0 W B gm L n lp ld P Q K1 K2 g x) (q : Int) (h2 : 0 ≤ ld) (h3 : ld ≤ 1048576) (hin : inB ld q = false) : Calls Try.prog 13 #[.pointer (some ⟨L, 0, none⟩), .int .i64 q] W fun e w' => e = .returned (.pointer none) ∧ w' = W := by
  obtain ⟨f, fd, A, A', c, d, h, _⟩ := h
  exact rat_out L n ld q _ _ W h.dc.box h2 h3 hin
theorem JG.atP (h : JG w0 W B gm L n lp ld P Q K1 K2 g x) (q : Int) (h1 : 1 ≤ n) (h7 : n ≤ 7) (h2 : 0 ≤ lp) (h3 : lp ≤ 1048576) (hin : inB lp q = true) (hr : RisW P) : Calls Try.prog 7 #[(.pointer (some ⟨B, 0, none⟩)), .int .i64 q] W fun e w' => ∃ R s, e = .returned (.tuple #[(.pointer (some ⟨R, 0, none⟩)), .int .i64 0]) ∧ (q, s) ∈ insW q (Slt.no n) P ∧ JG w0 w' B gm L n lp ld (insW q (Slt.no n) P) Q (hasF q (.pointer (some ⟨R, 0, none⟩)) s) K2 g x := by
  obtain ⟨f, fd, A, A', c, d, h, hP, hQ, h4, h5, h6, h7', h8⟩ := h
  by_cases hq : q ∈ f.map Fr.q
  · obtain ⟨y, hy, hyq⟩ := List.mem_map.1 hq
    obtain ⟨R, hR⟩ := ts_ptr (h.p.fam.has y hy)
    refine (at_lthere q h.p h1 h2 h3 hin hy hyq).mono ?_
    rintro e w' ⟨rfl, rfl⟩
    have hm : (q, y.s) ∈ P := hP.mem_iff.1 (List.mem_map.2 ⟨y, hy, by rw [hyq]⟩)
    have hi : insW q (Slt.no n) P = P := insW_has hr (List.mem_map.2 ⟨_, hm, rfl⟩)
    rw [hi]
    refine ⟨R, y.s, by rw [hR], hm, f, fd, A, A', c, d, h, hP, hQ, ⟨y.D, ?_⟩, h5, h6, h7', h8⟩
    rw [← hR, ← hyq]
    exact hy
  · have hqs : q ∉ seqW P := fun h9 => hq (by rw [← pair_seq]; exact (hP.map Prod.fst).mem_iff.2 h9)
    refine (at_lnew q h.p h1 h2 h3 h7 hin hq).mono ?_
    rintro e w' ⟨R, D, rfl, hp, hf, hD⟩
    refine ⟨R, Slt.no n, rfl, (insW_perm hqs).mem_iff.2 (List.mem_cons_self ..), JG.prog h hQ h5 h6 h7' h8 hp hf (fun b hb => .inr (.inl hb)) ?_ ?_ ⟨D, by simp⟩⟩
    · rintro b (rfl | rfl | hb)
      · exact .inl (.inl rfl)
      · exact .inl (.inr (.inl rfl))
      · rcases FD.mid.1 hb with h9 | h9
        · exact .inr (hD b h9)
        · rw [List.append_nil] at h9
          exact .inl (.inr (.inr h9))
    · refine List.Perm.trans ?_ (insW_perm hqs).symm
      unfold pairW
      rw [List.map_append]
      exact List.perm_append_comm.trans (hP.cons _)
theorem JG.atD (h : JG w0 W B gm L n lp ld P Q K1 K2 g x) (q : Int) (h2 : 0 ≤ ld) (h3 : ld ≤ 1048576) (hin : inB ld q = true) (hl : Q.length ≤ 8) : Calls Try.prog 13 #[.pointer (some ⟨L, 0, none⟩), .int .i64 q] W fun e w' => ∃ R s, e = .returned (.pointer (some ⟨R, 0, none⟩)) ∧ (q, s) ∈ insW q (Slt.no n) Q ∧ JG w0 w' B gm L n lp ld P (insW q (Slt.no n) Q) K1 (hasF q (.pointer (some ⟨R, 0, none⟩)) s) g x := by
  obtain ⟨f, fd, A, A', c, d, h, hP, hQ, h4, h5, h6, h7, h8⟩ := h
  have hlen : fd.length = Q.length := by rw [← pair_len, hQ]
  refine (rat_in q h.dc (by omega) h2 h3 hin).mono ?_
  rintro e w' ⟨v, fd', A2, A2', c2, d2, rfl, hd, hp, ⟨y, hy, hyq, hyv⟩, k1, k2, k3, hf⟩
  obtain ⟨R, pv, hR, _⟩ := hd.fam.has y hy
  rw [hyv] at hR
  subst hR
  rw [hQ] at hp
  refine ⟨R, y.s, rfl, ?_, JG.doc h hP h4 h6 h7 h8 hd hf (fun b hb => .inl hb) ?_ hp ⟨y.D, ?_⟩⟩
  · rw [← hp]
    exact List.mem_map.2 ⟨y, hy, by rw [hyq]⟩
  · rintro b (rfl | hb | hb | hb)
    · exact .inl (.inl rfl)
    · exact (k2 b hb).imp (fun h9 => .inr (.inl h9)) id
    · exact (k3 b hb).imp (fun h9 => .inr (.inr (.inl h9))) id
    · exact (k1 b hb).imp (fun h9 => .inr (.inr (.inr h9))) id
  · rw [← hyv, ← hyq]
    exact hy
theorem JG.prepP {q : Int} {v : Value} {s : Slt} (h : JG w0 W B gm L n lp ld P Q (hasF q v s) K2 g x) (hs : SlLow s) (who : Int) (dg : List UInt8) (hd : dg.length = 32) : Calls Try.prog 14 #[v, .int .i64 who, .agg (vs dg).toArray] W fun e w' => e = .returned (.int .i64 (prepS s who dg).2) ∧ JG w0 w' B gm L n lp ld (setW q (prepS s who dg).1 P) Q anyF K2 g x := by
  obtain ⟨f, fd, A, A', c, d, h, hP, hQ, ⟨D, hm⟩, h5, h6, h7, h8⟩ := h
  obtain ⟨a, b, rfl⟩ := List.append_of_mem hm
  refine (ts_prepare who dg (h.p.fam.has _ hm) hs hd).mono ?_
  rintro e w' ⟨rfl, hT, hf⟩
  have hDP : ∀ k, D k → DP B gm (a ++ ⟨q, v, D, s⟩ :: b) k := fun k hk => .inr (.inr ⟨_, hm, hk⟩)
  have hfd : ∀ k, FD (a ++ ⟨q, v, D, (prepS s who dg).1⟩ :: b) k → FD (a ++ ⟨q, v, D, s⟩ :: b) k := fun k hk => FD.mid.2 ((FD.mid (x := ⟨q, v, D, (prepS s who dg).1⟩)).1 hk)
  have hp : PLg w' B gm n lp (a ++ ⟨q, v, D, (prepS s who dg).1⟩ :: b) :=
    ⟨hf.blk h.p.box (fun h9 => h.p.nb ⟨_, hm, h9⟩), by rw [ent_put (D := D) (s := s)]; exact h.p.mp.keep (hf.block gm h.p.mp.lt (fun h9 => h.p.nm ⟨_, hm, h9⟩)), Fam.put ts_kv h.p.fam hT hf (fun k hk => .inl hk), fun h9 => h.p.nb (hfd _ h9), fun h9 => h.p.nm (hfd _ h9), nodup_putF h.p.nd⟩
  exact ⟨rfl, JG.prog h hQ h5 h6 h7 h8 hp hf hDP (fun k hk => .inl (hk.imp id (fun h9 => h9.imp id (hfd k)))) (by rw [pair_put h.p.nd]; exact setW_perm hP) trivial⟩
theorem JG.prepD {q : Int} {v : Value} {s : Slt} (h : JG w0 W B gm L n lp ld P Q K1 (hasF q v s) g x) (hr : RisW Q) (hs : SlLow s) (who : Int) (dg : List UInt8) (hd : dg.length = 32) : Calls Try.prog 15 #[v, .int .i64 who, .agg (vs dg).toArray] W fun e w' => e = .returned (.int .i64 (prepS s who dg).2) ∧ JG w0 w' B gm L n lp ld P (setW q (prepS s who dg).1 Q) K1 anyF g x := by
  obtain ⟨f, fd, A, A', c, d, h, hP, hQ, h4, ⟨D, hm⟩, h6, h7, h8⟩ := h
  obtain ⟨a, b, rfl⟩ := List.append_of_mem hm
  have hnd : ((a ++ ⟨q, v, D, s⟩ :: b).map Fr.q).Nodup := by rw [← pair_seq, hQ]; exact ris_nodup hr
  refine (td_prepare who dg (h.dc.fam.has _ hm) (by have := hs.pr; show s.pr.length ≤ 100000; omega) hd).mono ?_
  rintro e w' ⟨rfl, D', hT, hf, hD'⟩
  have hDD : ∀ k, D k → DD L (a ++ ⟨q, v, D, s⟩ :: b) A A' k := fun k hk => .inr (.inr (.inr ⟨_, hm, hk⟩))
  have hfd : ∀ k, FD (a ++ ⟨q, v, D', (prepS s who dg).1⟩ :: b) k → FD (a ++ ⟨q, v, D, s⟩ :: b) k ∨ W.heap.size ≤ k := fun k hk => FD.put (x := ⟨q, v, D, s⟩) hD' hk
  have hlen : (a ++ ⟨q, v, D', (prepS s who dg).1⟩ :: b).length = (a ++ ⟨q, v, D, s⟩ :: b).length := by simp
  have hlt := h.dc.lt
  have hp : DLg w' L n ld (a ++ ⟨q, v, D', (prepS s who dg).1⟩ :: b) A A' c d := by
    refine ⟨by rw [hlen]; exact hf.blk h.dc.box (fun h9 => h.dc.apL ⟨_, hm, h9⟩), by rw [hlen]; exact h.dc.hc, by rw [hlen]; exact h.dc.hd, ?_, ?_, Fam.put td_kv h.dc.fam hT hf hD', fun k hk => ?_, fun k hk => ?_, fun h9 => ?_⟩
    · have e1 : (a ++ ⟨q, v, D', (prepS s who dg).1⟩ :: b).map Fr.q = (a ++ ⟨q, v, D, s⟩ :: b).map Fr.q := by simp
      rw [hlen, e1]
      exact Sl.ft h.dc.sq (fun x hx => by obtain ⟨a, _, rfl⟩ := List.mem_map.1 hx; rfl) hf (fun k hk h9 => (h.dc.apA k hk).2 ⟨_, hm, h9⟩)
    · have e1 : (a ++ ⟨q, v, D', (prepS s who dg).1⟩ :: b).map Fr.v = (a ++ ⟨q, v, D, s⟩ :: b).map Fr.v := by simp
      rw [hlen, e1]
      exact Sl.ft h.dc.pt (fun x hx => by obtain ⟨a, _, rfl⟩ := List.mem_map.1 hx; rfl) hf (fun k hk h9 => (h.dc.apB k hk).2 ⟨_, hm, h9⟩)
    · rw [hlen] at hk
      refine ⟨(h.dc.apA k hk).1, fun h9 => ?_⟩
      rcases hfd k h9 with h10 | h10
      · exact (h.dc.apA k hk).2 h10
      · have := hlt k (.inr (.inl hk)); omega
    · rw [hlen] at hk
      refine ⟨(h.dc.apB k hk).1, fun h9 => ?_⟩
      rcases hfd k h9 with h10 | h10
      · exact (h.dc.apB k hk).2 h10
      · have := hlt k (.inr (.inr (.inl hk))); omega
    · rcases hfd L h9 with h10 | h10
      · exact h.dc.apL h10
      · have := hlt L (.inl rfl); omega
  refine ⟨rfl, JG.doc h hP h4 h6 h7 h8 hp hf hDD ?_ (by rw [pair_put hnd, hQ]) trivial⟩
  rintro k (rfl | hk | hk | hk)
  · exact .inl (.inl rfl)
  · rw [hlen] at hk; exact .inl (.inr (.inl hk))
  · rw [hlen] at hk; exact .inl (.inr (.inr (.inl hk)))
  · exact (hfd k hk).imp (fun h9 => .inr (.inr (.inr h9))) id
end

end Go.Proofs.Ytponmfkddglopaa
