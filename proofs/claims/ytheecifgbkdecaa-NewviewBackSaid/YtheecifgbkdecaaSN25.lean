/-
  NvP NvM NvO NvF
-/
import Derived.Test.YtheecifgbkdecaaSN24
import Derived.BigGuard
namespace Go.Proofs.Ytheecifgbkdecaa
open Go.RowKit

structure Sg where
 fr : Int
 ch : Ch
def fltN (n : Int) : Int := if n < 4 then 0 else (n - 1) / 3
/-- rising, each from 0 to n less 1, with a change of that view that may be -/
def okNv (view n : Int) : Option Int → List Sg → Bool
 | _, [] => true
 | q, s :: l => decide (0 ≤ s.fr) && decide (s.fr < n) && (match q with | some f => decide (f < s.fr) | none => true) && decide (s.ch.vw = view) && rightB s.ch n && okNv view n (some s.fr) l
def chkNv (view : Int) (l : List Sg) (n : Int) : Int := if badN n = true then 1 else if n < (l.length : Int) then 4 else if (l.length : Int) < 2 * fltN n + 1 then 16 else if okNv view n none l = true then 0 else 2
def encSg (s : Sg) : List UInt8 := beB (u64N s.fr) 1 ++ rowB (encCh s.ch)
def encNv (view : Int) (l : List Sg) : List UInt8 := beB (u64N view) 8 ++ (beB l.length 2 ++ encAll encSg l)
def rdSg (n : Int) (st : Option (List UInt8)) : (Sg × Bool) × Option (List UInt8) :=
 ((⟨((nval 1 st : Nat) : Int), (parseCh (rval 1048576 (nnext 1 st)) n).1⟩, decide ((parseCh (rval 1048576 (nnext 1 st)) n).2 = 0)), rnext 1048576 (nnext 1 st))
def finNv (view : Int) (L : List (Sg × Bool) × Option (List UInt8)) (n : Int) : (Int × List Sg) × Int :=
 if L.2 = some [] ∧ L.1.all (·.2) = true ∧ chkNv view (L.1.map (·.1)) n = 0 then ((view, L.1.map (·.1)), 0) else ((0, []), 2)
def parseNv (xs : List UInt8) (n : Int) : (Int × List Sg) × Int :=
 if badN n = true then ((0, []), 1) else finNv (sx 8 (nval 8 (some xs))) (rdMany (rdSg n) (cval 7 (nnext 8 (some xs))) (cnext 7 (nnext 8 (some xs)))) n

theorem okNv_all {view n : Int} : ∀ {q : Option Int} {l : List Sg}, okNv view n q l = true → ∀ s ∈ l, (0 ≤ s.fr ∧ s.fr < n) ∧ s.ch.vw = view ∧ rightB s.ch n = true
 | _, [], _, s, hs => by cases hs
 | q, x :: l, h, s, hs => by
  unfold okNv at h
  simp only [Bool.and_eq_true, decide_eq_true_eq] at h
  rcases List.mem_cons.1 hs with rfl | hs
  ·exact ⟨⟨h.1.1.1.1.1, h.1.1.1.1.2⟩, h.1.1.2, h.1.2⟩
  ·exact okNv_all h.2 s hs
theorem chkNv_0 {view n : Int} {l : List Sg} (h : chkNv view l n = 0) : badN n = false ∧ (l.length : Int) ≤ n ∧ okNv view n none l = true := by
 unfold chkNv at h
 by_cases hb : badN n = true
 ·rw [if_pos hb] at h; exact absurd h (by decide)
 rw [if_neg hb] at h
 by_cases h1 : n < (l.length : Int)
 ·rw [if_pos h1] at h; exact absurd h (by decide)
 rw [if_neg h1] at h
 by_cases h2 : (l.length : Int) < 2 * fltN n + 1
 ·rw [if_pos h2] at h; exact absurd h (by decide)
 rw [if_neg h2] at h
 by_cases h3 : okNv view n none l = true
 ·exact ⟨by simpa using hb, by omega, h3⟩
 ·rw [if_neg h3] at h; exact absurd h (by decide)
theorem badN_le {n : Int} (h : badN n = false) : 1 ≤ n ∧ n ≤ 7 := by simp [badN] at h; omega
theorem rdSg_front {n : Int} (s : Sg) (ys : List UInt8) (h0 : 0 ≤ s.fr) (h7 : s.fr < 7) (hp : parseCh (encCh s.ch) n = (s.ch, 0)) (hl : (encCh s.ch).length ≤ 1048576) : rdSg n (some (encSg s ++ ys)) = ((s, true), some ys) := by
 obtain ⟨fr, ch⟩ := s
 simp only at h0 h7 hp hl
 unfold rdSg encSg
 simp only [List.append_assoc]
 have e : u64N fr = fr.toNat := by unfold u64N; omega
 obtain ⟨a1, a2⟩ := n_front (v := u64N fr) (k := 1) (by rw [e]; omega) (rowB (encCh ch) ++ ys)
 obtain ⟨b1, b2⟩ := r_front hl (by omega) ys
 rw [a1, a2, b1, b2, hp, e, Int.toNat_of_nonneg h0]
 rfl
/-- a proof that may be is told by its bytes -/
theorem parseNv_enc {view n : Int} {l : List Sg} (hv : In64 view) (hc : chkNv view l n = 0) (hb : ∀ s ∈ l, parseCh (encCh s.ch) n = (s.ch, 0) ∧ (encCh s.ch).length ≤ 1048576) : parseNv (encNv view l) n = ((view, l), 0) := by
 obtain ⟨h1, h2, h3⟩ := chkNv_0 hc
 obtain ⟨h4, h5⟩ := badN_le h1
 unfold parseNv encNv
 rw [if_neg (by simp [h1])]
 obtain ⟨a1, a2⟩ := n8_front view hv (beB l.length 2 ++ encAll encSg l)
 obtain ⟨b1, b2⟩ := c_front (most := 7) (n := l.length) (by omega) (by omega) (encAll encSg l)
 rw [a1, a2, b1, b2]
 have h9 := rdMany_front (rd := rdSg n) (f := fun q : Sg × Bool => encSg q.1) (ok := fun q => ((0 ≤ q.1.fr ∧ q.1.fr < 7) ∧ parseCh (encCh q.1.ch) n = (q.1.ch, 0) ∧ (encCh q.1.ch).length ≤ 1048576) ∧ q.2 = true) (fun q ys hq => by
  obtain ⟨p, b⟩ := q
  obtain ⟨⟨hq1, hq2, hq4⟩, hq3⟩ := hq
  simp only at hq1 hq2 hq3 hq4
  rw [rdSg_front p ys hq1.1 hq1.2 hq2 hq4, hq3]) (l.map (fun p => (p, true))) [] (fun q hq => by
  obtain ⟨p, hp, rfl⟩ := List.mem_map.1 hq
  have h8 := okNv_all h3 p hp
  exact ⟨⟨⟨h8.1.1, by have := h8.1.2; simp only; omega⟩, hb p hp⟩, rfl⟩)
 have e : ∀ l : List Sg, encAll (fun q : Sg × Bool => encSg q.1) (l.map (fun p => (p, true))) = encAll encSg l := fun l => by
  induction l with
  | nil => rfl
  | cons p l ih => simp only [List.map_cons, encAll]; rw [ih]
 rw [e, List.length_map, List.append_nil] at h9
 rw [h9]
 have e2 : ∀ l : List Sg, (l.map (fun p => (p, true))).map (·.1) = l := fun l => by rw [List.map_map]; exact List.map_id' l
 have e3 : ∀ l : List Sg, (l.map (fun p => (p, true))).all (·.2) = true := fun l => by simp
 unfold finNv
 simp only [e2, e3]
 rw [if_pos (by simp [hc])]

end Go.Proofs.Ytheecifgbkdecaa

namespace Go.Proofs.Ytheecifgbkdecaa
open Go.RowKit

def sgC (s : Sg) (t : Pl × Pl × Pl) : List Value := .int .i64 s.fr :: Ch.cells s.ch t.1 t.2.1 t.2.2
theorem Try.el_sg : El Try.prog 42 106 6 96 (.agg #[.int .i64 0, .int .i64 0, .int .i64 0, .slice none 0 0, .slice none 0 0, .slice none 0 0]) :=
 ⟨Try.underlying42, by kernel_rfl, rfl, by omega, by omega, by omega⟩
theorem Try.ix_sg (W : World) (g o n c j : Nat) (hj : j < n) : (Instr.indexAt 42 (.slice (some ⟨g, o, none⟩) n c) (.int .i64 (j : Int))).run Try.prog W = .ok (.pointer (some ⟨g, o + j * 6, none⟩)) W := Try.el_sg.index (by kernel_rfl) W g o n c j hj
def AllS (w : World) : List Sg → List (Pl × Pl × Pl) → Prop
 | [], [] => True
 | s :: l, t :: ts => ChIn w t.1 t.2.1 t.2.2 s.ch ∧ AllS w l ts
 | [], _ :: _ => False
 | _ :: _, [] => False
def sgR : List Sg → List (Pl × Pl × Pl) → List (List Value) := List.zipWith sgC
def SgsIn (w : World) (A : Option Addr) (k : Nat) (l : List Sg) : Prop := ∃ ts, Sl w 6 A k (sgR l ts) ∧ AllS w l ts
theorem sgR_len {l : List Sg} {ts : List (Pl × Pl × Pl)} (h : l.length = ts.length) : (sgR l ts).length = l.length := by
 unfold sgR
 rw [List.length_zipWith, h, Nat.min_self]
theorem sgR_get {l : List Sg} {ts : List (Pl × Pl × Pl)} {i : Nat} {s : Sg} {t : Pl × Pl × Pl} (hp : l[i]? = some s) (hs : ts[i]? = some t) : (sgR l ts)[i]? = some (sgC s t) := by
 unfold sgR
 rw [List.getElem?_zipWith, hp, hs]
theorem sgR_snoc {l : List Sg} {ts : List (Pl × Pl × Pl)} (h : l.length = ts.length) (s : Sg) (t : Pl × Pl × Pl) : sgR (l ++ [s]) (ts ++ [t]) = sgR l ts ++ [sgC s t] := by
 unfold sgR
 rw [List.zipWith_append h]
 rfl
section
variable {w w' : World} {A : Option Addr} {k : Nat}
theorem AllS.through : ∀ {l : List Sg} {ts : List (Pl × Pl × Pl)}, AllS w l ts → Below w.heap.size w w' → AllS w' l ts
 | [], [], _, _ => trivial
 | _ :: _, _ :: _, h, hb => ⟨h.1.through hb, AllS.through h.2 hb⟩
 | [], _ :: _, h, _ => h.elim
 | _ :: _, [], h, _ => h.elim
theorem AllS.len : ∀ {l : List Sg} {ts : List (Pl × Pl × Pl)}, AllS w l ts → l.length = ts.length
 | [], [], _ => rfl
 | _ :: _, _ :: _, h => by simp [AllS.len h.2]
 | [], _ :: _, h => h.elim
 | _ :: _, [], h => h.elim
theorem AllS.at : ∀ {l : List Sg} {ts : List (Pl × Pl × Pl)} {i : Nat} {s : Sg}, AllS w l ts → l[i]? = some s → ∃ t, ts[i]? = some t ∧ ChIn w t.1 t.2.1 t.2.2 s.ch
 | [], _, _, _, _, h => by simp at h
 | _ :: _, [], _, _, h, _ => h.elim
 | x :: _, t :: _, 0, s, h, he => by
  simp at he
  subst he
  exact ⟨t, rfl, h.1⟩
 | _ :: _, _ :: _, i + 1, s, h, he => by
  obtain ⟨t, ht, hc⟩ := AllS.at h.2 (by simpa using he)
  exact ⟨t, by simpa using ht, hc⟩
theorem SgsIn.none_ : SgsIn w none 0 [] := ⟨[], Sl.none_, trivial⟩
theorem SgsIn.through {l : List Sg} (h : SgsIn w A k l) (hb : Below w.heap.size w w') : SgsIn w' A k l := by
 obtain ⟨ts, h1, h2⟩ := h
 exact ⟨ts, h1.through hb, h2.through hb⟩
theorem SgsIn.len {l : List Sg} (h : SgsIn w A k l) : l.length = k := by
 obtain ⟨ts, h1, h2⟩ := h
 rw [← sgR_len h2.len]
 exact h1.len
theorem SgsIn.at {l : List Sg} (h : SgsIn w A k l) {i : Nat} (hi : i < k) : ∃ g o s P Q R, A = some ⟨g, o, none⟩ ∧ l[i]? = some s ∧ s ∈ l ∧ l.drop i = s :: l.drop (i + 1) ∧ w.rangeAt g (o + i * 6) [.int .i64 s.fr, .int .i64 s.ch.vw, .int .i64 s.ch.lw, .slice P.1 P.2.1 P.2.2, .slice Q.1 Q.2.1 Q.2.2, .slice R.1 R.2.1 R.2.2] ∧ ChIn w P Q R s.ch := by
 have hl : i < l.length := by rw [h.len]; exact hi
 obtain ⟨ts, h1, h2⟩ := h
 obtain ⟨g, o, cs, e, h3, _, _, h4⟩ := h1.at hi
 obtain ⟨t, ht, hc⟩ := h2.at (List.getElem?_eq_getElem hl)
 rw [sgR_get (List.getElem?_eq_getElem hl) ht] at h3
 injection h3 with h3
 subst h3
 exact ⟨g, o, l[i], t.1, t.2.1, t.2.2, e, List.getElem?_eq_getElem hl, List.getElem_mem hl, List.drop_eq_getElem_cons hl, h4, hc⟩
end

end Go.Proofs.Ytheecifgbkdecaa

namespace Go.Proofs.Ytheecifgbkdecaa
open Go.ChangeShapes Go.WideShapes Go.ChangeAt Go.RowKit Go.Deep

set_option maxRecDepth 100000 in
/-- A signed change's cells. -/
theorem sg_of_trod {H : Type} {enc : TypeId × Value → H} {W : World} {fuel : Nat} {cs : List Value} {x : DataW H × List MemPlace} (hf : DataW.trod enc Try.prog W 0 (fun _ => true) true fuel 106 cs = some x) :
  (∃ (s : Sg) (t : Pl × Pl × Pl), cs = sgC s t ∧ ChIn W t.1 t.2.1 t.2.2 s.ch ∧ s.ch.InR) ∧ cs.length = 6 := by
 obtain ⟨xs, m, rfl, _, hl, hlen, hg⟩ := DataW.trod_struct Try.underlying106 hf
 have e8 : Try.prog.cellsOf 106 = 6 := by kernel_rfl
 have hcl : cs.length = 6 := by rw [e8] at hl; exact hl
 match cs, hcl with
 | [c0, c1, c2, c3, c4, c5], hcl =>
  have hx : ∀ i, i < 2 → ∃ y, xs[i]? = some y := fun i hi => ⟨_, List.getElem?_eq_getElem (by have := hlen; simp at this; omega)⟩
  have g0 := hg 0 _ rfl
  obtain ⟨z0, hz0⟩ := hx 0 (by omega)
  rw [hz0] at g0
  have g1 := hg 1 _ rfl
  obtain ⟨z1, hz1⟩ := hx 1 (by omega)
  rw [hz1] at g1
  have k0 : Try.prog.cellsOf 3 = 1 := by kernel_rfl
  have k1 : Try.prog.cellsOf 25 = 5 := by kernel_rfl
  simp only [List.getElem_toArray, List.getElem_cons_zero, List.getElem_cons_succ] at g0 g1
  rw [k0] at g0
  rw [k1] at g1
  obtain ⟨v0, hv0, _, _⟩ := DataW.trod_int Try.underlying3 g0
  have d0 : c0 = .int .i64 v0 := by simpa using hv0
  obtain ⟨⟨c, P, Q, R, e, h1, h2⟩, _⟩ := ch_of_trod g1
  have e2 : [c1, c2, c3, c4, c5] = Ch.cells c P Q R := by simpa using e
  subst d0
  exact ⟨⟨⟨v0, c⟩, (P, Q, R), by show _ = Value.int .i64 v0 :: Ch.cells c P Q R; rw [← e2], h1, h2⟩, rfl⟩
theorem sgs_rows {W : World} : ∀ {rows : List (List Value)}, (∀ r ∈ rows, ∃ (s : Sg) (t : Pl × Pl × Pl), r = sgC s t ∧ ChIn W t.1 t.2.1 t.2.2 s.ch ∧ s.ch.InR) → ∃ (l : List Sg) (ts : List (Pl × Pl × Pl)), rows = sgR l ts ∧ AllS W l ts ∧ ∀ s ∈ l, s.ch.InR
 | [], _ => ⟨[], [], rfl, trivial, (fun _ h => nomatch h)⟩
 | r :: rows, h => by
  obtain ⟨s, t, e, h1, h2⟩ := h r (List.mem_cons_self ..)
  obtain ⟨l, ts, e2, h3, h4⟩ := sgs_rows (fun q hq => h q (List.mem_cons_of_mem _ hq))
  exact ⟨s :: l, t :: ts, by rw [e, e2]; rfl, ⟨h1, h3⟩, fun q hq => by
   rcases List.mem_cons.1 hq with rfl | hq
   ·exact h2
   ·exact h4 q hq⟩
set_option maxRecDepth 100000 in
/-- An argument of type []Signed. -/
theorem opened_sgs {H : Type} {enc : TypeId × Value → H} {W : World} {a0 : Option Addr} {len cap : Nat} {d0 : DataW H} {p : List MemPlace}
  (h0 : DataW.Trod enc Try.prog W 0 (fun _ => true) true 42 (.slice a0 len cap) d0 p) : ∃ l : List Sg, SgsIn W a0 len l ∧ (∀ s ∈ l, s.ch.InR) ∧ len ≤ cap ∧ cap ≤ maxLen := by
 obtain ⟨fuel, hf⟩ := h0
 obtain ⟨A, n, c, rows, e, h1, h2, h3, h4⟩ := sl_rows (c0 := .slice a0 len cap) Try.underlying42 (show Try.prog.cellsOf 106 = 6 by kernel_rfl) (by omega) (fun _ _ _ h => sg_of_trod h) (by simpa [Value.cells] using hf)
 injection e with e1 e2 e3
 subst e1 e2 e3
 obtain ⟨l, ts, e4, h5, h6⟩ := sgs_rows h2
 exact ⟨l, ⟨ts, e4 ▸ h1, h5⟩, h6, h3, h4⟩

set_option maxRecDepth 100000 in
theorem opened_v64 {H : Type} {enc : TypeId × Value → H} {W : World} {b : Nat} {v : Value} {d : DataW H} {p : List MemPlace}
  (hv : Value.okWide Try.prog W .any b 2 v) (h0 : DataW.Trod enc Try.prog W 0 (fun _ => true) true 2 v d p) : ∃ y : Int, v = .int .i64 y ∧ -9223372036854775808 ≤ y ∧ y ≤ 9223372036854775807 := by
 obtain ⟨x, rfl, rfl, rfl, wx⟩ := open_int Try.underlying2 hv h0
 exact ⟨x, rfl, by simpa [Lit.wf, IntKind.min, IntKind.max, IntKind.signed, IntKind.bits] using wx⟩

end Go.Proofs.Ytheecifgbkdecaa

namespace Go.Proofs.Ytheecifgbkdecaa
open Go.RowKit

set_option maxHeartbeats 4000000 in
set_option maxRecDepth 100000 in
theorem rfaults_any (n : Int) (h : n ≤ 300) (w : World) : Calls Try.prog 31 #[.int .i64 n] w fun e w' => e = .returned (.int .i64 (fltN n)) ∧ w' = w := by
 have HN := Lib.hid h
 go_enter Try.func31, Try.ntmps31
 go_wp2
 go_loopw [0, 3] (fun nv fv wr => ∃ (m f : Int), nv = .int .i64 m ∧ fv = .int .i64 f ∧ 0 ≤ f ∧ f ≤ 100 ∧ m ≤ 300 ∧ (m + 3 * f = n) ∧ (f = 0 ∨ 1 ≤ m) ∧ wr = w) (fun nv _ _ => (intOf nv).toNat)
 case atStart => exact ⟨n, 0, rfl, rfl, by omega, by omega, HN.out, by omega, .inl rfl, rfl⟩
 case round =>
  obtain ⟨m, f, rfl, rfl, h0, h1, h2, h3, h4, rfl⟩ := hrel
  by_cases h5 : 4 ≤ m
  ·have d1 : decide (4 ≤ m) = true := by simpa using h5
   have hw1 : IntKind.i64.wrap (m - 3) = m - 3 := IntWalk.i64_in _ (by omega)
   have hw2 : IntKind.i64.wrap (f + 1) = f + 1 := IntWalk.i64_in _ (by omega)
   have d2 : decide (100 < f + 1) = false := by simp; omega
   go_wp2
   go_roundw
   case rel => exact ⟨m - 3, f + 1, rfl, rfl, by omega, by omega, by omega, by omega, by omega, by first | trivial | rfl⟩
   case measure => simp [intOf]; omega
  ·have d1 : decide (4 ≤ m) = false := by simpa using h5
   have HF : Hid (f = fltN n) := Lib.hid (by unfold fltN; split <;> omega)
   go_wp2
   go_ret
   exact ⟨by first | rfl | (rw [HF.out]; rfl), rfl⟩

end Go.Proofs.Ytheecifgbkdecaa
