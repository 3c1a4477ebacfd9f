/-
  RqM RqOp Nm
-/
import Derived.Test.YtheecifgbkdecaaSN2
import Derived.Test.YtheecifgbkdecaaSN6
import Derived.ProofKit
import Derived.OpenShut
import Derived.ChangeMaps5
import Derived.Deep.Slices
import Derived.Deep.Fields
import Derived.Test.YtheecifgbkdecaaSN0
namespace Go.Proofs.Ytheecifgbkdecaa
open Go.RowKit

/-- A reader's bytes lie where blocks are already. -/
theorem Rs.lt_ {Q : Nat → Prop} {w : World} {g : Nat} {t : TypeId} {st : Option (List UInt8)} (h : Rs Q w g t st) : Rs (fun b => b < w.heap.size) w g t st := by
 obtain ⟨xs, er, ⟨A, n, c, h1, h2, h3, h4⟩, hs, hl⟩ := h
 exact ⟨xs, er, ⟨A, n, c, h1, h2, h3, fun h0 => (h4 h0).lt.weak fun _ h => h.2⟩, hs, hl⟩
theorem below1_ (w : World) (A : Obj) : Below w.heap.size w (w.alloc A) := (Below.refl _ w).alloc (Nat.le_refl _) A

/-- where an endorsement's tags lie: the parts of a slice -/
abbrev Pl := Option Addr × Nat × Nat
def enC (e : En) (s : Pl) : List Value := [.int .i64 e.og, .slice s.1 s.2.1 s.2.2]
def enR : List En → List Pl → List (List Value) := List.zipWith enC
theorem enR_len {es : List En} {ss : List Pl} (h : es.length = ss.length) : (enR es ss).length = es.length := by
 unfold enR
 rw [List.length_zipWith, h, Nat.min_self]
theorem enR_get {es : List En} {ss : List Pl} {i : Nat} {e : En} {s : Pl} (he : es[i]? = some e) (hs : ss[i]? = some s) : (enR es ss)[i]? = some (enC e s) := by
 unfold enR
 rw [List.getElem?_zipWith, he, hs]
/-- These tags are read at a slice. -/
def TsIn (w : World) (s : Pl) (ts : List (List UInt8)) : Prop := Sl w 32 s.1 s.2.1 (ts.map vs) ∧ (∀ t ∈ ts, t.length = 32) ∧ s.2.1 ≤ s.2.2 ∧ s.2.2 ≤ maxLen
/-- Each endorsement's tags, where they lie. -/
def AllIn (w : World) : List En → List Pl → Prop
 | [], [] => True
 | e :: es, s :: ss => TsIn w s e.ts ∧ AllIn w es ss
 | [], _ :: _ => False
 | _ :: _, [] => False
/-- These endorsements are read at a slice. -/
def EsIn (w : World) (A : Option Addr) (n : Nat) (es : List En) : Prop := ∃ ss, Sl w 2 A n (enR es ss) ∧ AllIn w es ss

section
variable {w w' : World} {A : Option Addr} {n : Nat} {es : List En} {ss : List Pl} {s : Pl} {ts : List (List UInt8)}
theorem TsIn.through (h : TsIn w s ts) (hb : Below w.heap.size w w') : TsIn w' s ts := ⟨h.1.through hb, h.2⟩
theorem TsIn.len (h : TsIn w s ts) : ts.length = s.2.1 := by simpa using h.1.len
theorem TsIn.at (h : TsIn w s ts) {j : Nat} (hj : j < s.2.1) : ∃ g o t, s.1 = some ⟨g, o, none⟩ ∧ ts[j]? = some t ∧ t ∈ ts ∧ ts.drop j = t :: ts.drop (j + 1) ∧ t.length = 32 ∧ w.rangeAt g (o + j * 32) (vs t) := by
 obtain ⟨g, o, cs, e, h1, _, _, h4⟩ := h.1.at hj
 have hl : j < ts.length := by rw [h.len]; exact hj
 rw [List.getElem?_map, List.getElem?_eq_getElem hl] at h1
 simp only [Option.map_some, Option.some.injEq] at h1
 subst h1
 exact ⟨g, o, ts[j], e, List.getElem?_eq_getElem hl, List.getElem_mem hl, List.drop_eq_getElem_cons hl, h.2.1 _ (List.getElem_mem hl), h4⟩
theorem AllIn.mono : ∀ {es : List En} {ss : List Pl}, AllIn w es ss → (∀ s ts, TsIn w s ts → TsIn w' s ts) → AllIn w' es ss
 | [], [], _, _ => trivial
 | _ :: _, _ :: _, h, hm => ⟨hm _ _ h.1, AllIn.mono h.2 hm⟩
 | [], _ :: _, h, _ => h.elim
 | _ :: _, [], h, _ => h.elim
theorem AllIn.len : ∀ {es : List En} {ss : List Pl}, AllIn w es ss → es.length = ss.length
 | [], [], _ => rfl
 | _ :: _, _ :: _, h => by simp [AllIn.len h.2]
 | [], _ :: _, h => h.elim
 | _ :: _, [], h => h.elim
theorem AllIn.at : ∀ {es : List En} {ss : List Pl} {i : Nat} {e : En}, AllIn w es ss → es[i]? = some e → ∃ s, ss[i]? = some s ∧ TsIn w s e.ts
 | [], _, _, _, _, h => by simp at h
 | _ :: _, [], _, _, h, _ => h.elim
 | x :: _, s :: _, 0, e, h, he => by
  simp at he
  subst he
  exact ⟨s, rfl, h.1⟩
 | _ :: _, _ :: _, i + 1, e, h, he => by
  obtain ⟨s, hs, ht⟩ := AllIn.at h.2 (by simpa using he)
  exact ⟨s, by simpa using hs, ht⟩
theorem AllIn.append : ∀ {es : List En} {ss : List Pl} {es' : List En} {ss' : List Pl}, AllIn w es ss → AllIn w es' ss' → AllIn w (es ++ es') (ss ++ ss')
 | [], [], _, _, _, h => h
 | _ :: _, _ :: _, _, _, h, h' => ⟨h.1, AllIn.append h.2 h'⟩
 | [], _ :: _, _, _, h, _ => h.elim
 | _ :: _, [], _, _, h, _ => h.elim
theorem AllIn.take : ∀ {es : List En} {ss : List Pl} (i : Nat), AllIn w es ss → AllIn w (es.take i) (ss.take i)
 | [], [], i, _ => by simp [AllIn]
 | _ :: _, _ :: _, 0, _ => trivial
 | _ :: _, _ :: _, i + 1, h => ⟨h.1, AllIn.take i h.2⟩
 | [], _ :: _, _, h => h.elim
 | _ :: _, [], _, h => h.elim
theorem AllIn.drop : ∀ {es : List En} {ss : List Pl} (i : Nat), AllIn w es ss → AllIn w (es.drop i) (ss.drop i)
 | [], [], i, _ => by simp [AllIn]
 | _ :: _, _ :: _, 0, h => h
 | _ :: _, _ :: _, i + 1, h => AllIn.drop i h.2
 | [], _ :: _, _, h => h.elim
 | _ :: _, [], _, h => h.elim
theorem EsIn.none_ : EsIn w A 0 [] := ⟨[], Sl.none_, trivial⟩
theorem EsIn.through (h : EsIn w A n es) (hb : Below w.heap.size w w') : EsIn w' A n es := by
 obtain ⟨ss, h1, h2⟩ := h
 exact ⟨ss, h1.through hb, h2.mono fun _ _ h => h.through hb⟩
theorem EsIn.alloc (h : EsIn w A n es) (o : Obj) : EsIn (w.alloc o) A n es := h.through ((Below.refl _ w).alloc (Nat.le_refl _) o)
theorem EsIn.len (h : EsIn w A n es) : es.length = n := by
 obtain ⟨ss, h1, h2⟩ := h
 rw [← enR_len h2.len]
 exact h1.len
theorem EsIn.at (h : EsIn w A n es) {i : Nat} (hi : i < n) : ∃ g o e B m c, A = some ⟨g, o, none⟩ ∧ es[i]? = some e ∧ e ∈ es ∧ es.drop i = e :: es.drop (i + 1) ∧ w.rangeAt g (o + i * 2) [.int .i64 e.og, .slice B m c] ∧ TsIn w (B, m, c) e.ts := by
 have hl : i < es.length := by rw [h.len]; exact hi
 obtain ⟨ss, h1, h2⟩ := h
 obtain ⟨g, o, cs, e, h3, _, _, h4⟩ := h1.at hi
 obtain ⟨s, hs, ht⟩ := h2.at (List.getElem?_eq_getElem hl)
 rw [enR_get (List.getElem?_eq_getElem hl) hs] at h3
 injection h3 with h3
 subst h3
 exact ⟨g, o, es[i], s.1, s.2.1, s.2.2, e, List.getElem?_eq_getElem hl, List.getElem_mem hl, List.drop_eq_getElem_cons hl, h4, ht⟩
end

section
variable {w w' : World} {B : Nat} {v : Value} {es : List En} {ss : List Pl} {s : Pl} {ts : List (List UInt8)} {e e2 : TypeId} {k k2 : Nat} {v2 : Value} {xs ys : List (List Value)}
/-- A block that isn't its own is turned. -/
theorem Os.ne {row : Option Nat} (h : Os w B e k v xs) (hb : w.grownBy w' row) (hne : ∀ b, v.ownBlock = some b → row ≠ some b) : Os w' B e k v xs :=
 h.keep fun b _ hl hv => hb.block b hl (fun e => hne b hv e.symm)
end

end Go.Proofs.Ytheecifgbkdecaa

namespace Go.Proofs.Ytheecifgbkdecaa
open Go.ChangeShapes Go.WideShapes Go.ChangeAt Go.RowKit Go.Deep

theorem Try.own : ownKnob Try.prog.godebug = none := by kernel_rfl
theorem Try.laidOut : laidOutB Try.prog = true := by kernel_rfl
theorem Try.cells_u8 : Try.prog.cellsOf 5 = 1 := by kernel_rfl

set_option maxRecDepth 100000 in
theorem opened_int {H : Type} {enc : TypeId × Value → H} {W : World} {b : Nat} {v : Value} {d : DataW H} {p : List MemPlace}
  (hv : Value.okWide Try.prog W .any b 3 v) (h0 : DataW.Trod enc Try.prog W 0 (fun _ => true) true 3 v d p) : ∃ y : Int, v = .int .i64 y ∧ -9223372036854775808 ≤ y ∧ y ≤ 9223372036854775807 := by
 obtain ⟨x, rfl, rfl, rfl, wx⟩ := open_int Try.underlying3 hv h0
 exact ⟨x, rfl, by simpa [Lit.wf, IntKind.min, IntKind.max, IntKind.signed, IntKind.bits] using wx⟩
set_option maxRecDepth 100000 in
/-- A core's cells. -/
theorem cr_of_trod {H : Type} {enc : TypeId × Value → H} {W : World} {base : Nat} {sp : Nat → Bool} {held : Bool} {fuel : Nat} {cs : List Value} {x : DataW H × List MemPlace} (hf : DataW.trod enc Try.prog W base sp held fuel 58 cs = some x) :
  ∃ (y0 : Int) (y1 : Int) (y2 : Int) (s3 : List UInt8) (y4 : Int) (y5 : Int) (s6 : List UInt8), cs = [.int .i64 y0, .int .i64 y1, .int .i64 y2, .string (ba s3), .int .i64 y4, .int .i64 y5, .string (ba s6)] ∧ (-9223372036854775808 ≤ y0 ∧ y0 ≤ 9223372036854775807) ∧ (-9223372036854775808 ≤ y1 ∧ y1 ≤ 9223372036854775807) ∧ (-9223372036854775808 ≤ y2 ∧ y2 ≤ 9223372036854775807) ∧ s3.length ≤ maxLen ∧ (-9223372036854775808 ≤ y4 ∧ y4 ≤ 9223372036854775807) ∧ (-9223372036854775808 ≤ y5 ∧ y5 ≤ 9223372036854775807) ∧ s6.length ≤ maxLen := by
 obtain ⟨xs, m, rfl, _, hl, hlen, hg⟩ := DataW.trod_struct Try.underlying58 hf
 have e7 : Try.prog.cellsOf 58 = 7 := by kernel_rfl
 have hcl : cs.length = 7 := by rw [e7] at hl; exact hl
 match cs, hcl with
 | [c0, c1, c2, c3, c4, c5, c6], _ =>
  have hx : ∀ i, i < 7 → ∃ y, xs[i]? = some y := fun i hi => ⟨_, List.getElem?_eq_getElem (by have := hlen; simp at this; omega)⟩
  have g0 := hg 0 _ rfl
  obtain ⟨z0, hz0⟩ := hx 0 (by omega)
  rw [hz0] at g0
  have g1 := hg 1 _ rfl
  obtain ⟨z1, hz1⟩ := hx 1 (by omega)
  rw [hz1] at g1
  have g2 := hg 2 _ rfl
  obtain ⟨z2, hz2⟩ := hx 2 (by omega)
  rw [hz2] at g2
  have g3 := hg 3 _ rfl
  obtain ⟨z3, hz3⟩ := hx 3 (by omega)
  rw [hz3] at g3
  have g4 := hg 4 _ rfl
  obtain ⟨z4, hz4⟩ := hx 4 (by omega)
  rw [hz4] at g4
  have g5 := hg 5 _ rfl
  obtain ⟨z5, hz5⟩ := hx 5 (by omega)
  rw [hz5] at g5
  have g6 := hg 6 _ rfl
  obtain ⟨z6, hz6⟩ := hx 6 (by omega)
  rw [hz6] at g6
  have k0 : Try.prog.cellsOf 2 = 1 := by kernel_rfl
  have k1 : Try.prog.cellsOf 3 = 1 := by kernel_rfl
  have k2 : Try.prog.cellsOf 9 = 1 := by kernel_rfl
  simp only [List.getElem_toArray, List.getElem_cons_zero, List.getElem_cons_succ] at g0 g1 g2 g3 g4 g5 g6
  rw [k1] at g0
  rw [k0] at g1
  rw [k1] at g2
  rw [k2] at g3
  rw [k0] at g4
  rw [k0] at g5
  rw [k2] at g6
  obtain ⟨v0, hv0, _, hw0⟩ := DataW.trod_int Try.underlying3 g0
  have d0 : c0 = .int .i64 v0 := by simpa using hv0
  obtain ⟨v1, hv1, _, hw1⟩ := DataW.trod_int Try.underlying2 g1
  have d1 : c1 = .int .i64 v1 := by simpa using hv1
  obtain ⟨v2, hv2, _, hw2⟩ := DataW.trod_int Try.underlying3 g2
  have d2 : c2 = .int .i64 v2 := by simpa using hv2
  obtain ⟨v3, hv3, _, hw3⟩ := DataW.trod_string Try.underlying9 g3
  have d3 : c3 = .string (ba v3.data.toList) := by rw [← ba_of v3]; simpa using hv3
  obtain ⟨v4, hv4, _, hw4⟩ := DataW.trod_int Try.underlying2 g4
  have d4 : c4 = .int .i64 v4 := by simpa using hv4
  obtain ⟨v5, hv5, _, hw5⟩ := DataW.trod_int Try.underlying2 g5
  have d5 : c5 = .int .i64 v5 := by simpa using hv5
  obtain ⟨v6, hv6, _, hw6⟩ := DataW.trod_string Try.underlying9 g6
  have d6 : c6 = .string (ba v6.data.toList) := by rw [← ba_of v6]; simpa using hv6
  subst d0 d1 d2 d3 d4 d5 d6
  exact ⟨v0, v1, v2, v3.data.toList, v4, v5, v6.data.toList, rfl, by simpa [Lit.wf, IntKind.min, IntKind.max, IntKind.signed, IntKind.bits] using hw0, by simpa [Lit.wf, IntKind.min, IntKind.max, IntKind.signed, IntKind.bits] using hw1, by simpa [Lit.wf, IntKind.min, IntKind.max, IntKind.signed, IntKind.bits] using hw2, by rw [← ba_size, ← ba_of v3]; exact hw3, by simpa [Lit.wf, IntKind.min, IntKind.max, IntKind.signed, IntKind.bits] using hw4, by simpa [Lit.wf, IntKind.min, IntKind.max, IntKind.signed, IntKind.bits] using hw5, by rw [← ba_size, ← ba_of v6]; exact hw6⟩

def Cr.cells (c : Cr) : List Value := [.int .i64 c.cl, .int .i64 c.sp, .int .i64 c.op, .string (ba c.lt), .int .i64 c.a, .int .i64 c.b, .string (ba c.tx)]
end Go.Proofs.Ytheecifgbkdecaa

namespace Go.Proofs.Ytheecifgbkdecaa
open Go.RowKit

theorem nmB_yes {x : UInt8} (h : 97 ≤ x.toNat ∧ x.toNat ≤ 122 ∨ 48 ≤ x.toNat ∧ x.toNat ≤ 57 ∨ x.toNat = 45) : nmB x = true := by
 simp only [nmB, Bool.or_eq_true, Bool.and_eq_true, decide_eq_true_eq, beq_iff_eq]
 omega
theorem nmB_no {x : UInt8} (h : ¬ (97 ≤ x.toNat ∧ x.toNat ≤ 122 ∨ 48 ≤ x.toNat ∧ x.toNat ≤ 57 ∨ x.toNat = 45)) : nmB x = false := by
 cases hb : nmB x
 ·rfl
 ·simp only [nmB, Bool.or_eq_true, Bool.and_eq_true, decide_eq_true_eq, beq_iff_eq] at hb
  omega
theorem isNm_eq (l : List UInt8) : isNm l = (l.all nmB && (decide (1 ≤ l.length) && decide (l.length ≤ 16))) := by unfold isNm; rw [Bool.and_assoc]
theorem ret_b {a b : Bool} (h : a = b) : Ending.returned (Value.bool a) = .returned (.bool b) := by rw [h]

set_option maxHeartbeats 4000000 in
theorem risname_any (l : List UInt8) (w : World) (hl : l.length ≤ 1000000) : Calls Try.prog 116 #[.string (ba l)] w fun e w' => e = .returned (.bool (isNm l)) ∧ w' = w := by
 have hsz := ba_size
 obtain ⟨bb, hbb⟩ : ∃ bb, isNm l = bb := ⟨_, rfl⟩
 rw [hbb]
 have HBB := Lib.hid hbb
 clear hbb
 go_enter Try.func116, Try.ntmps116
 go_wp2
 go_loopw [3] (fun iv wr => ∃ i : Nat, i ≤ l.length ∧ iv = .int .i64 i ∧ (l.take i).all nmB = true ∧ wr = w) (fun iv _ => l.length - (intOf iv).toNat)
 case atStart => exact ⟨0, Nat.zero_le _, rfl, rfl, rfl⟩
 case round =>
  obtain ⟨i, hi, rfl, ha, rfl⟩ := hrel
  by_cases hlt : i < l.length
  ·obtain ⟨x, hx⟩ : ∃ x, l[i]? = some x := ⟨_, List.getElem?_eq_getElem hlt⟩
   have hix := run_index_ba Try.underlying9 l .i64 i i rfl x hx
   have hal : (l.take (i + 1)).all nmB = nmB x := by
    rw [List.take_add_one, hx]
    simp [ha]
   have hxl := x.toNat_lt
   have hall : nmB x = false → l.all nmB = false := fun h => by
    rw [← List.take_append_drop (i + 1) l, List.all_append, hal, h]
    rfl
   have HA := Lib.hid hal
   have HB := Lib.hid hall
   clear ha hal hall
   by_cases hy : 97 ≤ x.toNat ∧ x.toNat ≤ 122 ∨ 48 ≤ x.toNat ∧ x.toNat ≤ 57 ∨ x.toNat = 45
   ·have HY := Lib.hid (nmB_yes hy)
    generalize x.toNat = v at *
    rcases hy with ⟨h, h'⟩ | ⟨h, h'⟩ | h
    all_goals
     go_wp2
     go_roundw
     case rel => exact ⟨i + 1, by omega, by go_num, HA.out.trans HY.out, trivial⟩
     case measure => simp [intOf]; omega
   ·have HN := Lib.hid (HB.out (nmB_no hy))
    have hcases : x.toNat < 45 ∨ (45 < x.toNat ∧ x.toNat < 48) ∨ (57 < x.toNat ∧ x.toNat < 97) ∨ 122 < x.toNat := by omega
    clear HA HB hy
    generalize x.toNat = v at *
    have hne : ((v : Int) == 45) = false := by simp; omega
    rcases hcases with h | ⟨h, h'⟩ | ⟨h, h'⟩ | h
    ·go_wp2
     go_ret
     exact ⟨ret_b (by rw [← HBB.out, isNm_eq, HN.out]; rfl), rfl⟩
    ·go_wp2
     go_ret
     exact ⟨ret_b (by rw [← HBB.out, isNm_eq, HN.out]; rfl), rfl⟩
    ·have b57 : decide ((v : Int) ≤ 57) = false := by simp; omega
     go_wp2
     go_ret
     exact ⟨ret_b (by rw [← HBB.out, isNm_eq, HN.out]; rfl), rfl⟩
    ·have b57 : decide ((v : Int) ≤ 57) = false := by simp; omega
     have b122 : decide ((v : Int) ≤ 122) = false := by simp; omega
     go_wp2
     go_ret
     exact ⟨ret_b (by rw [← HBB.out, isNm_eq, HN.out]; rfl), rfl⟩
  ·have e : l.take i = l := List.take_of_length_le (by omega)
   rw [e] at ha
   have HA := Lib.hid ha
   clear e ha
   by_cases h1 : 1 ≤ l.length
   ·by_cases h16 : l.length ≤ 16
    ·go_wp2
     go_ret
     exact ⟨ret_b (by rw [← HBB.out, isNm_eq, HA.out]; simp [h1, h16]; try omega), rfl⟩
    ·go_wp2
     go_ret
     exact ⟨ret_b (by rw [← HBB.out, isNm_eq, HA.out]; simp [h1, h16]; try omega), rfl⟩
   ·go_wp2
    go_ret
    exact ⟨ret_b (by rw [← HBB.out, isNm_eq, HA.out]; simp [h1]; try omega), rfl⟩

end Go.Proofs.Ytheecifgbkdecaa
