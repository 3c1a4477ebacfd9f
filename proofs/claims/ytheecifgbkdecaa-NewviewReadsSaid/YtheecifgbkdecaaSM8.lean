/-
  RqM RqOp Nm RqC RqR RqQ
-/
import Derived.Test.YtheecifgbkdecaaSM2
import Derived.Test.YtheecifgbkdecaaSM7
import Derived.ProofKit
import Derived.OpenShut
import Derived.ChangeMaps5
import Derived.Deep.Slices
import Derived.Deep.Fields
import Derived.Test.YtheecifgbkdecaaSM0
import Derived.Test.YtheecifgbkdecaaSM6
import Derived.Deep.CutRange
namespace Go.Proofs.Ytheecifgbkdecaa
open Go.RowKit

/-- A reader's bytes lie where blocks are already. -/
theorem Rs.lt_ {Q : Nat → Prop} {w : World} {g : Nat} {t : TypeId} {st : Option (List UInt8)} (h : Rs Q w g t st) : Rs (fun b => b < w.heap.size) w g t st := by
 obtain ⟨xs, er, ⟨A, n, c, h1, h2, h3, h4⟩, hs, hl⟩ := h
 exact ⟨xs, er, ⟨A, n, c, h1, h2, h3, fun h0 => (h4 h0).lt.weak fun _ h => h.2⟩, hs, hl⟩
theorem below1_ (w : World) (A : Obj) : Below w.heap.size w (w.alloc A) := (Below.refl _ w).alloc (Nat.le_refl _) A

/-- where an endorsement's tags lie: the parts of a slice -/
abbrev Pl := Option Addr × Nat × Nat
def enC (e : En) (s : Pl) : List Value := [.int .i64 e.og, .slice s.1 s.2.1 s.2.2]
def enR : List En → List Pl → List (List Value) := List.zipWith enC
theorem enR_len {es : List En} {ss : List Pl} (h : es.length = ss.length) : (enR es ss).length = es.length := by
 unfold enR
 rw [List.length_zipWith, h, Nat.min_self]
theorem enR_get {es : List En} {ss : List Pl} {i : Nat} {e : En} {s : Pl} (he : es[i]? = some e) (hs : ss[i]? = some s) : (enR es ss)[i]? = some (enC e s) := by
 unfold enR
 rw [List.getElem?_zipWith, he, hs]
/-- These tags are read at a slice. -/
def TsIn (w : World) (s : Pl) (ts : List (List UInt8)) : Prop := Sl w 32 s.1 s.2.1 (ts.map vs) ∧ (∀ t ∈ ts, t.length = 32) ∧ s.2.1 ≤ s.2.2 ∧ s.2.2 ≤ maxLen
/-- Each endorsement's tags, where they lie. -/
def AllIn (w : World) : List En → List Pl → Prop
 | [], [] => True
 | e :: es, s :: ss => TsIn w s e.ts ∧ AllIn w es ss
 | [], _ :: _ => False
 | _ :: _, [] => False
/-- These endorsements are read at a slice. -/
def EsIn (w : World) (A : Option Addr) (n : Nat) (es : List En) : Prop := ∃ ss, Sl w 2 A n (enR es ss) ∧ AllIn w es ss

section
variable {w w' : World} {A : Option Addr} {n : Nat} {es : List En} {ss : List Pl} {s : Pl} {ts : List (List UInt8)}
theorem TsIn.through (h : TsIn w s ts) (hb : Below w.heap.size w w') : TsIn w' s ts := ⟨h.1.through hb, h.2⟩
theorem TsIn.len (h : TsIn w s ts) : ts.length = s.2.1 := by simpa using h.1.len
theorem TsIn.at (h : TsIn w s ts) {j : Nat} (hj : j < s.2.1) : ∃ g o t, s.1 = some ⟨g, o, none⟩ ∧ ts[j]? = some t ∧ t ∈ ts ∧ ts.drop j = t :: ts.drop (j + 1) ∧ t.length = 32 ∧ w.rangeAt g (o + j * 32) (vs t) := by
 obtain ⟨g, o, cs, e, h1, _, _, h4⟩ := h.1.at hj
 have hl : j < ts.length := by rw [h.len]; exact hj
 rw [List.getElem?_map, List.getElem?_eq_getElem hl] at h1
 simp only [Option.map_some, Option.some.injEq] at h1
 subst h1
 exact ⟨g, o, ts[j], e, List.getElem?_eq_getElem hl, List.getElem_mem hl, List.drop_eq_getElem_cons hl, h.2.1 _ (List.getElem_mem hl), h4⟩
theorem AllIn.mono : ∀ {es : List En} {ss : List Pl}, AllIn w es ss → (∀ s ts, TsIn w s ts → TsIn w' s ts) → AllIn w' es ss
 | [], [], _, _ => trivial
 | _ :: _, _ :: _, h, hm => ⟨hm _ _ h.1, AllIn.mono h.2 hm⟩
 | [], _ :: _, h, _ => h.elim
 | _ :: _, [], h, _ => h.elim
theorem AllIn.len : ∀ {es : List En} {ss : List Pl}, AllIn w es ss → es.length = ss.length
 | [], [], _ => rfl
 | _ :: _, _ :: _, h => by simp [AllIn.len h.2]
 | [], _ :: _, h => h.elim
 | _ :: _, [], h => h.elim
theorem AllIn.at : ∀ {es : List En} {ss : List Pl} {i : Nat} {e : En}, AllIn w es ss → es[i]? = some e → ∃ s, ss[i]? = some s ∧ TsIn w s e.ts
 | [], _, _, _, _, h => by simp at h
 | _ :: _, [], _, _, h, _ => h.elim
 | x :: _, s :: _, 0, e, h, he => by
  simp at he
  subst he
  exact ⟨s, rfl, h.1⟩
 | _ :: _, _ :: _, i + 1, e, h, he => by
  obtain ⟨s, hs, ht⟩ := AllIn.at h.2 (by simpa using he)
  exact ⟨s, by simpa using hs, ht⟩
theorem AllIn.append : ∀ {es : List En} {ss : List Pl} {es' : List En} {ss' : List Pl}, AllIn w es ss → AllIn w es' ss' → AllIn w (es ++ es') (ss ++ ss')
 | [], [], _, _, _, h => h
 | _ :: _, _ :: _, _, _, h, h' => ⟨h.1, AllIn.append h.2 h'⟩
 | [], _ :: _, _, _, h, _ => h.elim
 | _ :: _, [], _, _, h, _ => h.elim
theorem AllIn.take : ∀ {es : List En} {ss : List Pl} (i : Nat), AllIn w es ss → AllIn w (es.take i) (ss.take i)
 | [], [], i, _ => by simp [AllIn]
 | _ :: _, _ :: _, 0, _ => trivial
 | _ :: _, _ :: _, i + 1, h => ⟨h.1, AllIn.take i h.2⟩
 | [], _ :: _, _, h => h.elim
 | _ :: _, [], _, h => h.elim
theorem AllIn.drop : ∀ {es : List En} {ss : List Pl} (i : Nat), AllIn w es ss → AllIn w (es.drop i) (ss.drop i)
 | [], [], i, _ => by simp [AllIn]
 | _ :: _, _ :: _, 0, h => h
 | _ :: _, _ :: _, i + 1, h => AllIn.drop i h.2
 | [], _ :: _, _, h => h.elim
 | _ :: _, [], _, h => h.elim
theorem EsIn.none_ : EsIn w A 0 [] := ⟨[], Sl.none_, trivial⟩
theorem EsIn.through (h : EsIn w A n es) (hb : Below w.heap.size w w') : EsIn w' A n es := by
 obtain ⟨ss, h1, h2⟩ := h
 exact ⟨ss, h1.through hb, h2.mono fun _ _ h => h.through hb⟩
theorem EsIn.alloc (h : EsIn w A n es) (o : Obj) : EsIn (w.alloc o) A n es := h.through ((Below.refl _ w).alloc (Nat.le_refl _) o)
theorem EsIn.len (h : EsIn w A n es) : es.length = n := by
 obtain ⟨ss, h1, h2⟩ := h
 rw [← enR_len h2.len]
 exact h1.len
theorem EsIn.at (h : EsIn w A n es) {i : Nat} (hi : i < n) : ∃ g o e B m c, A = some ⟨g, o, none⟩ ∧ es[i]? = some e ∧ e ∈ es ∧ es.drop i = e :: es.drop (i + 1) ∧ w.rangeAt g (o + i * 2) [.int .i64 e.og, .slice B m c] ∧ TsIn w (B, m, c) e.ts := by
 have hl : i < es.length := by rw [h.len]; exact hi
 obtain ⟨ss, h1, h2⟩ := h
 obtain ⟨g, o, cs, e, h3, _, _, h4⟩ := h1.at hi
 obtain ⟨s, hs, ht⟩ := h2.at (List.getElem?_eq_getElem hl)
 rw [enR_get (List.getElem?_eq_getElem hl) hs] at h3
 injection h3 with h3
 subst h3
 exact ⟨g, o, es[i], s.1, s.2.1, s.2.2, e, List.getElem?_eq_getElem hl, List.getElem_mem hl, List.drop_eq_getElem_cons hl, h4, ht⟩
end

section
variable {w w' : World} {B : Nat} {v : Value} {es : List En} {ss : List Pl} {s : Pl} {ts : List (List UInt8)} {e e2 : TypeId} {k k2 : Nat} {v2 : Value} {xs ys : List (List Value)}
/-- A block that isn't its own is turned. -/
theorem Os.ne {row : Option Nat} (h : Os w B e k v xs) (hb : w.grownBy w' row) (hne : ∀ b, v.ownBlock = some b → row ≠ some b) : Os w' B e k v xs :=
 h.keep fun b _ hl hv => hb.block b hl (fun e => hne b hv e.symm)
end

end Go.Proofs.Ytheecifgbkdecaa

namespace Go.Proofs.Ytheecifgbkdecaa
open Go.ChangeShapes Go.WideShapes Go.ChangeAt Go.RowKit Go.Deep

theorem Try.own : ownKnob Try.prog.godebug = none := by kernel_rfl
theorem Try.laidOut : laidOutB Try.prog = true := by kernel_rfl
theorem Try.cells_u8 : Try.prog.cellsOf 5 = 1 := by kernel_rfl

set_option maxRecDepth 100000 in
/-- An argument of type []byte, nil or not, reads as bytes. -/
theorem opened_by {H : Type} {enc : TypeId × Value → H} {W : World} {a0 : Option Addr} {len cap : Nat} {d0 : DataW H} {p : List MemPlace}
  (h0 : DataW.Trod enc Try.prog W 0 (fun _ => true) true 28 (.slice a0 len cap) d0 p) :
  ∃ xs : List UInt8, By W (fun _ => True) a0 len xs ∧ len ≤ cap ∧ cap ≤ maxLen := by
 obtain ⟨fuel, hf⟩ := h0
 rcases open_ints Try.underlying28 Try.underlying5 Try.cells_u8 hf with ⟨hcs, hx⟩ | ⟨a, len', cap', zs, hcs, _, hl, hm, hz, hx, hcell, hwz⟩
 ·simp [Value.cells] at hcs
  obtain ⟨rfl, rfl, rfl⟩ := hcs
  exact ⟨[], By.none_, Nat.le_refl _, Nat.zero_le _⟩
 ·simp [Value.cells] at hcs
  obtain ⟨rfl, rfl, rfl⟩ := hcs
  simp only [if_true] at hz
  refine ⟨(zs.take len).map fun x => UInt8.ofNat x.toNat, ⟨by simp; omega, fun hn => ?_⟩, by omega, by omega⟩
  obtain ⟨b, o, s⟩ := a
  obtain rfl : s = none := by simpa [Addr.add] using World.cell?_spot (hcell 0 (by omega))
  refine ⟨b, o, rfl, trivial, fun j u hu => ?_⟩
  have hj : j < len := by
   have := (List.getElem?_eq_some_iff.1 hu).1
   simp at this
   omega
  have hjz : j < zs.length := by omega
  have e := hcell j (by omega)
  rw [Go.WideShapes.add_plain] at e
  rw [e]
  have hw := hwz zs[j] (List.getElem_mem _)
  have hb : 0 ≤ zs[j] ∧ zs[j] ≤ 255 := by simpa [Lit.wf, IntKind.min, IntKind.max, IntKind.signed, IntKind.bits] using hw
  simp [hj, hjz] at hu
  subst hu
  simp [List.getD, hjz, u8]
  omega

set_option maxRecDepth 100000 in
theorem opened_int {H : Type} {enc : TypeId × Value → H} {W : World} {b : Nat} {v : Value} {d : DataW H} {p : List MemPlace}
  (hv : Value.okWide Try.prog W .any b 3 v) (h0 : DataW.Trod enc Try.prog W 0 (fun _ => true) true 3 v d p) : ∃ y : Int, v = .int .i64 y ∧ -9223372036854775808 ≤ y ∧ y ≤ 9223372036854775807 := by
 obtain ⟨x, rfl, rfl, rfl, wx⟩ := open_int Try.underlying3 hv h0
 exact ⟨x, rfl, by simpa [Lit.wf, IntKind.min, IntKind.max, IntKind.signed, IntKind.bits] using wx⟩
def Cr.cells (c : Cr) : List Value := [.int .i64 c.cl, .int .i64 c.sp, .int .i64 c.op, .string (ba c.lt), .int .i64 c.a, .int .i64 c.b, .string (ba c.tx)]
end Go.Proofs.Ytheecifgbkdecaa

namespace Go.Proofs.Ytheecifgbkdecaa
open Go.RowKit

theorem nmB_yes {x : UInt8} (h : 97 ≤ x.toNat ∧ x.toNat ≤ 122 ∨ 48 ≤ x.toNat ∧ x.toNat ≤ 57 ∨ x.toNat = 45) : nmB x = true := by
 simp only [nmB, Bool.or_eq_true, Bool.and_eq_true, decide_eq_true_eq, beq_iff_eq]
 omega
theorem nmB_no {x : UInt8} (h : ¬ (97 ≤ x.toNat ∧ x.toNat ≤ 122 ∨ 48 ≤ x.toNat ∧ x.toNat ≤ 57 ∨ x.toNat = 45)) : nmB x = false := by
 cases hb : nmB x
 ·rfl
 ·simp only [nmB, Bool.or_eq_true, Bool.and_eq_true, decide_eq_true_eq, beq_iff_eq] at hb
  omega
theorem isNm_eq (l : List UInt8) : isNm l = (l.all nmB && (decide (1 ≤ l.length) && decide (l.length ≤ 16))) := by unfold isNm; rw [Bool.and_assoc]
theorem ret_b {a b : Bool} (h : a = b) : Ending.returned (Value.bool a) = .returned (.bool b) := by rw [h]

set_option maxHeartbeats 4000000 in
theorem risname_any (l : List UInt8) (w : World) (hl : l.length ≤ 1000000) : Calls Try.prog 116 #[.string (ba l)] w fun e w' => e = .returned (.bool (isNm l)) ∧ w' = w := by
 have hsz := ba_size
 obtain ⟨bb, hbb⟩ : ∃ bb, isNm l = bb := ⟨_, rfl⟩
 rw [hbb]
 have HBB := Lib.hid hbb
 clear hbb
 go_enter Try.func116, Try.ntmps116
 go_wp2
 go_loopw [3] (fun iv wr => ∃ i : Nat, i ≤ l.length ∧ iv = .int .i64 i ∧ (l.take i).all nmB = true ∧ wr = w) (fun iv _ => l.length - (intOf iv).toNat)
 case atStart => exact ⟨0, Nat.zero_le _, rfl, rfl, rfl⟩
 case round =>
  obtain ⟨i, hi, rfl, ha, rfl⟩ := hrel
  by_cases hlt : i < l.length
  ·obtain ⟨x, hx⟩ : ∃ x, l[i]? = some x := ⟨_, List.getElem?_eq_getElem hlt⟩
   have hix := run_index_ba Try.underlying9 l .i64 i i rfl x hx
   have hal : (l.take (i + 1)).all nmB = nmB x := by
    rw [List.take_add_one, hx]
    simp [ha]
   have hxl := x.toNat_lt
   have hall : nmB x = false → l.all nmB = false := fun h => by
    rw [← List.take_append_drop (i + 1) l, List.all_append, hal, h]
    rfl
   have HA := Lib.hid hal
   have HB := Lib.hid hall
   clear ha hal hall
   by_cases hy : 97 ≤ x.toNat ∧ x.toNat ≤ 122 ∨ 48 ≤ x.toNat ∧ x.toNat ≤ 57 ∨ x.toNat = 45
   ·have HY := Lib.hid (nmB_yes hy)
    generalize x.toNat = v at *
    rcases hy with ⟨h, h'⟩ | ⟨h, h'⟩ | h
    all_goals
     go_wp2
     go_roundw
     case rel => exact ⟨i + 1, by omega, by go_num, HA.out.trans HY.out, trivial⟩
     case measure => simp [intOf]; omega
   ·have HN := Lib.hid (HB.out (nmB_no hy))
    have hcases : x.toNat < 45 ∨ (45 < x.toNat ∧ x.toNat < 48) ∨ (57 < x.toNat ∧ x.toNat < 97) ∨ 122 < x.toNat := by omega
    clear HA HB hy
    generalize x.toNat = v at *
    have hne : ((v : Int) == 45) = false := by simp; omega
    rcases hcases with h | ⟨h, h'⟩ | ⟨h, h'⟩ | h
    ·go_wp2
     go_ret
     exact ⟨ret_b (by rw [← HBB.out, isNm_eq, HN.out]; rfl), rfl⟩
    ·go_wp2
     go_ret
     exact ⟨ret_b (by rw [← HBB.out, isNm_eq, HN.out]; rfl), rfl⟩
    ·have b57 : decide ((v : Int) ≤ 57) = false := by simp; omega
     go_wp2
     go_ret
     exact ⟨ret_b (by rw [← HBB.out, isNm_eq, HN.out]; rfl), rfl⟩
    ·have b57 : decide ((v : Int) ≤ 57) = false := by simp; omega
     have b122 : decide ((v : Int) ≤ 122) = false := by simp; omega
     go_wp2
     go_ret
     exact ⟨ret_b (by rw [← HBB.out, isNm_eq, HN.out]; rfl), rfl⟩
  ·have e : l.take i = l := List.take_of_length_le (by omega)
   rw [e] at ha
   have HA := Lib.hid ha
   clear e ha
   by_cases h1 : 1 ≤ l.length
   ·by_cases h16 : l.length ≤ 16
    ·go_wp2
     go_ret
     exact ⟨ret_b (by rw [← HBB.out, isNm_eq, HA.out]; simp [h1, h16]; try omega), rfl⟩
    ·go_wp2
     go_ret
     exact ⟨ret_b (by rw [← HBB.out, isNm_eq, HA.out]; simp [h1, h16]; try omega), rfl⟩
   ·go_wp2
    go_ret
    exact ⟨ret_b (by rw [← HBB.out, isNm_eq, HA.out]; simp [h1]; try omega), rfl⟩

end Go.Proofs.Ytheecifgbkdecaa

namespace Go.Proofs.Ytheecifgbkdecaa
open Go.RowKit

theorem ret_i {a b : Int} (h : a = b) : Ending.returned (Value.int .i64 a) = .returned (.int .i64 b) := by rw [h]

set_option maxHeartbeats 8000000 in
theorem rchkC_any (c : Cr) (n : Int) (w : World) (hl : c.lt.length ≤ 1000000) :
  Calls Try.prog 112 #[.agg #[.int .i64 c.cl, .int .i64 c.sp, .int .i64 c.op, .string (ba c.lt), .int .i64 c.a, .int .i64 c.b, .string (ba c.tx)], .int .i64 n] w fun e w' => e = .returned (.int .i64 (chkC c n)) ∧ Below w.heap.size w w' := by
 have hsz := ba_size
 have HX : Hid (Below w.heap.size w (w.alloc (.cells #[.int .i64 c.cl, .int .i64 c.sp, .int .i64 c.op, .string (ba c.lt), .int .i64 c.a, .int .i64 c.b, .string (ba c.tx)] 58))) := Lib.hid ((Below.refl _ w).alloc (Nat.le_refl _) _)
 have HB : Hid (Blk (w.alloc (.cells #[.int .i64 c.cl, .int .i64 c.sp, .int .i64 c.op, .string (ba c.lt), .int .i64 c.a, .int .i64 c.b, .string (ba c.tx)] 58)) w.heap.size 58 [.int .i64 c.cl, .int .i64 c.sp, .int .i64 c.op, .string (ba c.lt), .int .i64 c.a, .int .i64 c.b, .string (ba c.tx)]) := Lib.hid (Blk.fresh rfl rfl)
 have c0 := HB.out.cellAt (i := 0) rfl
 have c1 := HB.out.cellAt (i := 1) rfl
 have c2 := HB.out.cellAt (i := 2) rfl
 have c3 := HB.out.cellAt (i := 3) rfl
 have c6 := HB.out.cellAt (i := 6) rfl
 go_enter Try.func112, Try.ntmps112
 by_cases h0 : n < 1
 case pos =>
  have d0 : decide (n < 1) = true := by simpa using h0
  have hv : chkC c n = 1 := by unfold chkC; simp [h0]; try omega
  have HV := Lib.hid hv
  clear hv h0
  go_wp2
  go_ret
  exact ⟨ret_i HV.out.symm, HX.out⟩
 case neg =>
  have d0 : decide (n < 1) = false := by simpa using h0
  by_cases h1 : 7 < n
  case pos =>
   have d1 : decide (7 < n) = true := by simpa using h1
   have hv : chkC c n = 1 := by unfold chkC; simp [h0, h1]; try omega
   have HV := Lib.hid hv
   clear hv h0 h1
   go_wp2
   go_ret
   exact ⟨ret_i HV.out.symm, HX.out⟩
  case neg =>
   have d1 : decide (7 < n) = false := by simpa using h1
   by_cases h2 : c.cl < n
   case pos =>
    have d2 : decide (c.cl < n) = true := by simpa using h2
    have hv : chkC c n = 17 := by unfold chkC; simp [h0, h1, h2]; try omega
    have HV := Lib.hid hv
    clear hv h0 h1 h2
    go_wp2
    go_ret
    exact ⟨ret_i HV.out.symm, HX.out⟩
   case neg =>
    have d2 : decide (c.cl < n) = false := by simpa using h2
    have hwr : IntKind.i64.wrap (n + 3) = n + 3 := IntWalk.i64_in _ (by omega)
    by_cases h3 : n + 3 < c.cl
    case pos =>
     have d3 : decide (n + 3 < c.cl) = true := by simpa using h3
     have hv : chkC c n = 17 := by unfold chkC; simp [h0, h1, h2, h3]; try omega
     have HV := Lib.hid hv
     clear hv h0 h1 h2 h3
     go_wp2
     go_ret
     exact ⟨ret_i HV.out.symm, HX.out⟩
    case neg =>
     have d3 : decide (n + 3 < c.cl) = false := by simpa using h3
     by_cases h4 : c.sp < 1
     case pos =>
      have d4 : decide (c.sp < 1) = true := by simpa using h4
      have hv : chkC c n = 5 := by unfold chkC; simp [h0, h1, h2, h3, h4]; try omega
      have HV := Lib.hid hv
      clear hv h0 h1 h2 h3 h4
      go_wp2
      go_ret
      exact ⟨ret_i HV.out.symm, HX.out⟩
     case neg =>
      have d4 : decide (c.sp < 1) = false := by simpa using h4
      by_cases h5 : 1099511627776 < c.sp
      case pos =>
       have d5 : decide (1099511627776 < c.sp) = true := by simpa using h5
       have hv : chkC c n = 5 := by unfold chkC; simp [h0, h1, h2, h3, h4, h5]; try omega
       have HV := Lib.hid hv
       clear hv h0 h1 h2 h3 h4 h5
       go_wp2
       go_ret
       exact ⟨ret_i HV.out.symm, HX.out⟩
      case neg =>
       have d5 : decide (1099511627776 < c.sp) = false := by simpa using h5
       by_cases h6 : c.op < 1
       case pos =>
        have d6 : decide (c.op < 1) = true := by simpa using h6
        have hv : chkC c n = 5 := by unfold chkC; simp [h0, h1, h2, h3, h4, h5, h6]; try omega
        have HV := Lib.hid hv
        clear hv h0 h1 h2 h3 h4 h5 h6
        go_wp2
        go_ret
        exact ⟨ret_i HV.out.symm, HX.out⟩
       case neg =>
        have d6 : decide (c.op < 1) = false := by simpa using h6
        by_cases h7 : 9 < c.op
        case pos =>
         have d7 : decide (9 < c.op) = true := by simpa using h7
         have hv : chkC c n = 5 := by unfold chkC; simp [h0, h1, h2, h3, h4, h5, h6, h7]; try omega
         have HV := Lib.hid hv
         clear hv h0 h1 h2 h3 h4 h5 h6 h7
         go_wp2
         go_ret
         exact ⟨ret_i HV.out.symm, HX.out⟩
        case neg =>
         have d7 : decide (9 < c.op) = false := by simpa using h7
         cases hn : isNm c.lt with
         | false =>
          have HNM := Lib.hid (fun W : World => hn ▸ risname_any c.lt W hl)
          have hv : chkC c n = 7 := by unfold chkC; simp [h0, h1, h2, h3, h4, h5, h6, h7, hn]; try omega
          have HV := Lib.hid hv
          clear hv h0 h1 h2 h3 h4 h5 h6 h7
          go_wp2_with (go_at_call 116; (with_reducible refine (HNM.out _).mono ?_); rintro e w2 ⟨rfl, rfl⟩)
          go_ret
          exact ⟨ret_i HV.out.symm, HX.out⟩
         | true =>
          have HNM := Lib.hid (fun W : World => hn ▸ risname_any c.lt W hl)
          by_cases h8 : c.tx.length ≤ 200
          case neg =>
           have d8 : decide ((200 : Int) < (c.tx.length : Int)) = true := by simp; omega
           have hv : chkC c n = 3 := by unfold chkC; simp [h0, h1, h2, h3, h4, h5, h6, h7, h8, hn]; try omega
           have HV := Lib.hid hv
           clear hv h0 h1 h2 h3 h4 h5 h6 h7 h8
           go_wp2_with (go_at_call 116; (with_reducible refine (HNM.out _).mono ?_); rintro e w2 ⟨rfl, rfl⟩)
           go_ret
           exact ⟨ret_i HV.out.symm, HX.out⟩
          case pos =>
           have d8 : decide ((200 : Int) < (c.tx.length : Int)) = false := by simp; omega
           have hv : chkC c n = 0 := by unfold chkC; simp [h0, h1, h2, h3, h4, h5, h6, h7, h8, hn]; try omega
           have HV := Lib.hid hv
           clear hv h0 h1 h2 h3 h4 h5 h6 h7 h8
           go_wp2_with (go_at_call 116; (with_reducible refine (HNM.out _).mono ?_); rintro e w2 ⟨rfl, rfl⟩)
           go_ret
           exact ⟨ret_i HV.out.symm, HX.out⟩

theorem wpList_str_bytes {ops : Array Oper} {rest : List Oper} {o : Oper} {a : Act} {w : World} {Q : Exit → Act → World → Prop} (hgd : o.guard = none) (x : Operand) (ho : o.op = .convert 9 28 x)
  (l : List UInt8) (hx : a.eval x = .string (ba l)) (h : ∀ A c w', By w' (fun _ => True) A l.length l → Below w.heap.size w w' → wpList Try.prog ops Q rest (a.put o.dst (.slice A l.length c)) w') : wpList Try.prog ops Q (o :: rest) a w := by
 refine wpList_plain hgd fun K hK => ?_
 have hrun := Lib.run_convert_string_bytes (P := Try.prog) w 9 28 5 (ba l) Try.underlying9 Try.underlying28 Try.underlying5
 rw [ba_size] at hrun
 unfold Oper.wp execOp
 simp only [ho, hx, Sem.run_bind, hrun, Result.andThen_ok]
 exact hK _ _ (h _ _ _ (by_bytes w l) (below_bytes w _))

theorem u64N_lt64 (v : Int) : u64N v < 18446744073709551616 := by unfold u64N; omega
@[simp] theorem beB_len (v k : Nat) : (beB v k).length = k := beB_length v k
@[simp] theorem rowB_len (xs : List UInt8) : (rowB xs).length = 4 + xs.length := by unfold rowB; rw [List.length_append, beB_length]

end Go.Proofs.Ytheecifgbkdecaa

namespace Go.Proofs.Ytheecifgbkdecaa
open Go.RowKit

theorem wrap_sx (v : Nat) (h : v < 18446744073709551616) : IntKind.i64.wrap (v : Int) = sx 8 v := by
 have e : ∀ V, sx 8 V = if V < 9223372036854775808 then (V : Int) else V - 18446744073709551616 := fun V => by simp [sx]
 rw [e]
 simp [IntKind.wrap, IntKind.signed, IntKind.bits]
 split <;> omega
theorem sx_small {v : Nat} (h : v < 9223372036854775808) : sx 8 v = v := by simp [sx, h]
theorem conv_i64 {P : Program} (t t' : TypeId) (ht : P.underlying t = some (.int .u64)) (ht' : P.underlying t' = some (.int .i64)) (v : Nat) (h : v < 18446744073709551616) (w : World) : (convert t t' (.int .u64 (v : Int))).run P w = .ok (.int .i64 (sx 8 v)) w := by
 simp [convert, run_underlying ht, run_underlying ht', Conv.intToInt, wrap_sx v h]
theorem conv_small {P : Program} (t t' : TypeId) (ht : P.underlying t = some (.int .u64)) (ht' : P.underlying t' = some (.int .i64)) (v : Nat) (h : v < 9223372036854775808) (w : World) : (convert t t' (.int .u64 (v : Int))).run P w = .ok (.int .i64 (v : Int)) w := by
 rw [conv_i64 t t' ht ht' v (by omega), sx_small h]

theorem only_new {a b c : World} {g h : Nat} (hab : a.grownBy b (some g)) (hbc : b.grownBy c (some h)) (hh : a.heap.size ≤ h) : a.grownBy c (some g) :=
 ⟨hbc.os.trans hab.os, hbc.tape.trans hab.tape, hbc.output.trans hab.output, Nat.le_trans hab.size hbc.size, fun i hi hne => (hbc.block i (Nat.lt_of_lt_of_le hi hab.size) (fun e => by have := Option.some.inj e; omega)).trans (hab.block i hi hne)⟩
/-- A block of cells that are no bytes is turned. -/
theorem By.far {w w' : World} {A : Option Addr} {n g : Nat} {xs : List UInt8} {t : TypeId} {cs : List Value} (h : By w (fun _ => True) A n xs) (hg : w.grownBy w' (some g)) (hb : Blk w g t cs) (hc : ∀ v ∈ cs, ∀ u : UInt8, v ≠ u8 u) : By w' (fun _ => True) A n xs :=
 ⟨h.1, fun hn => by
  obtain ⟨b, o, e, _, hc1⟩ := h.2 hn
  refine ⟨b, o, e, trivial, fun j u hu => hg.cell (hc1 j u hu) (fun e2 => ?_)⟩
  have e3 : b = g := Option.some.inj e2
  subst e3
  have h2 := hc1 j u hu
  rw [hb.cell] at h2
  exact hc _ (List.mem_of_getElem? h2) u rfl⟩

theorem results_cell_row_tmp1 {P : Program} {fn : Func} {p u : Tmp} {ty : TypeId} (h : fn.results = #[.cell p ty, .tmp u]) (tmps : Array Value) (w : World) (g : Nat) (t : TypeId) (cs : Array Value) (fr : Nat × Nat) (d : TypeDesc)
  (hp : tmps.getD p undef = .pointer (some ⟨g, 0, none⟩)) (hg : w.heap[g]? = some (.cells cs t fr))
  (hu : P.underlying ty = some d) (hd : (match d with | .struct _ | .array _ _ => true | _ => false) = true) (hi : (P.info? ty).map (·.size) = some cs.size) :
  (results fn tmps).run P w = .ok (.tuple #[.agg cs, tmps.getD u undef]) w := by
 have hp' : tmps[p]?.getD undef = .pointer (some ⟨g, 0, none⟩) := by simpa using hp
 simp [results, h, hp', asAddr, run_loadVar_row w g t ty cs fr d hg hu hd hi]
def stL : Option (List UInt8) → Nat
 | some r => r.length
 | none => 0
theorem nnext_stL (k : Nat) (st : Option (List UInt8)) : stL (nnext k st) ≤ stL st := by
 cases st with
 | none => exact Nat.le_refl _
 | some xs => rw [nnext_some]; split <;> simp [stL]
theorem tval_stL (k : Nat) (st : Option (List UInt8)) : (tval k st).length ≤ stL st := by
 cases st with
 | none => simp [tval_none]
 | some xs => rw [tval_some]; split <;> simp [stL]; omega
theorem rval_stL (m : Nat) (st : Option (List UInt8)) : (rval m st).length ≤ stL st := by
 unfold rval
 split
 ·exact Nat.le_trans (tval_stL _ _) (nnext_stL _ _)
 ·simp
theorem Try.alloc_cr (g : Nat) (w : World) (hg : w.heap.size = g) : (Instr.alloc 58 true (.tuple #[])).run Try.prog w = .ok (.pointer (some ⟨g, 0, none⟩)) (w.alloc (.cells #[.int .i64 0, .int .i64 0, .int .i64 0, .string (ba []), .int .i64 0, .int .i64 0, .string (ba [])] 58)) := by
 subst hg
 kernel_rfl
theorem Try.zero_cr (w : World) : (zeroValue 58).run Try.prog w = .ok (.agg #[.int .i64 0, .int .i64 0, .int .i64 0, .string (ba []), .int .i64 0, .int .i64 0, .string (ba [])]) w := by kernel_rfl
theorem Try.build_cr (w : World) : (Instr.build 58 #[]).run Try.prog w = .ok (.agg #[.int .i64 0, .int .i64 0, .int .i64 0, .string (ba []), .int .i64 0, .int .i64 0, .string (ba [])]) w := by kernel_rfl
theorem Try.build_rdr (A : Option Addr) (n c : Nat) (w : World) : (Instr.build 88 #[(0, .slice A n c)]).run Try.prog w = .ok (.agg #[.slice A n c, .int .i64 0]) w := by kernel_rfl
theorem Try.build_c7 (a b : ByteArray) (i j k p q : Int) (w : World) : (Instr.build 58 #[(0, .int .i64 i), (1, .int .i64 j), (2, .int .i64 k), (3, .string a), (4, .int .i64 p), (5, .int .i64 q), (6, .string b)]).run Try.prog w = .ok (.agg #[.int .i64 i, .int .i64 j, .int .i64 k, .string a, .int .i64 p, .int .i64 q, .string b]) w := by kernel_rfl
theorem no_u8c (a b : ByteArray) (i j k p q : Int) : ∀ v ∈ ([.int .i64 i, .int .i64 j, .int .i64 k, .string a, .int .i64 p, .int .i64 q, .string b] : List Value), ∀ u : UInt8, v ≠ u8 u := by
 intro v hv u
 simp at hv
 rcases hv with rfl | rfl | rfl | rfl | rfl | rfl | rfl <;> simp [u8]
theorem one7 (a b : ByteArray) (i j k p q : Int) : ([.int .i64 i, .int .i64 j, .int .i64 k, .string a, .int .i64 p, .int .i64 q, .string b] : List Value).toArray.all (·.oneCell') = true := by simp [Value.oneCell']

end Go.Proofs.Ytheecifgbkdecaa

namespace Go.Proofs.Ytheecifgbkdecaa
open Go.RowKit

theorem rnext_stL (m : Nat) (st : Option (List UInt8)) : stL (rnext m st) ≤ stL st := by
 unfold rnext
 split
 ·exact Nat.le_trans (nnext_stL _ _) (nnext_stL _ _)
 ·exact Nat.zero_le _
theorem nnext_more {k : Nat} {st : Option (List UInt8)} (h : stL st < k) : nnext k st = none ∧ tval k st = [] := by
 cases st with
 | none => exact ⟨rfl, rfl⟩
 | some r =>
  have h' : ¬ k ≤ r.length := by simpa [stL] using h
  rw [nnext_some, tval_some, if_neg h', if_neg h']
  exact ⟨rfl, rfl⟩
/-- A row's bound doesn't matter where no more is left. -/
theorem row_free {m m' : Nat} {st : Option (List UInt8)} (h : stL st ≤ m) (h' : stL st ≤ m') : rval m st = rval m' st ∧ rnext m st = rnext m' st := by
 have key : ∀ k : Nat, stL st ≤ k → rval k st = tval (nval 4 st) (nnext 4 st) ∧ rnext k st = nnext (nval 4 st) (nnext 4 st) := by
  intro k hk
  unfold rval rnext
  by_cases hl : nval 4 st ≤ k
  ·rw [if_pos hl, if_pos hl]; exact ⟨rfl, rfl⟩
  ·rw [if_neg hl, if_neg hl]
   obtain ⟨h1, h2⟩ := nnext_more (k := nval 4 st) (st := nnext 4 st) (Nat.lt_of_le_of_lt (nnext_stL _ _) (by omega))
   exact ⟨h2.symm, h1.symm⟩
 exact ⟨(key m h).1.trans (key m' h').1.symm, (key m h).2.trans (key m' h').2.symm⟩
theorem rdCr_free {m m' : Nat} {st : Option (List UInt8)} (h : stL st ≤ m) (h' : stL st ≤ m') : rdCr m st = rdCr m' st := by
 have l1 : stL (nnext 1 (nnext 8 (nnext 1 st))) ≤ stL st := Nat.le_trans (nnext_stL _ _) (Nat.le_trans (nnext_stL _ _) (nnext_stL _ _))
 obtain ⟨a1, a2⟩ := row_free (m := m) (m' := m') (st := nnext 1 (nnext 8 (nnext 1 st))) (by omega) (by omega)
 have l2 : stL (nnext 8 (nnext 8 (rnext m' (nnext 1 (nnext 8 (nnext 1 st)))))) ≤ stL st := Nat.le_trans (nnext_stL _ _) (Nat.le_trans (nnext_stL _ _) (Nat.le_trans (rnext_stL _ _) l1))
 obtain ⟨b1, b2⟩ := row_free (m := m) (m' := m') (st := nnext 8 (nnext 8 (rnext m' (nnext 1 (nnext 8 (nnext 1 st)))))) (by omega) (by omega)
 unfold rdCr
 rw [a1, a2, b1, b2]
theorem parseCr_free {m m' : Nat} {xs : List UInt8} (N : Int) (h : xs.length ≤ m) (h' : xs.length ≤ m') : parseCr m xs N = parseCr m' xs N := by
 unfold parseCr
 rw [rdCr_free (m := m) (m' := m') (st := some xs) h h']

end Go.Proofs.Ytheecifgbkdecaa
