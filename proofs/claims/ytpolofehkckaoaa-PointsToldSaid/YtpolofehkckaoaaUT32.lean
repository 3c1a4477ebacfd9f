/-
  Joined: PwM.
-/
import Derived.Test.YtpolofehkckaoaaUT27
import Derived.Test.YtpolofehkckaoaaUT31
import Derived.Test.YtpolofehkckaoaaUT18
namespace Go.Proofs.Ytpolofehkckaoaa
open Go.RowKit

abbrev tPs : TypeId := 58
abbrev tOw : TypeId := 61
abbrev tMo : TypeId := 55
abbrev tMv : TypeId := 56
abbrev tU8s : TypeId := 34
abbrev tU8 : TypeId := 5
def psC (n self : Int) (mo mv : Nat) : List Value := [.int .i64 n, .int .i64 self, .map (some mo), .map (some mv)]
/-- an own point, where its bytes lie, and what they are -/
structure Ow where
 po : Po
 pl : Pl
 b : List UInt8
def Ow.cells (o : Ow) : List Value := Po.cells o.po ++ [o.pl.val]
def Ow.val (o : Ow) : Value := .agg o.cells.toArray
def Ow.ent (o : Ow) : Int × Value := (o.po.sq, o.val)
/-- bytes in a row of one's own -/
def Br (w : World) (s : Pl) (b : List UInt8) : Prop := Os w 0 tU8 1 s.val (b.map u1C) ∧ b.length = s.2.1
theorem Br.by_ {w : World} {s : Pl} {b : List UInt8} (h : Br w s b) : By w (fun _ => True) s.1 s.2.1 b := by
 obtain ⟨A, c, e, _, _, h3⟩ := h.1.out
 obtain ⟨A0, k0, c0⟩ := s
 have hl : b.length = k0 := h.2
 injection e with e1 e2 e3
 subst e1
 rw [List.length_map, hl] at h3
 exact by_of_sl h3
theorem Os.ft {w w' : World} {B : Nat} {e : TypeId} {k : Nat} {v : Value} {xs : List (List Value)} {E : Nat → Prop} (h : Os w B e k v xs) (hf : Ft E w w') (hd : ∀ q, v.ownBlock = some q → ¬ E q) : Os w' B e k v xs := h.keep fun b _ hl hb => hf.block b hl (hd b hb)
theorem pl_own (s : Pl) (q : Nat) : s.val.ownBlock = some q ↔ vrB s q := by
 obtain ⟨A, k, c⟩ := s
 cases A with
 | none => simp [Pl.val, Value.ownBlock, vrB]
 | some a => simp [Pl.val, Value.ownBlock, vrB]
theorem Br.ft {w w' : World} {s : Pl} {b : List UInt8} {E : Nat → Prop} (h : Br w s b) (hf : Ft E w w') (hd : ∀ q, vrB s q → ¬ E q) : Br w' s b := ⟨h.1.ft hf (fun q hq => hd q ((pl_own s q).1 hq)), h.2⟩
theorem Br.lt {w : World} {s : Pl} {b : List UInt8} (h : Br w s b) : ∀ q, vrB s q → q < w.heap.size := fun q hq => (h.1.lt q ((pl_own s q).2 hq)).2
/-- the program's checkpoints: its box, the map of own points (in whatever order), the map of votes -/
structure PPt (w : World) (B mo mv : Nat) (r : Ptp) (ows : List Ow) (OE VE : List (Int × Value)) (vf : Nat → Pl) : Prop where
 box : Blk w B tPs (psC r.n r.self mo mv)
 om : MpIs w mo (encK encI OE)
 op : OE.Perm (ows.map Ow.ent)
 ol : ownL r = ows.map Ow.po
 rl : r.rows = ows.map Ow.b
 ris : Ris (ownL r)
 o64 : ∀ o ∈ ows, In64 o.po.sq
 ob : ∀ o ∈ ows, Br w o.pl o.b ∧ o.po.dg.length = 32 ∧ o.b.length ≤ 1000000
 vm : MpIs w mv (encK encI VE)
 vat : ∀ a : Nat, a < r.n → a ≠ r.self → (getK (a : Int) VE).getD (.slice none 0 0) = (vf a).val ∧ Vr w (vf a) (r.of.getD a []) ∧ Ris (r.of.getD a []) ∧ (r.of.getD a []).length ≤ 3
 n1 : 1 ≤ r.n
 n7 : r.n ≤ 7
 nl : r.of.length = r.n
 sf : r.self < r.n
 vself : getK (r.self : Int) VE = none
 ne : mo ≠ mv
 va : ∀ a b : Nat, a < r.n → b < r.n → a ≠ r.self → b ≠ r.self → a ≠ b → ∀ q, vrB (vf a) q → ¬ vrB (vf b) q
/-- what it has of memory -/
def DW (B mo mv : Nat) (r : Ptp) (ows : List Ow) (vf : Nat → Pl) : Nat → Prop := fun q => q = B ∨ q = mo ∨ q = mv ∨ (∃ o ∈ ows, vrB o.pl q) ∨ ∃ a : Nat, a < r.n ∧ a ≠ r.self ∧ vrB (vf a) q
section
variable {w w' : World} {B mo mv : Nat} {r : Ptp} {ows : List Ow} {OE VE : List (Int × Value)} {vf : Nat → Pl}
theorem PPt.off {E : Nat → Prop} (h : PPt w B mo mv r ows OE VE vf) (hf : Ft E w w') (hd : ∀ q, DW B mo mv r ows vf q → ¬ E q) : PPt w' B mo mv r ows OE VE vf :=
 { h with
  box := hf.blk h.box (hd B (.inl rfl))
  om := h.om.keep (hf.block mo h.om.lt (hd mo (.inr (.inl rfl))))
  vm := h.vm.keep (hf.block mv h.vm.lt (hd mv (.inr (.inr (.inl rfl)))))
  ob := fun o ho => ⟨(h.ob o ho).1.ft hf (fun q hq => hd q (.inr (.inr (.inr (.inl ⟨o, ho, hq⟩))))), (h.ob o ho).2⟩
  vat := fun a ha hs => by
   obtain ⟨h1, h2, h3⟩ := h.vat a ha hs
   exact ⟨h1, h2.ft hf (fun q hq => hd q (.inr (.inr (.inr (.inr ⟨a, ha, hs, hq⟩))))), h3⟩ }
theorem PPt.through (h : PPt w B mo mv r ows OE VE vf) (hb : Below w.heap.size w w') : PPt w' B mo mv r ows OE VE vf := h.off (Ft.of_below hb) (E := fun _ => False) (fun _ _ h => h)
theorem PPt.lt (h : PPt w B mo mv r ows OE VE vf) : ∀ q, DW B mo mv r ows vf q → q < w.heap.size := by
 rintro q (rfl | rfl | rfl | ⟨o, ho, hq⟩ | ⟨a, ha, hs, hq⟩)
 ·exact h.box.lt
 ·exact h.om.lt
 ·exact h.vm.lt
 ·exact (h.ob o ho).1.lt q hq
 ·exact (h.vat a ha hs).2.1.lt q hq
theorem PPt.nB (h : PPt w B mo mv r ows OE VE vf) : B ≠ mo ∧ B ≠ mv := ⟨mp_kept h.om h.box, mp_kept h.vm h.box⟩
/-- a row of bytes is none of the others -/
theorem PPt.nb (h : PPt w B mo mv r ows OE VE vf) {o : Ow} (ho : o ∈ ows) {q : Nat} (hq : vrB o.pl q) : q ≠ B ∧ q ≠ mo ∧ q ≠ mv := by
 have h8 := (h.ob o ho).1.1
 rcases h8.1.2 with ⟨e5, _⟩ | ⟨g5, cap5, cur5, e5, _, hb5, _⟩
 ·have := (pl_own o.pl q).2 hq
  rw [e5] at this
  cases this
 ·have := (pl_own o.pl q).2 hq
  rw [e5] at this
  have e6 : g5 = q := by simpa [Value.ownBlock] using this
  rw [e6] at hb5
  have hb6 : Blk w q tU8 cur5.toList := by unfold Blk; rw [hb5]
  exact ⟨fun e => Blk.ne_ hb6 (e ▸ h.box) (by decide) rfl, mp_kept h.om hb6, mp_kept h.vm hb6⟩
/-- a row of votes is none of the others -/
theorem PPt.nv (h : PPt w B mo mv r ows OE VE vf) {a : Nat} (ha : a < r.n) (hs : a ≠ r.self) {q : Nat} (hq : vrB (vf a) q) : q ≠ B ∧ q ≠ mo ∧ q ≠ mv ∧ ∀ o ∈ ows, ¬ vrB o.pl q := by
 obtain ⟨_, h1, _⟩ := h.vat a ha hs
 rcases h1.2.2 with e | ⟨g, rest, e, hb, _⟩
 ·obtain ⟨x, e1, _⟩ := hq
  rw [e] at e1
  cases e1
 ·obtain ⟨x, e1, rfl⟩ := hq
  rw [e] at e1
  injection e1 with e1
  rw [← e1]
  refine ⟨fun e2 => ?_, mp_kept h.om hb, mp_kept h.vm hb, fun o ho h9 => ?_⟩
  ·exact Blk.ne_ hb (e2 ▸ h.box) (by decide) rfl
  ·have h8 := (h.ob o ho).1.1
   rcases h8.1.2 with ⟨e5, _⟩ | ⟨g5, cap5, cur5, e5, _, hb5, _⟩
   ·have := (pl_own o.pl g).2 h9
    rw [e5] at this
    cases this
   ·have := (pl_own o.pl g).2 h9
    rw [e5] at this
    have e6 : g5 = g := by simpa [Value.ownBlock] using this
    rw [e6] at hb5
    have e7 := hb.symm.trans hb5
    injection e7 with e7
    injection e7 with _ e8
    exact absurd e8 (by decide)
end
theorem get_perm {L M : List (Int × Value)} (h : L.Perm M) (hn : (M.map Prod.fst).Nodup) (q : Int) : getK q L = getK q M := by
 have key : ∀ (X : List (Int × Value)), (X.map Prod.fst).Nodup → ∀ v, getK q X = some v ↔ (q, v) ∈ X := by
  intro X hX
  induction X with
  | nil => simp [getK]
  | cons p l ih =>
   rw [List.map_cons, List.nodup_cons] at hX
   intro v
   unfold getK
   by_cases hq : q = p.1
   ·rw [if_pos hq]
    constructor
    ·intro e
     injection e with e
     rw [← e, hq]
     exact List.mem_cons_self ..
    ·intro e
     rcases List.mem_cons.1 e with e | e
     ·rw [← e]
     ·exact absurd (List.mem_map.2 ⟨_, e, hq⟩) hX.1
   ·rw [if_neg hq, ih hX.2 v]
    constructor
    ·exact fun e => List.mem_cons_of_mem _ e
    ·intro e
     rcases List.mem_cons.1 e with e | e
     ·rw [← e] at hq
      exact absurd rfl hq
     ·exact e
 have hL : (L.map Prod.fst).Nodup := ((h.map Prod.fst).nodup_iff).2 hn
 cases hM : getK q M with
 | none =>
  cases hLq : getK q L with
  | none => rfl
  | some v =>
   have := (key M hn v).2 (h.mem_iff.1 ((key L hL v).1 hLq))
   rw [hM] at this
   cases this
 | some v => exact (key L hL v).2 (h.mem_iff.2 ((key M hn v).1 hM))
theorem ents_fst (ows : List Ow) : (ows.map Ow.ent).map Prod.fst = (ows.map Ow.po).map Po.sq := by
 rw [List.map_map, List.map_map]
 rfl
theorem ris_nodup {l : List Po} (h : Ris l) : (l.map Po.sq).Nodup := List.nodup_iff_pairwise_ne.2 (List.Pairwise.imp (fun h => Int.ne_of_lt h) h)
theorem Try.keyp_i64 : KeyT Try.prog 2 encI (fun _ => True) :=
 KeyT.now Try.underlying2 (fun x y => by simp only [Instr.sameNow, encI, if_true]; rfl)
  (fun em x w _ => by unfold Instr.checkKey; simp [encI, run_underlying Try.underlying2]) (fun x _ => by simp [encI, Instr.sameBits])
theorem Try.keyp_int : KeyT Try.prog 3 encI (fun _ => True) :=
 KeyT.now Try.underlying3 (fun x y => by simp only [Instr.sameNow, encI, if_true]; rfl)
  (fun em x w _ => by unfold Instr.checkKey; simp [encI, run_underlying Try.underlying3]) (fun x _ => by simp [encI, Instr.sameBits])
theorem Try.mk_mo (w : World) : (Instr.makeMap tMo none).run Try.prog w = .ok (.map (some w.heap.size)) (w.alloc (.map #[] 0)) := by kernel_rfl
theorem Try.mk_mv (w : World) : (Instr.makeMap tMv none).run Try.prog w = .ok (.map (some w.heap.size)) (w.alloc (.map #[] 0)) := by kernel_rfl
theorem Try.agg_mo (w : World) : (isAgg tMo).run Try.prog w = .ok false w := by kernel_rfl
theorem Try.agg_mv (w : World) : (isAgg tMv).run Try.prog w = .ok false w := by kernel_rfl
set_option maxHeartbeats 16000000 in
set_option maxRecDepth 100000 in
theorem isnone_p {B mo mv n : Nat} {self : Int} (w : World) (h : Blk w B tPs (psC n self mo mv)) (hn : 1 ≤ n) : Calls Try.prog 27 #[(.pointer (some ⟨B, 0, none⟩))] w fun e w' => e = .returned (.bool false) ∧ w' = w := by
 have k0 : w.cell? ⟨B, 0, none⟩ = some (.int .i64 (n : Int)) := h.cellAt rfl
 have hb : ((n : Int) == 0) = false := by simp; omega
 have hb2 : ¬ (n : Int) = 0 := by omega
 have hb3 : ¬ n = 0 := by omega
 clear h
 go_enter Try.func27, Try.ntmps27
 go_wp2
 go_ret
 exact ⟨by first | rfl | simp [hb2, hb3], rfl⟩
set_option maxHeartbeats 16000000 in
set_option maxRecDepth 100000 in
theorem new_p (n self : Nat) (w : World) (h1 : 1 ≤ n) (h7 : n ≤ 7) (hs : self < n) : Calls Try.prog 7 #[.int .i64 (n : Int), .int .i64 (self : Int)] w fun e w' => ∃ B mo mv, e = .returned (.pointer (some ⟨B, 0, none⟩)) ∧ PPt w' B mo mv ⟨n, self, List.replicate n [], []⟩ [] [] [] (fun _ => (none, 0, 0)) ∧ Below w.heap.size w w' ∧ w.heap.size ≤ B ∧ w.heap.size ≤ mo ∧ w.heap.size ≤ mv := by
 have hmk := Try.mk_mo
 have hmv := Try.mk_mv
 have a1 : decide ((n : Int) < 1) = false := by simp; omega
 have a2 : decide ((7 : Int) < n) = false := by simp; omega
 have a3 : decide ((self : Int) < 0) = false := by simp
 have a4 : ¬ n ≤ self := by omega
 go_enter Try.func7, Try.ntmps7
 go_wp2
 go_ret
 have x1 := below1_ w (.map #[] 0)
 have m1 := MpIs.made w
 have x2 := below1_ (w.alloc (.map #[] 0)) (.map #[] 0)
 have m2 := MpIs.made (w.alloc (.map #[] 0))
 rw [World.size_alloc] at m2
 have x3 := below1_ ((w.alloc (.map #[] 0)).alloc (.map #[] 0)) (.cells #[.int .i64 (n : Int), .int .i64 (self : Int), .map (some w.heap.size), .map (some (w.heap.size + 1))] tPs)
 refine ⟨w.heap.size + 1 + 1, w.heap.size, w.heap.size + 1, rfl, ?_, below_step (below_step x1 x2) x3, by omega, Nat.le_refl _, by omega⟩
 have hz : ∀ a : Nat, (List.replicate n ([] : List Po)).getD a [] = [] := fun a => by
  rw [List.getD_eq_getElem?_getD, List.getElem?_replicate]
  split <;> rfl
 exact ⟨Blk.fresh (by simp) rfl, (m1.through x2).through x3, List.Perm.refl _, (by show (List.replicate n ([] : List Po)).getD self [] = _; rw [hz]; rfl), rfl, (by show Ris ((List.replicate n ([] : List Po)).getD self []); rw [hz]; exact List.Pairwise.nil), (fun o ho => by cases ho), (fun o ho => by cases ho), m2.through x3,
  (fun a ha _ => ⟨rfl, by rw [hz]; exact Vr.nil _, by rw [hz]; exact List.Pairwise.nil, by rw [hz]; exact Nat.zero_le _⟩), h1, h7, by simp, hs, rfl, by omega, fun a b _ _ _ _ _ q hq => by obtain ⟨x, e, _⟩ := hq; cases e⟩
end Go.Proofs.Ytpolofehkckaoaa
