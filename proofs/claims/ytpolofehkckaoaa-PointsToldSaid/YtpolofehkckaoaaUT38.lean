/-
  Joined: PwI.
-/
import Derived.Maps.RangeWalk
import Derived.Test.YtpolofehkckaoaaUT37
namespace Go.Proofs.Ytpolofehkckaoaa
open Go.RowKit

section
variable {P : Program} {ops : Array Oper} {rest : List Oper} {o : Oper} {a : Act} {w : World} {Q : Exit → Act → World → Prop} {b r : Nat} {L N : List (Int × Value)}
theorem wpList_next_i (hg : o.guard = none) (it : Operand) (hop : o.op = Op.next it false) (hit : a.eval it = .pointer (some ⟨r, 0, none⟩)) (h : MpRg encI w b r L N)
  (hDone : N = [] → wpList P ops Q rest (a.put o.dst (.tuple #[.bool false])) w)
  (hMore : ∀ N1 (x : Int) v N2 w', N = N1 ++ (x, v) :: N2 → MpRg encI w' b r L (N1 ++ N2) → w.grownBy w' (some r) → (Instr.entry (.pointer (some ⟨r, 0, none⟩))).run P w' = .ok (.tuple #[.int .i64 x, v]) w' → wpList P ops Q rest (a.put o.dst (.tuple #[.bool true, .int .i64 x, v])) w') : wpList P ops Q (o :: rest) a w :=
 wpList_next_k hg it hop hit h hDone hMore
end
theorem del_filter {x : Int} : ∀ {l : List (Int × Value)}, (l.map Prod.fst).Nodup → delK x l = l.filter fun p => !decide (p.1 = x)
 | [], _ => rfl
 | p :: l, hn => by
  rw [List.map_cons, List.nodup_cons] at hn
  unfold delK
  rw [List.filter_cons]
  by_cases h : x = p.1
  ·rw [if_pos h, decide_eq_true h.symm]
   simp only [Bool.not_true, Bool.false_eq_true, if_false]
   refine (List.filter_eq_self.2 fun y hy => ?_).symm
   have : ¬ y.1 = x := fun e => hn.1 (List.mem_map.2 ⟨y, hy, by rw [e, h]⟩)
   simp [this]
  ·rw [if_neg h, decide_eq_false (fun e => h e.symm), del_filter hn.2]
   rfl
theorem keys_mid {N1 N2 : List (Int × Value)} {x : Int} {v : Value} {k : Int} : k ∈ (N1 ++ (x, v) :: N2).map Prod.fst ↔ k = x ∨ k ∈ (N1 ++ N2).map Prod.fst := by
 simp only [List.map_append, List.map_cons, List.mem_append, List.mem_cons]
 constructor
 ·rintro (h | h | h)
  ·exact .inr (.inl h)
  ·exact .inl h
  ·exact .inr (.inr h)
 ·rintro (h | h | h)
  ·exact .inr (.inl h)
  ·exact .inl h
  ·exact .inr (.inr h)
theorem keys_off {N1 N2 : List (Int × Value)} {x : Int} {v : Value} (h : ((N1 ++ (x, v) :: N2).map Prod.fst).Nodup) : x ∉ (N1 ++ N2).map Prod.fst := by
 rw [List.map_append, List.map_cons] at h
 obtain ⟨_, h2, h3⟩ := List.nodup_append.1 h
 rw [List.map_append]
 intro h9
 rcases List.mem_append.1 h9 with h9 | h9
 ·exact h3 x h9 x (List.mem_cons_self ..) rfl
 ·exact (List.nodup_cons.1 h2).1 h9
def mvO (q : Int) (l N : List (Int × Value)) : List (Int × Value) := l.filter fun p => decide (q ≤ p.1) || decide (p.1 ∈ N.map Prod.fst)
theorem mvo_start (q : Int) (l : List (Int × Value)) : mvO q l l = l :=
 List.filter_eq_self.2 fun p hp => by
  have : p.1 ∈ l.map Prod.fst := List.mem_map.2 ⟨p, hp, rfl⟩
  simp only [this, decide_true, Bool.or_true]
theorem mvo_end (q : Int) (l : List (Int × Value)) : mvO q l [] = l.filter fun p => decide (q ≤ p.1) := by
 unfold mvO
 refine List.filter_congr fun x _ => ?_
 simp
theorem mvo_drop {q x : Int} {v : Value} {l N1 N2 : List (Int × Value)} (hl : (l.map Prod.fst).Nodup) (hN : ((N1 ++ (x, v) :: N2).map Prod.fst).Nodup) (hx : x < q) : delK x (mvO q l (N1 ++ (x, v) :: N2)) = mvO q l (N1 ++ N2) := by
 have hk : ((mvO q l (N1 ++ (x, v) :: N2)).map Prod.fst).Nodup := hl.sublist (List.Sublist.map _ List.filter_sublist)
 have hoff := keys_off hN
 rw [del_filter hk]
 unfold mvO
 rw [List.filter_filter]
 refine List.filter_congr fun p _ => ?_
 rw [Bool.eq_iff_iff]
 simp only [Bool.and_eq_true, Bool.not_eq_true', decide_eq_false_iff_not, Bool.or_eq_true, decide_eq_true_iff, keys_mid]
 constructor
 ·rintro ⟨h1, h2 | h2 | h2⟩
  ·exact .inl h2
  ·exact absurd h2 h1
  ·exact .inr h2
 ·rintro (h2 | h2)
  ·exact ⟨by omega, .inl h2⟩
  ·exact ⟨fun e => hoff (e ▸ h2), .inr (.inr h2)⟩
theorem mvo_keep {q x : Int} {v : Value} {l N1 N2 : List (Int × Value)} (hx : q ≤ x) : mvO q l (N1 ++ (x, v) :: N2) = mvO q l (N1 ++ N2) := by
 unfold mvO
 refine List.filter_congr fun p _ => ?_
 rw [Bool.eq_iff_iff]
 simp only [Bool.or_eq_true, decide_eq_true_iff, keys_mid]
 constructor
 ·rintro (h2 | h2 | h2)
  ·exact .inl h2
  ·exact .inl (by omega)
  ·exact .inr h2
 ·rintro (h2 | h2)
  ·exact .inl h2
  ·exact .inr (.inr h2)
theorem encP_inj (x y : Int) (h : encI x = encI y) : x = y := by injection h
theorem Try.box_ow (p : Po) (A : Option Addr) (k c : Nat) (h : p.dg.length = 32) (w : World) : (Instr.box tOw (.agg (Po.cells p ++ [Value.slice A k c]).toArray)).run Try.prog w = .ok (.pointer (some ⟨w.heap.size, 0, none⟩)) (w.alloc (.cells (Po.cells p ++ [Value.slice A k c]).toArray tOw)) := by
 obtain ⟨a, d⟩ := p
 obtain ⟨x0, x1, x2, x3, x4, x5, x6, x7, x8, x9, x10, x11, x12, x13, x14, x15, x16, x17, x18, x19, x20, x21, x22, x23, x24, x25, x26, x27, x28, x29, x30, x31, rfl⟩ := vs_lit d h
 kernel_rfl
set_option maxHeartbeats 16000000 in
set_option maxRecDepth 100000 in
theorem moveclo_p (q low : Int) (bl : Nat) (o : Ow) (w : World) (ho : o.po.dg.length = 32) (hl : w.cell? ⟨bl, 0, none⟩ = some (.int .i64 low)) :
  Calls Try.prog 30 #[.int .i64 q, .agg o.cells.toArray, .pointer (some ⟨bl, 0, none⟩)] w fun e w' => e = .returned (.bool (decide (q < low))) ∧ Below w.heap.size w w' := by
 obtain ⟨po, ⟨A, k, c⟩, b⟩ := o
 have hbx := fun W => Try.box_ow po A k c ho W
 have X1 : Below w.heap.size w (w.alloc (.cells (Po.cells po ++ [Value.slice A k c]).toArray tOw)) := below1_ w _
 have hl1 : (w.alloc (.cells (Po.cells po ++ [Value.slice A k c]).toArray tOw)).cell? ⟨bl, 0, none⟩ = some (.int .i64 low) := (X1.cell (p := ⟨bl, 0, none⟩) (World.block_lt_of_cell? _ _ hl)).trans hl
 have HX := Lib.hid X1
 change Calls Try.prog 30 #[.int .i64 q, .agg (Po.cells po ++ [Value.slice A k c]).toArray, .pointer (some ⟨bl, 0, none⟩)] w _
 clear X1 ho
 go_enter Try.func30, Try.ntmps30
 go_wp2
 go_ret
 exact ⟨rfl, HX.out⟩
set_option maxHeartbeats 16000000 in
set_option maxRecDepth 100000 in
theorem delfn_p {w : World} {mo bl : Nat} {OE : List (Int × Value)} {ows : List Ow} (low : Int) (hm : MpIs w mo (encK encI OE)) (hp : OE.Perm (ows.map Ow.ent)) (hn : (OE.map Prod.fst).Nodup) (ho : ∀ o ∈ ows, o.po.dg.length = 32) (hl : w.cell? ⟨bl, 0, none⟩ = some (.int .i64 low)) (hbm : bl ≠ mo) :
  Calls Try.prog 29 #[.map (some mo), .func (.func 30) #[] #[.pointer (some ⟨bl, 0, none⟩)]] w fun e w' => e = .returned (.tuple #[]) ∧ MpIs w' mo (encK encI (OE.filter fun p => decide (low ≤ p.1))) ∧ Ft (fun q => q = mo) w w' := by
 have hz : ∀ W, (zeroValue tOw).run Try.prog W = .ok (.agg zOw.toArray) W := fun W => Try.zero_ow W
 have HMp := Lib.hid hm
 have HNd := Lib.hid hn
 have HPe := Lib.hid hp
 have HO := Lib.hid ho
 have HLc := Lib.hid hl
 have HBl : Hid (bl < w.heap.size) := Lib.hid (World.block_lt_of_cell? _ _ hl)
 have HBm := Lib.hid hbm
 clear hm hn hp ho hl hbm
 go_enter Try.func29, Try.ntmps29
 go_wp2_with (first
  | (at_range; refine wpList_range_k rfl _ tMo rfl Try.underlying55 rfl HMp.out ?_; intro w2 hrg9 hb9; have HR2 := Lib.hid hrg9; have HX2 := Lib.hid hb9; clear hrg9 hb9))
 go_frame
 have HRG : Hid (w.heap.size ≠ mo) := Lib.hid (by have := HMp.out.lt; omega)
 have HRl : Hid (w.heap.size ≠ bl) := Lib.hid (by have := HBl.out; omega)
 have HS0 : Hid (w.heap.size ≤ w.heap.size) := Lib.hid (Nat.le_refl _)
 generalize hr : w.heap.size = r at HR2 HRG HRl HS0 ⊢
 have HSr : Hid (w.heap.size ≤ r) := Lib.hid (by omega)
 clear hr
 go_loopw [] (fun wr => ∃ N, MpRg encI wr mo r (mvO low OE N) N ∧ Ft (fun b => b = mo) w wr) (fun wr => rgLeft wr mo r)
 case atStart =>
  refine ⟨OE, ?_, (Ft.of_below HX2.out).moreP (D := fun _ => False) (fun _ h => h.elim)⟩
  rw [mvo_start]
  exact HR2.out
 case round =>
  obtain ⟨N, hR, hF⟩ := hrel
  have HR := Lib.hid hR
  have HFr := Lib.hid hF
  clear hR hF
  go_wp2_with (first
   | (at_next; refine wpList_next_i rfl _ rfl rfl HR.out ?_ ?_))
  ·intro hN0
   go_wp2
   go_end0
   have h9 := HR.out.is
   rw [hN0, mvo_end] at h9
   exact ⟨rfl, h9, HFr.out⟩
  ·intro N1 x v N2 w3 hN hR3 hg3 hen
   have HR3 := Lib.hid hR3
   have HNn : Hid (N = N1 ++ (x, v) :: N2) := Lib.hid hN
   have hsub : N.Sublist OE := (HR.out.sub encP_inj).trans List.filter_sublist
   have HNd3 : Hid (((N1 ++ (x, v) :: N2).map Prod.fst).Nodup) := Lib.hid (by
    rw [← hN]
    exact HNd.out.sublist (List.Sublist.map _ hsub))
   have hmem : (x, v) ∈ OE := hsub.subset (by rw [hN]; simp)
   obtain ⟨o, ho9, hov⟩ := List.mem_map.1 (HPe.out.mem_iff.1 hmem)
   have hod := HO.out o ho9
   injection hov with hx9 hv9
   have hv8 : v = .agg o.cells.toArray := hv9.symm
   subst hv8
   have HOl : Hid (o.cells.length = 34) := Lib.hid (o.len hod)
   have HOd := Lib.hid hod
   have HF3 : Hid (Ft (fun b => b = mo) w w3) := Lib.hid (HFr.out.trans (D' := fun b => b = r) (Ft.of_grown hg3 (fun _ hb => .inl (Option.some.inj hb).symm)) (fun b hb => .inr (by rw [hb]; exact HSr.out)))
   have HL3 : Hid (w3.cell? ⟨bl, 0, none⟩ = some (.int .i64 low)) := Lib.hid (by
    have h8 := HLc.out
    have h7 := HF3.out.block bl HBl.out (fun e => HBm.out e)
    rw [show w3.cell? ⟨bl, 0, none⟩ = w.cell? ⟨bl, 0, none⟩ by unfold World.cell?; simp only [h7]]
    exact h8)
   clear hN hR3 hg3 hsub hmem ho9 hx9 hv9 hod
   by_cases hx : x < low
   ·have hd : decide (x < low) = true := by simpa using hx
    go_upto_region 4 with (first
     | (refine wpList_store_blk rfl tOw (.tmp 5) (.tmp 12) rfl w3.heap.size o.cells rfl rfl tOw zOw (Blk.fresh rfl rfl) (by rw [HOl.out]; kernel_rfl) (by rw [HOl.out]; rfl) o.one ?_; simp only [Act.put]; intro w5 hb5 hg5; have HB5 := Lib.hid hb5; have HX5 := Lib.hid (below_new hg5); have HL5 := Lib.hid ((HX5.out.cell (p := ⟨bl, 0, none⟩) (World.block_lt_of_cell? _ _ HL3.out)).trans HL3.out); clear hb5 hg5)
     | (refine wpList_load_blk rfl tOw (.tmp 5) rfl w3.heap.size rfl tOw o.cells _ HB5.out Try.underlying61 rfl (by rw [HOl.out]; kernel_rfl) ?_)
     | (go_at_call 30; (with_reducible refine (moveclo_p x low bl o _ HOd.out HL5.out).mono ?_); rintro e w6 ⟨rfl, hb6⟩; rw [hd]; have HX6 := Lib.hid (below_step HX5.out hb6); clear hb6))
    have HR5x := Lib.hid (HR3.out.through HX6.out)
    obtain ⟨u5, hr5, hR5, hg5⟩ := HR5x.out.drop (P := Try.prog) Try.keyp_i64 Try.underlying55 (fun _ _ => trivial) (x := x) trivial (fun p hp e => by
     obtain ⟨y, hy, hyp⟩ := List.mem_map.1 hp
     rw [← hyp] at e
     exact keys_off HNd3.out (List.mem_map.2 ⟨y, hy, encP_inj _ _ e⟩)) 0
    have hr6 : (Builtin.delete_ #[tMo, 2] 0 #[.map (some mo), .int .i64 x]).run Try.prog w6 = .ok (.tuple #[]) u5 := hr5
    have HR5 := Lib.hid hR5
    have HG5 := Lib.hid hg5
    clear hr5 hR5 hg5
    go_wp2_with (first
     | (refine wpList_del_to rfl (.tmp 17) (.tmp 18) #[tMo, 2] rfl (.map (some mo)) (.int .i64 x) rfl rfl u5 hr6 ?_))
    go_frame
    go_roundw
    case rel =>
     refine ⟨N1 ++ N2, ?_, (HF3.out.deep HX6.out).trans (D' := fun b => b = mo) (Ft.of_grown HG5.out (fun _ hb => .inl (Option.some.inj hb).symm)) (fun b hb => .inl hb)⟩
     have h9 := HR5.out
     rw [HNn.out, mvo_drop HNd.out HNd3.out hx] at h9
     exact h9
    case measure =>
     rw [HR5.out.left, HR.out.left, HNn.out]
     simp
   ·have hd : decide (x < low) = false := by simpa using hx
    go_wp2_with (first
     | (refine wpList_store_blk rfl tOw (.tmp 5) (.tmp 12) rfl w3.heap.size o.cells rfl rfl tOw zOw (Blk.fresh rfl rfl) (by rw [HOl.out]; kernel_rfl) (by rw [HOl.out]; rfl) o.one ?_; simp only [Act.put]; intro w5 hb5 hg5; have HB5 := Lib.hid hb5; have HX5 := Lib.hid (below_new hg5); have HL5 := Lib.hid ((HX5.out.cell (p := ⟨bl, 0, none⟩) (World.block_lt_of_cell? _ _ HL3.out)).trans HL3.out); clear hb5 hg5)
     | (refine wpList_load_blk rfl tOw (.tmp 5) rfl w3.heap.size rfl tOw o.cells _ HB5.out Try.underlying61 rfl (by rw [HOl.out]; kernel_rfl) ?_)
     | (go_at_call 30; (with_reducible refine (moveclo_p x low bl o _ HOd.out HL5.out).mono ?_); rintro e w6 ⟨rfl, hb6⟩; rw [hd]; have HX6 := Lib.hid (below_step HX5.out hb6); clear hb6))
    go_roundw
    case rel =>
     refine ⟨N1 ++ N2, ?_, HF3.out.deep HX6.out⟩
     have h9 := HR3.out.through HX6.out
     rw [HNn.out, mvo_keep (by omega)] at h9
     exact h9
    case measure =>
     rw [(HR3.out.through HX6.out).left, HR.out.left, HNn.out]
     simp
set_option maxHeartbeats 16000000 in
set_option maxRecDepth 100000 in
theorem move_call {w : World} {B mo mv : Nat} {r : Ptp} {ows : List Ow} {OE VE : List (Int × Value)} {vf : Nat → Pl} (low : Int) (h : PPt w B mo mv r ows OE VE vf) :
  Calls Try.prog 9 #[(.pointer (some ⟨B, 0, none⟩)), .int .i64 low] w fun e w' => e = .returned (.tuple #[]) ∧ MpIs w' mo (encK encI (OE.filter fun p => decide (low ≤ p.1))) ∧ Ft (fun q => q = mo) w w' := by
 have X1 : Below w.heap.size w (w.alloc (.cells #[.int .i64 low] 2)) := below1_ w _
 have HX1 := Lib.hid X1
 have HHa := Lib.hid (h.through X1)
 have HN1 := Lib.hid h.n1
 have k2 := (h.through X1).box.cellAt (i := 2) rfl
 have hr := h.ris
 rw [h.ol] at hr
 have HD := Lib.hid (delfn_p (bl := w.heap.size) low (h.through X1).om h.op (((h.op.map Prod.fst).nodup_iff).2 (by rw [ents_fst]; exact ris_nodup hr)) (fun o ho => (h.ob o ho).2.1) ((Blk.fresh (w := w) (t := 2) (cs := [.int .i64 low]) rfl rfl).cellAt rfl) (by have := h.om.lt; omega))
 clear h X1 hr
 go_enter Try.func9, Try.ntmps9
 go_wp2_with (first
  | (go_at_call 27; (with_reducible refine (isnone_p _ HHa.out.box HN1.out).mono ?_); rintro e w9 ⟨rfl, hw9⟩; have hw8 := hw9.symm; clear hw9; subst hw8)
  | (go_at_call 29; (with_reducible refine HD.out.mono ?_); rintro e w5 ⟨rfl, hm5, hf5⟩; have HM5 := Lib.hid hm5; have HF5 := Lib.hid hf5; clear hm5 hf5))
 go_end0
 exact ⟨rfl, HM5.out, ((Ft.of_below HX1.out).moreP (D := fun _ => False) (fun _ h => h.elim)).trans HF5.out (fun _ hq => .inl hq)⟩
theorem drop_filter {low : Int} : ∀ {ows : List Ow}, Ris (ows.map Ow.po) → dropP low (ows.map Ow.po) (ows.map Ow.b) = ((ows.filter fun o => decide (low ≤ o.po.sq)).map Ow.po, (ows.filter fun o => decide (low ≤ o.po.sq)).map Ow.b)
 | [], _ => rfl
 | y :: l, h => by
  rw [List.map_cons, ris_cons] at h
  simp only [List.map_cons]
  unfold dropP
  by_cases hy : y.po.sq < low
  ·rw [if_pos hy, List.filter_cons_of_neg (by simp; omega)]
   exact drop_filter h.2
  ·rw [if_neg hy, List.filter_cons_of_pos (by simp; omega)]
   have e : l.filter (fun o => decide (low ≤ o.po.sq)) = l := List.filter_eq_self.2 (fun z hz => by
    have := h.1 z.po (List.mem_map.2 ⟨z, hz, rfl⟩)
    simp
    omega)
   rw [e]
   rfl
theorem PPt.moved {w w6 : World} {B mo mv : Nat} {r : Ptp} {ows : List Ow} {OE VE : List (Int × Value)} {vf : Nat → Pl} (h : PPt w B mo mv r ows OE VE vf) (low : Int) (hm : MpIs w6 mo (encK encI (OE.filter fun p => decide (low ≤ p.1)))) (hft : Ft (fun q => q = mo) w w6) : OwnedP w w6 B mo mv r ows VE vf (moveR r low) := by
 have hol := h.ol
 have hr := h.ris
 rw [hol] at hr
 have hsf : r.self < r.of.length := by rw [h.nl]; exact h.sf
 have hmo := h.om.lt
 obtain ⟨ows', hows⟩ : ∃ ows', (ows.filter fun o => decide (low ≤ o.po.sq)) = ows' := ⟨_, rfl⟩
 have hmv : moveR r low = { r with of := r.of.set r.self (ows'.map Ow.po), rows := ows'.map Ow.b } := by
  unfold moveR
  rw [hol, h.rl, drop_filter hr, hows]
 have hsub : ows'.Sublist ows := by rw [← hows]; exact List.filter_sublist
 have hOL : ownL { r with of := r.of.set r.self (ows'.map Ow.po), rows := ows'.map Ow.b } = ows'.map Ow.po := ownL_set hsf
 have hris : Ris (ows'.map Ow.po) := by
  unfold Ris at hr ⊢
  exact hr.sublist ((hsub.map Ow.po).map Po.sq)
 rw [hmv]
 refine ⟨ows', OE.filter fun p => decide (low ≤ p.1), ⟨hft.blk h.box (fun e => h.nB.1 e), hm, ?_, hOL, rfl, by rw [hOL]; exact hris, fun o ho => h.o64 o (hsub.subset ho), fun o ho => ?_, h.vm.keep (hft.block mv h.vm.lt (fun e => h.ne e.symm)), fun a ha hsa => ?_, h.n1, h.n7, by simp [h.nl], h.sf, h.vself, h.ne, h.va⟩, hft.moreP (fun z hz => .inr (.inl hz)), fun z hz => ?_⟩
 ·have e : ows'.map Ow.ent = (ows.map Ow.ent).filter (fun p => decide (low ≤ p.1)) := by
   rw [← hows, List.filter_map]
   rfl
  rw [e]
  exact h.op.filter _
 ·have ho' := hsub.subset ho
  exact ⟨(h.ob o ho').1.ft hft (fun z hz e => (h.nb ho' hz).2.1 e), (h.ob o ho').2⟩
 ·obtain ⟨h1, h2, h3⟩ := h.vat a ha hsa
  show _ ∧ Vr w6 _ ((r.of.set r.self _).getD a []) ∧ Ris ((r.of.set r.self _).getD a []) ∧ ((r.of.set r.self _).getD a []).length ≤ 3
  rw [getD_set_ hsf, if_neg hsa]
  exact ⟨h1, h2.ft hft (fun z hz e => (h.nv ha hsa hz).2.1 e), h3⟩
 ·rcases hz with hz | hz | hz | ⟨o, ho, hz⟩ | hz
  ·exact .inl (.inl hz)
  ·exact .inl (.inr (.inl hz))
  ·exact .inl (.inr (.inr (.inl hz)))
  ·exact .inl (.inr (.inr (.inr (.inl ⟨o, hsub.subset ho, hz⟩))))
  ·exact .inl (.inr (.inr (.inr (.inr hz))))
theorem move_p {w : World} {B mo mv : Nat} {r : Ptp} {ows : List Ow} {OE VE : List (Int × Value)} {vf : Nat → Pl} (low : Int) (h : PPt w B mo mv r ows OE VE vf) :
  Calls Try.prog 9 #[(.pointer (some ⟨B, 0, none⟩)), .int .i64 low] w fun e w' => e = .returned (.tuple #[]) ∧ OwnedP w w' B mo mv r ows VE vf (moveR r low) :=
 (move_call low h).mono (fun e w' ⟨h1, h2, h3⟩ => ⟨h1, h.moved low h2 h3⟩)

end Go.Proofs.Ytpolofehkckaoaa
