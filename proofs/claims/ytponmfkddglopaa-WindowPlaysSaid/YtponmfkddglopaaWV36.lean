/-
  Joined: WpV.
-/
import Derived.Maps.RangeWalk
import Derived.Test.YtponmfkddglopaaWV34
import Derived.Test.YtponmfkddglopaaWV35
namespace Go.Proofs.Ytponmfkddglopaa
open Go.RowKit

section
variable {P : Program} {ops : Array Oper} {rest : List Oper} {o : Oper} {a : Act} {w : World} {Q : Exit → Act → World → Prop} {b r : Nat} {L N : List (Int × Value)}
theorem wpList_next_i (hg : o.guard = none) (it : Operand) (hop : o.op = Op.next it false) (hit : a.eval it = .pointer (some ⟨r, 0, none⟩)) (h : MpRg encI w b r L N)
  (hDone : N = [] → wpList P ops Q rest (a.put o.dst (.tuple #[.bool false])) w)
  (hMore : ∀ N1 (x : Int) v N2 w', N = N1 ++ (x, v) :: N2 → MpRg encI w' b r L (N1 ++ N2) → w.grownBy w' (some r) → (Instr.entry (.pointer (some ⟨r, 0, none⟩))).run P w' = .ok (.tuple #[.int .i64 x, v]) w' → wpList P ops Q rest (a.put o.dst (.tuple #[.bool true, .int .i64 x, v])) w') : wpList P ops Q (o :: rest) a w :=
 wpList_next_k hg it hop hit h hDone hMore
theorem wpList_clr_to (hg : o.guard = none) (x : Operand) (ts : Array TypeId) (ho : o.op = .call { callee := .builtin .clear, args := #[x], argTypes := ts }) (m : Value) (hx : a.eval x = m) (w' : World) (hrun : (Builtin.clear_ ts o.type #[m]).run P w = .ok (.tuple #[]) w')
  (h : wpList P ops Q rest (a.put o.dst (.tuple #[])) w') : wpList P ops Q (o :: rest) a w :=
 wpList_plain hg fun _ hK => by
  unfold Oper.wp execOp
  simp only [ho, resolve, invoke, builtin, Sem.run_bind, Sem.run_pure, Result.andThen_ok, List.map_toArray, List.map_cons, List.map_nil, hx, hrun]
  exact hK _ _ h
theorem MpIs.clr {kt vt mt : TypeId} {W : World} {E : List (Value × Value)} (hm : P.underlying mt = some (.map kt vt)) (h : MpIs W r E) (ty : TypeId) :
  ∃ W', (Builtin.clear_ #[mt] ty #[.map (some r)]).run P W = .ok (.tuple #[]) W' ∧ MpIs W' r [] ∧ W.grownBy W' (some r) := by
 have hlt := h.lt
 obtain ⟨es, ck, hb, hk, hb1, hb2⟩ := h
 have hget := Go.MapKept.run_getObj_map (P := P) hb
 have hset := fun o => Go.MapKept.run_setObj_map (P := P) (o := o) hb
 refine ⟨{ W with heap := W.heap.setIfInBounds r (.map #[] ck) }, ?_, ⟨#[], ck, Array.getElem?_setIfInBounds_self_of_lt hlt, rfl, by simp, by simp⟩, grown_map hlt _⟩
 simp [Builtin.clear_, Sem.run_bind, run_underlying hm, hget, hset]
end
def mvL (q : Int) (l N : List (Int × Value)) : List (Int × Value) := l.filter fun p => decide (q < p.1) || decide (p.1 ∈ N.map Prod.fst)
theorem mv_start (q : Int) (l : List (Int × Value)) : mvL q l l = l :=
 List.filter_eq_self.2 fun p hp => by
  have : p.1 ∈ l.map Prod.fst := List.mem_map.2 ⟨p, hp, rfl⟩
  simp only [this, decide_true, Bool.or_true]
theorem mv_end (q : Int) (f : List Fr) : mvL q (entF f) [] = entF (f.filter fun x => decide (q < x.q)) := by
 unfold mvL entF
 rw [List.filter_map]
 congr 1
 refine List.filter_congr fun x _ => ?_
 simp
theorem del_filter {x : Int} : ∀ {l : List (Int × Value)}, (l.map Prod.fst).Nodup → delK x l = l.filter fun p => !decide (p.1 = x)
 | [], _ => rfl
 | p :: l, hn => by
  rw [List.map_cons, List.nodup_cons] at hn
  unfold delK
  rw [List.filter_cons]
  by_cases h : x = p.1
  ·rw [if_pos h, decide_eq_true h.symm]
   simp only [Bool.not_true, Bool.false_eq_true, if_false]
   refine (List.filter_eq_self.2 fun y hy => ?_).symm
   have : ¬ y.1 = x := fun e => hn.1 (List.mem_map.2 ⟨y, hy, by rw [e, h]⟩)
   simp [this]
  ·rw [if_neg h, decide_eq_false (fun e => h e.symm), del_filter hn.2]
   rfl
theorem keys_mid {N1 N2 : List (Int × Value)} {x : Int} {v : Value} {k : Int} : k ∈ (N1 ++ (x, v) :: N2).map Prod.fst ↔ k = x ∨ k ∈ (N1 ++ N2).map Prod.fst := by
 simp only [List.map_append, List.map_cons, List.mem_append, List.mem_cons]
 constructor
 ·rintro (h | h | h)
  ·exact .inr (.inl h)
  ·exact .inl h
  ·exact .inr (.inr h)
 ·rintro (h | h | h)
  ·exact .inr (.inl h)
  ·exact .inl h
  ·exact .inr (.inr h)
theorem keys_off {N1 N2 : List (Int × Value)} {x : Int} {v : Value} (h : ((N1 ++ (x, v) :: N2).map Prod.fst).Nodup) : x ∉ (N1 ++ N2).map Prod.fst := by
 rw [List.map_append, List.map_cons] at h
 obtain ⟨_, h2, h3⟩ := List.nodup_append.1 h
 rw [List.map_append]
 intro h9
 rcases List.mem_append.1 h9 with h9 | h9
 ·exact h3 x h9 x (List.mem_cons_self ..) rfl
 ·exact (List.nodup_cons.1 h2).1 h9
theorem mv_drop {q x : Int} {v : Value} {l N1 N2 : List (Int × Value)} (hl : (l.map Prod.fst).Nodup) (hN : ((N1 ++ (x, v) :: N2).map Prod.fst).Nodup) (hx : x ≤ q) : delK x (mvL q l (N1 ++ (x, v) :: N2)) = mvL q l (N1 ++ N2) := by
 have hk : ((mvL q l (N1 ++ (x, v) :: N2)).map Prod.fst).Nodup := hl.sublist (List.Sublist.map _ List.filter_sublist)
 have hoff := keys_off hN
 rw [del_filter hk]
 unfold mvL
 rw [List.filter_filter]
 refine List.filter_congr fun p _ => ?_
 rw [Bool.eq_iff_iff]
 simp only [Bool.and_eq_true, Bool.not_eq_true', decide_eq_false_iff_not, Bool.or_eq_true, decide_eq_true_iff, keys_mid]
 constructor
 ·rintro ⟨h1, h2 | h2 | h2⟩
  ·exact .inl h2
  ·exact absurd h2 h1
  ·exact .inr h2
 ·rintro (h2 | h2)
  ·exact ⟨by omega, .inl h2⟩
  ·exact ⟨fun e => hoff (e ▸ h2), .inr (.inr h2)⟩
theorem mv_keep {q x : Int} {v : Value} {l N1 N2 : List (Int × Value)} (hx : q < x) : mvL q l (N1 ++ (x, v) :: N2) = mvL q l (N1 ++ N2) := by
 unfold mvL
 refine List.filter_congr fun p _ => ?_
 rw [Bool.eq_iff_iff]
 simp only [Bool.or_eq_true, decide_eq_true_iff, keys_mid]
 constructor
 ·rintro (h2 | h2 | h2)
  ·exact .inl h2
  ·exact .inl (by omega)
  ·exact .inr h2
 ·rintro (h2 | h2)
  ·exact .inl h2
  ·exact .inr (.inr h2)
theorem encI_inj (x y : Int) (h : encI x = encI y) : x = y := by injection h
theorem sub_log {w w' : World} {B gm : Nat} {n low low' : Int} {f f' : List Fr} (h : PLg w B gm n low f) (hs : f'.Sublist f) (hf : Ft (fun b => b = B ∨ b = gm) w w') (hb : Blk w' B 51 (lpC n low' gm)) (hm : MpIs w' gm (encK encI (entF f'))) : PLg w' B gm n low' f' :=
 ⟨hb, hm, (h.fam.sub hs).ft ts_kv hf (fun b hb e => by
  have h9 := FD.sub hs hb
  rcases e with rfl | rfl
  ·exact h.nb h9
  ·exact h.nm h9), fun h9 => h.nb (FD.sub hs h9), fun h9 => h.nm (FD.sub hs h9), h.nd.sublist (hs.map _)⟩
theorem ent_nd {f : List Fr} (h : (f.map Fr.q).Nodup) : ((entF f).map Prod.fst).Nodup := by rw [ent_keys]; exact h
set_option maxHeartbeats 16000000 in
set_option maxRecDepth 100000 in
theorem move_lnil (q : Int) (w : World) : Calls Try.prog 9 #[.pointer none, .int .i64 q] w fun e w' => e = .returned (.int .i64 1) ∧ w' = w := by
 go_enter Try.func9, Try.ntmps9
 go_wp2_with (first
  | (go_at_call 20; (with_reducible refine (isnone_lnil _).mono ?_); rintro e w9 ⟨rfl, hw9⟩; have hw8 := hw9.symm; clear hw9; subst hw8))
 go_ret
 exact ⟨rfl, rfl⟩
set_option maxHeartbeats 16000000 in
set_option maxRecDepth 100000 in
theorem clear_lnil (w : World) : Calls Try.prog 8 #[.pointer none] w fun e w' => e = .returned (.tuple #[]) ∧ w' = w := by
 go_enter Try.func8, Try.ntmps8
 go_wp2_with (first
  | (go_at_call 20; (with_reducible refine (isnone_lnil _).mono ?_); rintro e w9 ⟨rfl, hw9⟩; have hw8 := hw9.symm; clear hw9; subst hw8))
 go_end0
 exact ⟨rfl, rfl⟩
set_option maxHeartbeats 16000000 in
set_option maxRecDepth 100000 in
theorem clear_lp {w : World} {B gm : Nat} {n low : Int} {f : List Fr} (h : PLg w B gm n low f) (hn : 1 ≤ n) : Calls Try.prog 8 #[(.pointer (some ⟨B, 0, none⟩))] w fun e w' => e = .returned (.tuple #[]) ∧ PLg w' B gm n low [] ∧ Ft (fun b => b = B ∨ b = gm) w w' := by
 have HB := Lib.hid h.box
 have HN1 := Lib.hid hn
 have HP := Lib.hid h
 have HNE := Lib.hid h.ne
 have k2 : w.cell? ⟨B, 2, none⟩ = some (.map (some gm)) := h.box.cellAt rfl
 obtain ⟨u5, hr5, hm5, hg5⟩ := h.mp.clr (P := Try.prog) Try.underlying49 0
 have HM5 := Lib.hid hm5
 have HG5 := Lib.hid hg5
 clear h hn hm5 hg5
 go_enter Try.func8, Try.ntmps8
 go_wp2_with (first
  | (go_at_call 20; (with_reducible refine (isnone_lp _ HB.out HN1.out).mono ?_); rintro e w9 ⟨rfl, hw9⟩; have hw8 := hw9.symm; clear hw9; subst hw8)
  | (refine wpList_clr_to rfl (.tmp 8) #[49] rfl (.map (some gm)) rfl u5 hr5 ?_))
 go_end0
 have hf : Ft (fun b => b = B ∨ b = gm) w u5 := Ft.of_grown HG5.out (fun _ hb => .inl (.inr (Option.some.inj hb).symm))
 exact ⟨rfl, sub_log HP.out (List.nil_sublist _) hf (HB.out.grown HG5.out (fun e => HNE.out (Option.some.inj e))) HM5.out, hf⟩
set_option maxHeartbeats 16000000 in
set_option maxRecDepth 100000 in
theorem move_lno {w : World} {B gm : Nat} {n low : Int} {f : List Fr} (q : Int) (h : PLg w B gm n low f) (hn : 1 ≤ n) (hq : q < low ∨ 1048576 < q) : Calls Try.prog 9 #[(.pointer (some ⟨B, 0, none⟩)), .int .i64 q] w fun e w' => e = .returned (.int .i64 14) ∧ w' = w := by
 have HB := Lib.hid h.box
 have HN1 := Lib.hid hn
 have k1 : w.cell? ⟨B, 1, none⟩ = some (.int .i64 low) := h.box.cellAt rfl
 clear h hn
 by_cases b1 : q < low
 ·go_enter Try.func9, Try.ntmps9
  go_wp2_with (first
   | (go_at_call 20; (with_reducible refine (isnone_lp _ HB.out HN1.out).mono ?_); rintro e w9 ⟨rfl, hw9⟩; have hw8 := hw9.symm; clear hw9; subst hw8))
  go_ret
  exact ⟨rfl, rfl⟩
 ·have b2 : 1048576 < q := by omega
  go_enter Try.func9, Try.ntmps9
  go_wp2_with (first
   | (go_at_call 20; (with_reducible refine (isnone_lp _ HB.out HN1.out).mono ?_); rintro e w9 ⟨rfl, hw9⟩; have hw8 := hw9.symm; clear hw9; subst hw8))
  go_ret
  exact ⟨rfl, rfl⟩
set_option maxHeartbeats 16000000 in
set_option maxRecDepth 100000 in
theorem move_lp {w : World} {B gm : Nat} {n low : Int} {f : List Fr} (q : Int) (h : PLg w B gm n low f) (hn : 1 ≤ n) (hq : ¬ (q < low ∨ 1048576 < q)) : Calls Try.prog 9 #[(.pointer (some ⟨B, 0, none⟩)), .int .i64 q] w fun e w' => e = .returned (.int .i64 0) ∧ PLg w' B gm n q (f.filter fun x => decide (q < x.q)) ∧ Ft (fun b => b = B ∨ b = gm) w w' := by
 have HB := Lib.hid h.box
 have HN1 := Lib.hid hn
 have HP := Lib.hid h
 have HNE := Lib.hid h.ne
 have HMp := Lib.hid h.mp
 have HNd := Lib.hid (ent_nd h.nd)
 have k1 : w.cell? ⟨B, 1, none⟩ = some (.int .i64 low) := h.box.cellAt rfl
 have b1 : ¬ q < low := fun e => hq (.inl e)
 have b2 : ¬ 1048576 < q := fun e => hq (.inr e)
 clear h hn hq
 go_enter Try.func9, Try.ntmps9
 go_wp2_with (first
  | (go_at_call 20; (with_reducible refine (isnone_lp _ HB.out HN1.out).mono ?_); rintro e w9 ⟨rfl, hw9⟩; have hw8 := hw9.symm; clear hw9; subst hw8)
  | (refine wpList_store_cell rfl 2 (.tmp 23) (.tmp 21) rfl B 1 rfl (.int .i64 q) rfl rfl rfl Try.sz_i64 51 (lpC n low gm) HB.out (by simp [lpC]) ?_; intro w1 hb9 hg9; have HB1 : Hid (Blk w1 B 51 (lpC n q gm)) := Lib.hid hb9; have HG1 := Lib.hid hg9; have HM1 : Hid (MpIs w1 gm (encK encI (entF f))) := Lib.hid (HMp.out.grown hg9 (fun e => HNE.out (Option.some.inj e).symm)); clear hb9 hg9)
  | (refine wpList_load_to rfl 49 (.tmp 26) rfl (.pointer (some ⟨B, 2, none⟩)) (.map (some gm)) rfl (load_one' (Try.agg_m64 _) (HB1.out.cellAt rfl)) ?_)
  | (at_range; refine wpList_range_k rfl _ 49 rfl Try.underlying49 rfl HM1.out ?_; intro w2 hrg9 hb9; have HR2 := Lib.hid hrg9; have HX2 := Lib.hid hb9; clear hrg9 hb9))
 go_frame
 have HB2 : Hid (Blk w2 B 51 (lpC n q gm)) := Lib.hid (HB1.out.through HX2.out)
 have HF2 : Hid (Ft (fun b => b = B ∨ b = gm) w w2) := Lib.hid ((Ft.of_grown HG1.out (fun _ hb => .inl (.inl (Option.some.inj hb).symm))).deep HX2.out)
 have HS1 : Hid (w.heap.size ≤ w1.heap.size) := Lib.hid HG1.out.size
 have HRB : Hid (w1.heap.size ≠ B) := Lib.hid (by have := HB1.out.lt; omega)
 have HRG : Hid (w1.heap.size ≠ gm) := Lib.hid (by have := HM1.out.lt; omega)
 generalize w1.heap.size = r at *
 go_loopw [5] (fun _ wr => ∃ N, MpRg encI wr gm r (mvL q (entF f) N) N ∧ Blk wr B 51 (lpC n q gm) ∧ Ft (fun b => b = B ∨ b = gm) w wr) (fun _ wr => rgLeft wr gm r)
 case atStart =>
  refine ⟨entF f, ?_, HB2.out, HF2.out⟩
  rw [mv_start]
  exact HR2.out
 case round =>
  obtain ⟨N, hR, hB, hF⟩ := hrel
  have HR := Lib.hid hR
  have HBr := Lib.hid hB
  have HFr := Lib.hid hF
  clear hR hB hF
  go_wp2_with (first
   | (at_next; refine wpList_next_i rfl _ rfl rfl HR.out ?_ ?_))
  ·intro hN0
   go_wp2
   go_ret
   have h9 := HR.out.is
   rw [hN0, mv_end] at h9
   exact ⟨rfl, sub_log HP.out List.filter_sublist HFr.out HBr.out h9, HFr.out⟩
  ·intro N1 x v N2 w3 hN hR3 hg3 hen
   have HR3 := Lib.hid hR3
   have HG3 := Lib.hid hg3
   have HNn : Hid (N = N1 ++ (x, v) :: N2) := Lib.hid hN
   have HB3 : Hid (Blk w3 B 51 (lpC n q gm)) := Lib.hid (HBr.out.grown hg3 (fun e => HRB.out (Option.some.inj e).symm))
   have HF3 : Hid (Ft (fun b => b = B ∨ b = gm) w w3) := Lib.hid (HFr.out.trans (D' := fun b => b = r) (Ft.of_grown hg3 (fun _ hb => .inl (Option.some.inj hb).symm)) (fun b hb => .inr (by rw [hb]; exact HS1.out)))
   have HNd3 : Hid (((N1 ++ (x, v) :: N2).map Prod.fst).Nodup) := Lib.hid (by
    rw [← hN]
    exact HNd.out.sublist (List.Sublist.map _ ((HR.out.sub encI_inj).trans List.filter_sublist)))
   clear hN hR3 hg3
   have k2 : w3.cell? ⟨B, 2, none⟩ = some (.map (some gm)) := HB3.out.cellAt rfl
   by_cases hx : x ≤ q
   ·obtain ⟨u5, hr5, hR5, hg5⟩ := HR3.out.drop (P := Try.prog) Try.key_i64 Try.underlying49 (fun _ _ => trivial) (x := x) trivial (fun p hp e => by
     obtain ⟨y, hy, hyp⟩ := List.mem_map.1 hp
     rw [← hyp] at e
     exact keys_off HNd3.out (List.mem_map.2 ⟨y, hy, encI_inj _ _ e⟩)) 0
    have hr6 : (Builtin.delete_ #[49, 2] 0 #[.map (some gm), .int .i64 x]).run Try.prog w3 = .ok (.tuple #[]) u5 := hr5
    have HR5 := Lib.hid hR5
    have HG5 := Lib.hid hg5
    clear hr5 hR5 hg5
    go_wp2_with (first
     | (refine wpList_del_to rfl (.tmp 39) (.tmp 40) #[49, 2] rfl (.map (some gm)) (.int .i64 x) rfl rfl u5 hr6 ?_))
    go_frame
    go_roundw
    case rel =>
     refine ⟨N1 ++ N2, ?_, HB3.out.grown HG5.out (fun e => HNE.out (Option.some.inj e)), HF3.out.trans (D' := fun b => b = gm) (Ft.of_grown HG5.out (fun _ hb => .inl (Option.some.inj hb).symm)) (fun b hb => .inl (.inr hb))⟩
     have h9 := HR5.out
     rw [HNn.out, mv_drop HNd.out HNd3.out hx] at h9
     exact h9
    case measure =>
     rw [HR5.out.left, HR.out.left, HNn.out]
     simp
   ·go_wp2
    go_roundw
    case rel =>
     refine ⟨N1 ++ N2, ?_, HB3.out, HF3.out⟩
     have h9 := HR3.out
     rw [HNn.out, mv_keep (by omega)] at h9
     exact h9
    case measure =>
     rw [HR3.out.left, HR.out.left, HNn.out]
     simp

end Go.Proofs.Ytponmfkddglopaa
