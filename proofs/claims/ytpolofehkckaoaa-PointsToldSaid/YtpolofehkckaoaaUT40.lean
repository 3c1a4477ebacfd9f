/-
  Joined: PwK.
-/
import Derived.Maps.OwnSet
import Derived.OwnWalkIn
import Derived.Test.YtpolofehkckaoaaUT38
import Derived.Test.YtpolofehkckaoaaUT39
import Derived.Test.YtpolofehkckaoaaUT30
namespace Go.Proofs.Ytpolofehkckaoaa
open Go.RowKit Go.Maps Go.Sort Go.Shelf

def rdAnyP : Value → Option (DataW Unit × List MemPlace) := fun _ => some (.nil, [])
theorem owns_p {w : World} {gv : Nat} {M : List (Int × Value)} (h : MpIs w gv (encK encI M)) (hn : (M.map Prod.fst).Nodup) (hi : ∀ p ∈ M, In64 p.1) (hs : M.length ≤ 1000000) :
    ∃ D0 : DataW Unit, w.ownsMap Try.prog 2 rdAnyP gv M.length D0 ∧ (intKeys D0).Perm (M.map Prod.fst) ∧ Maps.size D0 ≤ M.length := by
  obtain ⟨es, ck, hb, hk, h1, h2⟩ := h
  have hlen : es.size = M.length := by have := congrArg List.length hk; simpa [encK] using this
  have hkeys : es.toList.map (·.key) = M.map (fun p => encI p.1) := by
    have := congrArg (List.map Prod.fst) hk
    simpa [encK, kvE, Function.comp_def] using this
  have hin : ∀ x ∈ es.toList, ∃ a : Int, x.key = .int .i64 a ∧ keyOf Try.prog 2 x.key = some (.int .i64 a) := fun x hx => by
    have h3 : x.key ∈ M.map (fun p => encI p.1) := by rw [← hkeys]; exact List.mem_map.2 ⟨x, hx, rfl⟩
    obtain ⟨p, hp, e⟩ := List.mem_map.1 h3
    have h4 := hi p hp
    refine ⟨p.1, e.symm, ?_⟩
    rw [← e]
    have hw : (Lit.int .i64 p.1).wf = true := by
      unfold In64 at h4
      simp [Lit.wf, IntKind.min, IntKind.max, IntKind.signed, IntKind.bits]
      omega
    simp [keyOf, encI, Try.underlying2, mapKey, hw]
  have hrg : ∀ x ∈ es.toList, ∀ a, x.key = .int .i64 a → WideElems.rg Try.prog 2 rdAnyP x = (.int .i64 a, .nil) := fun x hx a e => by
    obtain ⟨a', e1, e2⟩ := hin x hx
    have ea : a' = a := by rw [e1] at e; injection e
    subst ea
    exact WideElems.rg_of (by
      obtain ⟨key, val, born⟩ := x
      exact WideElems.rd_mk e2 (show rdAnyP val = some (.nil, []) from rfl))
  refine ⟨_, ⟨es, ck, hb, ⟨(by rw [hlen]; exact Nat.le_trans hs (by decide)), ⟨h1, h2, ?_⟩, fun x hx => ?_⟩, (by omega), rfl⟩, ?_, ?_⟩
  · rw [hkeys]
    rw [List.nodup_iff_pairwise_ne, List.pairwise_map] at hn ⊢
    exact hn.imp (fun hne e => hne (by simpa [encI] using e))
  · obtain ⟨a, e1, e2⟩ := hin x hx
    exact ⟨_, by
      obtain ⟨key, val, born⟩ := x
      exact WideElems.rd_mk e2 (show rdAnyP val = some (.nil, []) from rfl)⟩
  · show ((_ : List (Lit × DataW Unit)).map fun p => _root_.Go.intOf p.1).Perm _
    refine ((Go.WideShapes.sorted_perm _).map _).trans ?_
    have e : (es.toList.map (WideElems.rg Try.prog 2 rdAnyP)).map (fun p => _root_.Go.intOf p.1) = M.map Prod.fst := by
      rw [List.map_map]
      have h5 : es.toList.map (fun x => match x.key with | .int _ a => a | _ => 0) = M.map Prod.fst := by
        have := congrArg (List.map (fun v : Value => match v with | .int _ a => a | _ => 0)) hkeys
        simpa [encI, Function.comp_def] using this
      rw [← h5]
      refine List.map_congr_left fun x hx => ?_
      obtain ⟨a, e1, _⟩ := hin x hx
      simp [hrg x hx a e1, e1, _root_.Go.intOf]
    rw [e]
  · simp [Maps.size, _root_.Go.length_sorted, hlen]
theorem flat_it : ∀ l : List Int, (l.map itC).flatten = l.map encZ
  | [] => rfl
  | a :: l => by
    rw [List.map_cons, List.flatten_cons, flat_it l]
    rfl
theorem is_of_row {w : World} {B : Nat} {v : Value} {l : List Int} (h : w.ownsRow B 2 1 v l.length (l.map encZ)) : ∃ A c, v = .slice A l.length c ∧ l.length ≤ c ∧ IsIn w A l.length l := by
  have h2 : Os w B 2 1 v (l.map itC) := ⟨by
    rw [List.length_map]
    rw [flat_it]
    exact h, fun x hx => by obtain ⟨a, _, rfl⟩ := List.mem_map.1 hx; rfl⟩
  obtain ⟨A, c, e, h3, _, h4⟩ := h2.out
  rw [List.length_map] at e h3 h4
  exact ⟨A, c, e, h3, h4⟩
theorem Try.sortsP (m : Nat) : AnyZI.SortsIn Try.prog Try.sortedI_ren Fence.wide m :=
  ⟨fun blk off cap ss W hH hblk hsz => callsIn_wide.2 (AnyM.slices_Sort_int Try.sortI blk off cap ss W hH hblk hsz),
   fun p cap W => callsIn_wide.2 (AnyM.slices_Sort_int_none Try.sortI p cap W)⟩
theorem ris_sorted {l : List Po} (h : Ris l) {ss : List Int} (hp : ss.Perm (l.map Po.sq)) : ss.mergeSort leI = l.map Po.sq := by
  rw [mergeSort_of_perm_i hp]
  refine List.mergeSort_of_pairwise (h.imp (fun h9 => ?_))
  simp [leI]
  omega
theorem Try.el_i64 : El Try.prog 53 2 1 8 (.int .i64 0) := ⟨Try.underlying53, by kernel_rfl, rfl, by omega, by omega, by omega⟩
theorem Try.ix_i64 (W : World) (g o n c j : Nat) (hj : j < n) : (Instr.indexAt 53 (.slice (some ⟨g, o, none⟩) n c) (.int .i64 (j : Int))).run Try.prog W = .ok (.pointer (some ⟨g, o + j, none⟩)) W := by
  have h9 := Try.el_i64.index (by kernel_rfl) W g o n c j hj
  simpa using h9
set_option maxHeartbeats 16000000 in
set_option maxRecDepth 100000 in
/-- the keys of the own points, rising -/
theorem keys_p {w : World} {mo : Nat} {M : List (Int × Value)} {l : List Po} (h : MpIs w mo (encK encI M)) (hr : Ris l) (hp : (M.map Prod.fst).Perm (l.map Po.sq)) (hi : ∀ p ∈ M, In64 p.1) (hs : M.length ≤ 1000000) :
    Calls Try.prog 45 #[.map (some mo)] w fun e w' => e = .returned (.func (.func 59) #[] #[.pointer (some ⟨w.heap.size, 0, none⟩)]) ∧ Below w.heap.size w w' ∧
      Calls Try.prog 44 #[.func (.func 59) #[] #[.pointer (some ⟨w.heap.size, 0, none⟩)]] w' fun e w'' => ∃ A c, e = .returned (.slice A l.length c) ∧ IsIn w'' A l.length (l.map Po.sq) ∧ Below w'.heap.size w' w'' := by
  have hnd : (M.map Prod.fst).Nodup := (hp.nodup_iff).2 (ris_nodup hr)
  obtain ⟨D0, hown, hperm, hsz⟩ := owns_p h hnd hi hs
  have hbl := hown.lt
  have hmax : Maps.size D0 ≤ maxLen := Nat.le_trans hsz (Nat.le_trans hs (by decide))
  have hbytes : Maps.size D0 * 8 ≤ 140737488355328 := by omega
  have hseq : SeqGives Fence.wide 2 Try.prog 59 #[.pointer (some ⟨w.heap.size, 0, none⟩)] encZ (fun ss => ss.Perm (intKeys D0)) (Maps.size D0) (w.alloc (.cells #[.map (some mo)] tMo)) :=
    AnyZI.keys_gives (ρ := Try.keysO_ren) { Try.keysO with } Fence.wide _ trivial rfl (by omega) w.heap.size mo M.length D0 _ (by simp) (by simp) (by
      obtain ⟨es, clock, hb, Ft, hs, hD⟩ := hown
      exact ⟨es, clock, (Below.heap_alloc _ _ mo hbl).trans hb, Ft, hs, hD⟩)
  have cK : CallsIn Fence.wide 5 Try.prog 45 #[.map (some mo)] w fun e w' => e = .returned (.func (.func 59) #[] #[.pointer (some ⟨w.heap.size, 0, none⟩)]) ∧ w' = w.alloc (.cells #[.map (some mo)] tMo) := AnyZI.keys_in Try.keysO Fence.wide 5 trivial rfl (some mo) w
  have cS := AnyZI.sorted_in Try.sortedI Fence.wide 5 trivial trivial trivial trivial rfl (by omega) (Try.sortsP _) (enters_of Try.func58 (by kernel_rfl) rfl) 59 #[.pointer (some ⟨w.heap.size, 0, none⟩)] trivial (enters_of Try.func59 (by kernel_rfl) rfl) _ _ hmax hbytes _ hseq
  change CallsIn _ _ Try.prog 44 _ _ _ at cS
  refine (callsIn_wide.1 cK).mono ?_
  rintro e w' ⟨rfl, rfl⟩
  refine ⟨rfl, below1_ w _, ?_⟩
  refine (callsIn_wide.1 cS).mono ?_
  rintro e w'' ⟨v, ss, rfl, hS, hrow, hnil, hb⟩
  have e1 : ss.mergeSort leI = l.map Po.sq := ris_sorted hr (hS.trans (hperm.trans hp))
  have e2 : ss.length = (l.map Po.sq).length := by rw [← e1, List.length_mergeSort]
  have hrow2 : w''.ownsRow w.heap.size 2 1 v (l.map Po.sq).length ((l.map Po.sq).map encZ) := by
    have h9 := ownsRow_base_a hrow (base' := w.heap.size) (by simp)
    rw [e1, e2] at h9
    exact h9
  obtain ⟨A, c, e, h3, h4⟩ := is_of_row hrow2
  subst e
  rw [List.length_map] at h4 ⊢
  exact ⟨A, c, rfl, h4, hb⟩
theorem Try.fld_ow (p : Po) (A : Option Addr) (k c : Nat) (h : p.dg.length = 32) (w : World) : (Instr.field tOw (.agg (Po.cells p ++ [Value.slice A k c]).toArray) 0).run Try.prog w = .ok (.agg (Po.cells p).toArray) w := by
  obtain ⟨a, d⟩ := p
  obtain ⟨x0, x1, x2, x3, x4, x5, x6, x7, x8, x9, x10, x11, x12, x13, x14, x15, x16, x17, x18, x19, x20, x21, x22, x23, x24, x25, x26, x27, x28, x29, x30, x31, rfl⟩ := vs_lit d h
  kernel_rfl
theorem po_one1 (po : Po) : ∀ u ∈ Po.cells po, u.oneCell' = true := fun u hu => Array.all_eq_true_iff_forall_mem.1 (Po.one po) u (by simpa using hu)
theorem wpList_fld_to {P : Program} {ops : Array Oper} {rest : List Oper} {o : Oper} {a : Act} {w : World} {Q : Exit → Act → World → Prop} (hg : o.guard = none) (t : TypeId) (x : Operand) (i : Nat) (ho : o.op = .field t x i) (p v : Value) (hx : a.eval x = p) (hrun : (Instr.field t p i).run P w = .ok v w)
    (h : wpList P ops Q rest (a.put o.dst v) w) : wpList P ops Q (o :: rest) a w :=
  wpList_plain hg fun _ hK => by
    unfold Oper.wp execOp
    simp only [ho, hx, Sem.run_bind, hrun, Result.andThen_ok]
    exact hK _ _ h
set_option maxHeartbeats 16000000 in
set_option maxRecDepth 100000 in
theorem votes_other {w : World} {B mo mv : Nat} {r : Ptp} {ows : List Ow} {OE VE : List (Int × Value)} {vf : Nat → Pl} (a : Nat) (h : PPt w B mo mv r ows OE VE vf) (ha : a < r.n) (hs : a ≠ r.self) :
    Calls Try.prog 16 #[(.pointer (some ⟨B, 0, none⟩)), .int .i64 (a : Int)] w fun e w' => (∃ A k c, e = .returned (.slice A k c) ∧ Os w' w.heap.size tPo 33 (.slice A k c) ((r.of.getD a []).map Po.cells) ∧ PosIn w' A k (r.of.getD a []) ∧ k ≤ c ∧ c ≤ maxLen) ∧ Below w.heap.size w w' := by
  have HB := Lib.hid h.box
  have HN1 := Lib.hid h.n1
  have k1 := h.box.cellAt (i := 1) rfl
  have k3 := h.box.cellAt (i := 3) rfl
  obtain ⟨hg0, hv0, _, hl3⟩ := h.vat a ha hs
  obtain ⟨l, hl⟩ : ∃ l, r.of.getD a [] = l := ⟨_, rfl⟩
  rw [hl] at hv0 hl3 ⊢
  obtain ⟨⟨A, k, c⟩, hvf⟩ : ∃ s, vf a = s := ⟨_, rfl⟩
  rw [hvf] at hg0 hv0
  have hlook : (Instr.lookup tMv (.map (some mv)) (.int .i64 (a : Int)) false).run Try.prog w = .ok (.slice A k c) w := by
    show _ = Result.ok (Pl.val (A, k, c)) _
    rw [← hg0]
    exact h.vm.look Try.keyp_int Try.underlying56 (fun _ _ => trivial) trivial (Try.zero_pos _)
  have hk : k ≤ 1000000 := by have := hv0.2.1; simp only at this; omega
  have HC := Lib.hid (clonep_any l A k c w hv0.pos hk)
  have HD := Lib.hid hv0.1
  have HLk : Hid (l.length = k) := Lib.hid hv0.2.1
  have hne : ¬ a = r.self := hs
  have hne2 : ((a : Int) != (r.self : Int)) = true := by simp; omega
  clear h hg0 hv0 hl hvf hl3 hs
  go_enter Try.func16, Try.ntmps16
  go_wp2_with (first
    | (go_at_call 27; (with_reducible refine (isnone_p _ HB.out HN1.out).mono ?_); rintro e w9 ⟨rfl, hw9⟩; have hw8 := hw9.symm; clear hw9; subst hw8)
    | (refine wpList_look_to rfl tMv (.tmp 21) (.tmp 22) false rfl (.map (some mv)) (.int .i64 (a : Int)) (.slice A k c) rfl rfl hlook ?_)
    | (go_at_call 43; (with_reducible refine HC.out.mono ?_); rintro e w5 ⟨A5, c5, rfl, ho5, hb5⟩; have HO5 := Lib.hid ho5; have HX5 := Lib.hid hb5; clear ho5 hb5))
  go_ret
  obtain ⟨A6, c6, e6, h6, h7, h8⟩ := HO5.out.out
  rw [List.length_map, HLk.out] at e6 h6 h8
  injection e6 with e7 e8 e9
  subst e7 e9
  exact ⟨⟨_, _, _, rfl, HO5.out, ⟨h8, HD.out⟩, h6, h7⟩, HX5.out⟩
set_option maxHeartbeats 16000000 in
set_option maxRecDepth 100000 in
theorem votes_self {w : World} {B mo mv : Nat} {r : Ptp} {ows : List Ow} {OE VE : List (Int × Value)} {vf : Nat → Pl} (h : PPt w B mo mv r ows OE VE vf) (hlen : ows.length ≤ 100000) :
    Calls Try.prog 16 #[(.pointer (some ⟨B, 0, none⟩)), .int .i64 (r.self : Int)] w fun e w' => (∃ A k c, e = .returned (.slice A k c) ∧ Os w' w.heap.size tPo 33 (.slice A k c) ((ownL r).map Po.cells) ∧ PosIn w' A k (ownL r) ∧ k ≤ c ∧ c ≤ maxLen) ∧ Below w.heap.size w w' := by
  have HB := Lib.hid h.box
  have HN1 := Lib.hid h.n1
  have k1 := h.box.cellAt (i := 1) rfl
  have k2 := h.box.cellAt (i := 2) rfl
  have hol := h.ol
  have hr := h.ris
  rw [hol] at hr
  have hkp : (OE.map Prod.fst).Perm ((ows.map Ow.po).map Po.sq) := by rw [← ents_fst]; exact h.op.map _
  have HKy := Lib.hid (keys_p h.om hr hkp (fun p hp => by
    obtain ⟨o, ho, e⟩ := List.mem_map.1 (h.op.mem_iff.1 hp)
    rw [← e]
    exact h.o64 o ho) (by have := h.op.length_eq; rw [List.length_map] at this; omega))
  have HH := Lib.hid h
  have HRi := Lib.hid hr
  have HPd0 : Hid (∀ o ∈ ows, o.po.dg.length = 32) := Lib.hid (fun o ho => (h.ob o ho).2.1)
  have HLk0 : Hid (∀ (o : Ow), o ∈ ows → ∀ W, Below w.heap.size w W → (Instr.lookup tMo (.map (some mo)) (.int .i64 o.po.sq) false).run Try.prog W = .ok o.val W) := Lib.hid (fun o ho W hW => by
    have h1 := (h.through hW).om.look (x := o.po.sq) Try.keyp_i64 Try.underlying55 (fun _ _ => trivial) trivial (Try.zero_ow W)
    have h2 := get_perm h.op (by rw [ents_fst]; exact ris_nodup hr) o.po.sq
    rcases get_ows hr o.po.sq with ⟨_, h4⟩ | ⟨o', h4, h5, h6⟩
    · exact absurd rfl (h4 o ho)
    · rw [h2, h6, ows_inj hr h4 ho h5] at h1
      exact h1)
  have HLn : Hid ((ows.map Ow.po).length = ows.length) := Lib.hid (List.length_map ..)
  have hne2 : ((r.self : Int) != (r.self : Int)) = false := by simp
  rw [hol]
  obtain ⟨m, hm⟩ : ∃ m, ows.length = m := ⟨_, rfl⟩
  have HM := Lib.hid hm
  rw [hm] at hlen
  have hpl : (ows.map Ow.po).length = m := by rw [HLn.out, hm]
  rw [hpl] at HKy
  have HPl0 := Lib.hid hpl
  clear h hol hr hkp hm hpl
  go_enter Try.func16, Try.ntmps16
  go_wp2_with (first
    | (go_at_call 27; (with_reducible refine (isnone_p _ HB.out HN1.out).mono ?_); rintro e w9 ⟨rfl, hw9⟩; have hw8 := hw9.symm; clear hw9; subst hw8)
    | (go_at_call 45; (with_reducible refine HKy.out.mono ?_); rintro e w3 ⟨rfl, hb3, hc3⟩; have HX3 := Lib.hid hb3; have HS3 := Lib.hid hc3; clear hb3 hc3)
    | (go_at_call 44; (with_reducible refine HS3.out.mono ?_); rintro e w4 ⟨A4, c4, rfl, hi4, hb4⟩; have HI4 := Lib.hid hi4; have HX4 := Lib.hid (below_step HX3.out hb4); clear hi4 hb4))
  go_loopw [5, 32] (fun v iv wr => ∃ i : Nat, i ≤ m ∧ iv = .int .i64 (i : Int) ∧ Os wr w4.heap.size tPo 33 v (((ows.map Ow.po).take i).map Po.cells) ∧ Below w4.heap.size w4 wr) (fun _ iv _ => m - (intOf iv).toNat)
  case atStart => exact ⟨0, Nat.zero_le _, rfl, Os.nil _ _ _ _, Below.refl _ _⟩
  case round =>
    obtain ⟨i, hi, rfl, ho, hx4⟩ := hrel
    obtain ⟨A5, n5, c5, rfl, hn5⟩ := ho.out'
    have HN5 := Lib.hid hn5
    have HO := Lib.hid ho
    have HXr := Lib.hid (below_step HX4.out hx4)
    have HX4r := Lib.hid hx4
    have hib : i ≤ 100000 := by omega
    have HTl : Hid ((((ows.map Ow.po).take i).map Po.cells).length = i) := Lib.hid (by rw [List.length_map, List.length_take, HPl0.out]; omega)
    clear ho hx4 hn5
    by_cases hlt : i < m
    · obtain ⟨g0, o0, q, rfl, hq, _, hcq⟩ := (HI4.out.through HX4r.out).at hlt
      have hix := fun (W : World) => Try.ix_i64 W g0 o0 m c4 i hlt
      have hio : i < ows.length := by rw [HM.out]; exact hlt
      obtain ⟨o, hgo⟩ : ∃ o, ows[i]? = some o := ⟨_, List.getElem?_eq_getElem hio⟩
      have hmo := List.mem_of_getElem? hgo
      have hqs : q = o.po.sq := by
        rw [List.getElem?_map, List.getElem?_map, hgo] at hq
        exact (Option.some.inj hq).symm
      subst hqs
      have HTk : Hid (((ows.map Ow.po).take (i + 1)).map Po.cells = ((ows.map Ow.po).take i).map Po.cells ++ [Po.cells o.po]) := Lib.hid (by rw [List.take_add_one, List.getElem?_map, hgo]; simp)
      have HLk := Lib.hid (HLk0.out o hmo)
      have HPd := Lib.hid (HPd0.out o hmo)
      have HPl : Hid ((Po.cells o.po).length = 33) := Lib.hid (Po.cells_len _ HPd.out)
      have k2r : wr.cell? ⟨B, 2, none⟩ = some (.map (some mo)) := (HH.out.through HXr.out).box.cellAt (i := 2) rfl
      obtain ⟨po, ⟨A9, k9, c9⟩, b9⟩ := o
      simp only at HLk HPd HPl HTk hcq
      have HLk : Hid (∀ W, Below w.heap.size w W → (Instr.lookup tMo (.map (some mo)) (.int .i64 po.sq) false).run Try.prog W = .ok (.agg (Po.cells po ++ [Value.slice A9 k9 c9]).toArray) W) := HLk
      clear hq hgo hmo hio
      go_wp2_with (first
        | (refine wpList_look_to rfl tMo (.tmp 40) (.tmp 41) false rfl (.map (some mo)) (.int .i64 po.sq) (.agg (Po.cells po ++ [Value.slice A9 k9 c9]).toArray) rfl rfl (HLk.out _ HXr.out) ?_)
        | (refine wpList_fld_to rfl tOw (.tmp 42) 0 rfl _ (.agg (Po.cells po).toArray) rfl (Try.fld_ow po A9 k9 c9 HPd.out _) ?_)
        | (refine wpList_build_el rfl Try.el_po (.tmp 43) rfl (Po.cells po) rfl HPl.out ?_)
        | (at_builtin; refine wpList_append_el rfl Try.el_po (.tmp 36) (.tmp 44) rfl w4.heap.size (.slice A5 n5 c5) (((ows.map Ow.po).take i).map Po.cells) rfl (HO.out.alloc (.cells (Po.cells po).toArray tPo)) wr.heap.size (Po.cells po) rfl (Blk.fresh (w := wr) (A := (Po.cells po).toArray) (t := tPo) rfl rfl) HPl.out (po_one1 po) (by have := HTl.out; omega) (Nat.le_trans HX4r.out.size (below1_ wr (.cells (Po.cells po).toArray tPo)).size) ?_; intro v6 w6 ho6 hg6; have HO6 := Lib.hid ho6; have HX46 : Hid (Below w4.heap.size w4 w6) := Lib.hid ((below_step HX4r.out (below1_ wr (.cells (Po.cells po).toArray tPo))).grown hg6 (below_step HX4r.out (below1_ wr (.cells (Po.cells po).toArray tPo))).size (fun q hq => ((HO.out.alloc (.cells (Po.cells po).toArray tPo)).lt q hq).1)); clear ho6 hg6))
      go_roundw
      case rel => exact ⟨i + 1, by omega, by go_num, by rw [HTk.out]; exact HO6.out, HX46.out⟩
      case measure => simp [intOf]; omega
    · obtain rfl : i = m := by omega
      have HTa : Hid ((ows.map Ow.po).take i = ows.map Ow.po) := Lib.hid (List.take_of_length_le (by rw [HPl0.out]; exact Nat.le_refl _))
      go_wp2
      go_ret
      have h1 := HO.out
      rw [HTa.out] at h1
      obtain ⟨A6, c6, e6, h6, h7, h8⟩ := h1.out
      rw [List.length_map, HPl0.out] at e6 h6 h8
      injection e6 with e7 e8 e9
      subst e7 e8 e9
      refine ⟨⟨_, _, _, rfl, h1.weak HX4.out.size, ⟨h8, fun p hp => ?_⟩, h6, h7⟩, HXr.out⟩
      obtain ⟨o, ho, e⟩ := List.mem_map.1 hp
      rw [← e]
      exact HPd0.out o ho
theorem votes_any {w : World} {B mo mv : Nat} {r : Ptp} {ows : List Ow} {OE VE : List (Int × Value)} {vf : Nat → Pl} (a : Nat) (h : PPt w B mo mv r ows OE VE vf) (ha : a < r.n) (hlen : ows.length ≤ 100000) :
    Calls Try.prog 16 #[(.pointer (some ⟨B, 0, none⟩)), .int .i64 (a : Int)] w fun e w' => (∃ A k c, e = .returned (.slice A k c) ∧ Os w' w.heap.size tPo 33 (.slice A k c) ((r.of.getD a []).map Po.cells) ∧ PosIn w' A k (r.of.getD a []) ∧ k ≤ c ∧ c ≤ maxLen) ∧ Below w.heap.size w w' := by
  by_cases hs : a = r.self
  · subst hs
    exact votes_self h hlen
  · exact votes_other a h ha hs

end Go.Proofs.Ytpolofehkckaoaa
