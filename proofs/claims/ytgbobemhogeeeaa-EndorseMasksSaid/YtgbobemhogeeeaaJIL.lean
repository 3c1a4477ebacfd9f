/-
  Joined: VIK, VIL.
-/
import Derived.Test.YtgbobemhogeeeaaJIR
import Derived.Test.YtgbobemhogeeeaaEnF
namespace Go.Proofs.Ytgbobemhogeeeaa
section
open Go.RowKit

set_option maxHeartbeats 4000000 in
set_option maxRecDepth 100000 in
theorem inewr_any (w : World) : Calls Try.prog 8 #[] w fun e w' => ∃ g r1 r2, e = .returned (.pointer (some ⟨g, 0, none⟩)) ∧ ISr w' g r1 r2 [] [] ∧ w.heap.size ≤ r2 ∧ r2 ≤ g ∧ Below w.heap.size w w' := by
  have hmk := Try.make_mapI
  go_enter Try.func8, Try.ntmps8
  go_wp2
  go_ret
  have h1 : (w.alloc (.map #[] 0)).heap.size = w.heap.size + 1 := by simp
  have h2 : ((w.alloc (.map #[] 0)).alloc (.map #[] 0)).heap.size = w.heap.size + 1 + 1 := by simp
  have e1 : ((w.alloc (.map #[] 0)).alloc (.map #[] 0)).heap[w.heap.size]? = some (.map #[] 0) := (Below.heap_alloc _ _ _ (by omega)).trans (heap_alloc_new w _)
  have e2 : ((w.alloc (.map #[] 0)).alloc (.map #[] 0)).heap[w.heap.size + 1]? = some (.map #[] 0) := by
    rw [← h1]
    exact heap_alloc_new _ _
  refine ⟨w.heap.size + 1 + 1, w.heap.size, w.heap.size + 1, rfl, ⟨Blk.fresh h2.symm rfl, ⟨#[], 0, (Below.heap_alloc _ _ _ (by omega)).trans e1, rfl⟩, ⟨#[], 0, (Below.heap_alloc _ _ _ (by omega)).trans e2, rfl⟩, by omega, by omega, by omega⟩, by omega, by omega, ?_⟩
  exact (((Below.refl _ w).alloc (Nat.le_refl _) _).alloc (by omega) _).alloc (by omega) _

section
variable {w w' : World} {r k n : Nat} {A : Option Addr} {ts : List (List UInt8)}
theorem map_ne {b : Nat} (hb : ∃ cs t fr, w.heap[b]? = some (.cells cs t fr)) (hs : MI w ts r) : b ≠ r := fun e => by
  subst e
  obtain ⟨cs, t, fr, hb⟩ := hb
  obtain ⟨es, ck, hm, _⟩ := hs
  rw [hb] at hm
  exact absurd (Option.some.inj hm) (by simp)
theorem cell_kfI {b o : Nat} {v : Value} (h : w.cell? ⟨b, o, none⟩ = some v) (hs : MI w ts r) (hf : KF r w w') : w'.cell? ⟨b, o, none⟩ = some v :=
  (World.cell?_of_block (a := ⟨b, o, none⟩) (hf.cells b (map_ne (block_of_cell h) hs) (block_of_cell h))).trans h
theorem Sl.kfI {xs : List (List Value)} (h : Sl w k A n xs) (hs : MI w ts r) (hf : KF r w w') : Sl w' k A n xs :=
  ⟨h.1, fun hn => by
    obtain ⟨b, o, e, hc⟩ := h.2 hn
    exact ⟨b, o, e, fun i cs hi j u hu => cell_kfI (hc i cs hi j u hu) hs hf⟩⟩
theorem TsIn.kfI {s : Pl} {t : List (List UInt8)} (h : TsIn w s t) (hs : MI w ts r) (hf : KF r w w') : TsIn w' s t := ⟨h.1.kfI hs hf, h.2⟩
theorem EsIn.kfI {es : List En} (h : EsIn w A n es) (hs : MI w ts r) (hf : KF r w w') : EsIn w' A n es := by
  obtain ⟨ss, h1, h2⟩ := h
  exact ⟨ss, h1.kfI hs hf, h2.mono fun _ _ h => h.kfI hs hf⟩
theorem Blk.kfI {b : Nat} {t : TypeId} {cs : List Value} (h : Blk w b t cs) (hs : MI w ts r) (hf : KF r w w') : Blk w' b t cs :=
  (hf.cells b (map_ne ⟨_, _, _, h⟩ hs) ⟨_, _, _, h⟩).trans h
theorem Sl.st {b : Nat} {xs : List (List Value)} (h : Sl w k A n xs) (ho : w.grownBy w' (some b)) (hne : ∀ g o, 0 < n → A = some ⟨g, o, none⟩ → (∀ (i : Nat) (cs : List Value), xs[i]? = some cs → w.rangeAt g (o + i * k) cs) → g ≠ b) : Sl w' k A n xs :=
  ⟨h.1, fun hn => by
    obtain ⟨g, o, e, hc⟩ := h.2 hn
    exact ⟨g, o, e, fun i cs hi => rangeAt.only (hc i cs hi) ho (hne g o hn e hc)⟩⟩
/-- Tags stay where a request's box is written. -/
theorem TsIn.st {b : Nat} {co : Cr} {v : Value} {s : Pl} {t : List (List UInt8)} (h : TsIn w s t) (hv : ∀ x : UInt8, v ≠ u8 x) (hb : Blk w b 26 [.int .i64 co.cl, .int .i64 co.sp, .int .i64 co.op, .string (ba co.lt), .int .i64 co.a, .int .i64 co.b, .string (ba co.tx), v]) (ho : w.grownBy w' (some b)) : TsIn w' s t :=
  ⟨h.1.st ho (fun g o hn _ hc e => by
    subst e
    have hl : 0 < t.length := by have := h.1.1; rw [List.length_map] at this; omega
    have ht : t[0]? = some t[0] := List.getElem?_eq_getElem hl
    have h32 := h.2.1 t[0] (List.getElem_mem hl)
    have h9 := hc 0 (vs t[0]) (by rw [List.getElem?_map, ht]; rfl) 0 (u8 (t[0][0]'(by omega))) (by unfold vs; rw [List.getElem?_map, List.getElem?_eq_getElem (by omega)]; rfl)
    rw [hb.cell] at h9
    generalize o + 0 * 32 + 0 = j at h9
    match j, h9 with
    | 0, h9 => simp [u8] at h9
    | 1, h9 => simp [u8] at h9
    | 2, h9 => simp [u8] at h9
    | 3, h9 => simp [u8] at h9
    | 4, h9 => simp [u8] at h9
    | 5, h9 => simp [u8] at h9
    | 6, h9 => simp [u8] at h9
    | 7, h9 => exact hv _ (Option.some.inj h9)
    | j + 8, h9 => simp at h9), h.2⟩
theorem EsIn.st {b : Nat} {co : Cr} {A' : Option Addr} {n' c' : Nat} {es : List En} (h : EsIn w A n es) (hb : Blk w b 26 [.int .i64 co.cl, .int .i64 co.sp, .int .i64 co.op, .string (ba co.lt), .int .i64 co.a, .int .i64 co.b, .string (ba co.tx), .slice A' n' c']) (ho : w.grownBy w' (some b)) : EsIn w' A n es := by
  obtain ⟨ss, h1, h2⟩ := h
  refine ⟨ss, h1.st ho (fun g o hn _ hc e => ?_), h2.mono fun _ _ h => h.st (fun x => by simp [u8]) hb ho⟩
  subst e
  have hl : 0 < (enR es ss).length := by rw [h1.1]; exact hn
  have hx : (enR es ss)[0]? = some (enR es ss)[0] := List.getElem?_eq_getElem hl
  obtain ⟨en, s, hes⟩ := enR_cells es ss _ (List.getElem_mem hl)
  rw [hes] at hx
  have h0 := hc 0 _ hx 0 (.int .i64 en.og) rfl
  have h9 := hc 0 _ hx 1 (.slice s.1 s.2.1 s.2.2) rfl
  rw [hb.cell] at h0 h9
  rw [show o + 0 * 2 + 1 = o + 0 * 2 + 0 + 1 by omega] at h9
  generalize o + 0 * 2 + 0 = j at h0 h9
  match j, h0, h9 with
  | 0, _, h9 => simp at h9
  | 1, _, h9 => simp at h9
  | 2, _, h9 => simp at h9
  | 3, h0, _ => simp at h0
  | 4, _, h9 => simp at h9
  | 5, _, h9 => simp at h9
  | 6, h0, _ => simp at h0
  | 7, h0, _ => simp at h0
  | j + 8, h0, _ => simp at h0
end
theorem withE_mem {es : List En} {x e : En} (h : e ∈ withE es x) : e = x ∨ e ∈ es := by
  unfold withE at h
  simp only [List.mem_append, List.mem_singleton] at h
  rcases h with (h | h) | h
  · exact .inr (List.mem_of_mem_take h)
  · exact .inl h
  · exact .inr (List.mem_of_mem_drop h)

theorem esign_all (g r1 r2 : Nat) (hqg : r2 ≤ g) (ts : List (List UInt8)) (org : Int) (co : Cr) (N : Int) (hl : co.lt.length ≤ 1000) (ht : co.tx.length ≤ 1000) (htl : ts.length ≤ 100000) (w : World) (hst : ISr w g r1 r2 [] ts) :
    Calls Try.prog 9 #[.iface 30 (.pointer (some ⟨g, 0, none⟩)), .int .i64 org, .int .i64 N, .agg #[.int .i64 co.cl, .int .i64 co.sp, .int .i64 co.op, .string (ba co.lt), .int .i64 co.a, .int .i64 co.b, .string (ba co.tx)]] w fun e w' => ∃ (A1 : Option Addr) (k c2 : Nat) (tg ts' : List (List UInt8)), e = .returned (.agg #[.int .i64 org, .slice A1 k c2]) ∧ TsIn w' (A1, k, c2) tg ∧ ISr w' g r1 r2 [] ts' ∧ KF r2 w w' ∧ ts'.length ≤ ts.length + 7 ∧ k ≤ 7 ∧ ((N < 1 ∨ 7 < N) → k = 0) ∧ (1 ≤ N → N ≤ 7 → 0 < k) := by
  by_cases hN : N < 1 ∨ 7 < N
  · refine (esign_idle g r1 r2 hqg [] ts org co N hN hl ht htl w hst).mono ?_
    rintro e w' ⟨A1, c2, rfl, h1, h2, h3⟩
    exact ⟨A1, 0, c2, _, _, rfl, h1, h2, h3, Nat.le_trans (accI_length _ _ _ _ _) (by omega), by omega, fun _ => rfl, fun _ _ => by omega⟩
  · obtain ⟨m, rfl⟩ : ∃ m : Nat, N = m := ⟨N.toNat, by omega⟩
    refine (esign_ideal g r1 r2 hqg [] ts org co m (by omega) (by omega) hl ht htl w hst).mono ?_
    rintro e w' ⟨A1, c2, rfl, h1, h2, h3⟩
    exact ⟨A1, m, c2, _, _, rfl, h1, h2, h3, Nat.le_trans (accI_length _ _ _ _ _) (by omega), by omega, fun h => by omega, fun _ _ => by omega⟩
end

section
open Go.RowKit

theorem step_convw {P : Program} {ops : Array Oper} {o : Oper} {a : Act} {w : World} {K : Act → World → Prop} {Q : Exit → Act → World → Prop} {E : Prop} (hw : Region.wanted o (yielded ops a.tmps) = true) (src dst : TypeId) (x : Operand) (ho : o.op = .convert src dst x)
    (p v : Value) (hx : a.eval x = p) (hrun : (convert src dst p).run P w = .ok v w) (h : K (a.put o.dst v) w) : if Region.wanted o (yielded ops a.tmps) = true then Oper.wp P o a w K Q else E := by
  rw [if_pos hw]
  unfold Oper.wp execOp
  simp only [ho, hx, Sem.run_bind, hrun, Result.andThen_ok]
  exact h

set_option maxHeartbeats 16000000 in
set_option maxRecDepth 100000 in
theorem endorsemasks_any (co : Cr) (es : List En) (A : Option Addr) (n c1 : Nat) (B : Option Addr) (k d : Nat) (sg : List Int) (N who : Int) (w : World) (h : EsIn w A n es) (hnc : n ≤ c1) (hc1 : c1 ≤ maxLen) (hs : Iv w (fun _ => True) B k sg) :
    Calls Try.prog 3 #[.agg #[.int .i64 co.cl, .int .i64 co.sp, .int .i64 co.op, .string (ba co.lt), .int .i64 co.a, .int .i64 co.b, .string (ba co.tx), .slice A n c1], .slice B k d, .int .i64 N, .int .i64 who] w fun e w' => e = .returned (.bool true) ∧ Below w.heap.size w w' := by
  have HFw : Hid (∀ W : World, EsIn W A n es → Calls Try.prog 7 #[.agg #[.int .i64 co.cl, .int .i64 co.sp, .int .i64 co.op, .string (ba co.lt), .int .i64 co.a, .int .i64 co.b, .string (ba co.tx), .slice A n c1]] W fun e w' => e = .returned (.bool (fewQ ⟨co, es⟩)) ∧ Below W.heap.size W w') := Lib.hid (fun W hE => few_any co es A n c1 W hE (Nat.le_trans hnc hc1))
  have HE := Lib.hid h
  have HNc0 := Lib.hid hnc
  have HSgn := Lib.hid hs
  have HX0 : Hid (Below w.heap.size w (w.alloc (.cells #[.int .i64 co.cl, .int .i64 co.sp, .int .i64 co.op, .string (ba co.lt), .int .i64 co.a, .int .i64 co.b, .string (ba co.tx), .slice A n c1] 26))) := Lib.hid (below1_ w _)
  have K0 : Hid (Blk (w.alloc (.cells #[.int .i64 co.cl, .int .i64 co.sp, .int .i64 co.op, .string (ba co.lt), .int .i64 co.a, .int .i64 co.b, .string (ba co.tx), .slice A n c1] 26)) w.heap.size 26 [.int .i64 co.cl, .int .i64 co.sp, .int .i64 co.op, .string (ba co.lt), .int .i64 co.a, .int .i64 co.b, .string (ba co.tx), .slice A n c1]) := Lib.hid (Blk.fresh rfl rfl)
  clear h hs hnc hc1
  cases hfw : fewQ ⟨co, es⟩ with
  | false =>
    rw [hfw] at HFw
    clear hfw
    go_enter Try.func3, Try.ntmps3
    go_wp2_with (first
      | (go_at_call 6; (with_reducible refine (fixed13_any _).mono ?_); rintro e w1 ⟨rfl, hb1⟩; have K1 := Lib.hid (K0.out.through hb1); have HX1 := Lib.hid (below_step HX0.out hb1); clear hb1)
      | (refine wpList_load_blk rfl 26 (.tmp 4) rfl w.heap.size rfl 26 [.int .i64 co.cl, .int .i64 co.sp, .int .i64 co.op, .string (ba co.lt), .int .i64 co.a, .int .i64 co.b, .string (ba co.tx), .slice A n c1] _ K1.out Try.underlying26 rfl (by kernel_rfl) ?_)
      | (go_at_call 7; (with_reducible refine (HFw.out _ (HE.out.through HX1.out)).mono ?_); rintro e w3 ⟨rfl, hb3⟩; have K3 := Lib.hid (K1.out.through hb3); have HX3 := Lib.hid (below_step HX1.out hb3); clear hb3))
    go_ret
    exact ⟨rfl, HX3.out⟩
  | true =>
  have hq := hfw
  rw [hfw] at HFw
  unfold fewQ at hq
  simp only [Bool.and_eq_true, decide_eq_true_eq, List.all_eq_true] at hq
  have HQ := Lib.hid hq
  have hl : co.lt.length ≤ 1000 := by have := hq.2.1.1; omega
  have ht : co.tx.length ≤ 1000 := by have := hq.2.1.2; omega
  clear hfw hq
  by_cases h1 : 10 < k
  · have d1 : decide ((10 : Int) < (k : Int)) = true := by simp; omega
    clear h1 hl ht
    go_enter Try.func3, Try.ntmps3
    go_wp2_with (first
      | (go_at_call 6; (with_reducible refine (fixed13_any _).mono ?_); rintro e w1 ⟨rfl, hb1⟩; have K1 := Lib.hid (K0.out.through hb1); have HX1 := Lib.hid (below_step HX0.out hb1); clear hb1)
      | (refine wpList_load_blk rfl 26 (.tmp 4) rfl w.heap.size rfl 26 [.int .i64 co.cl, .int .i64 co.sp, .int .i64 co.op, .string (ba co.lt), .int .i64 co.a, .int .i64 co.b, .string (ba co.tx), .slice A n c1] _ K1.out Try.underlying26 rfl (by kernel_rfl) ?_)
      | (go_at_call 7; (with_reducible refine (HFw.out _ (HE.out.through HX1.out)).mono ?_); rintro e w3 ⟨rfl, hb3⟩; have K3 := Lib.hid (K1.out.through hb3); have HX3 := Lib.hid (below_step HX1.out hb3); clear hb3))
    go_ret
    exact ⟨rfl, HX3.out⟩
  have d1 : decide ((10 : Int) < (k : Int)) = false := by simp; omega
  have hk10 : k ≤ 10 := by omega
  have HSg0 : Hid (∀ (g r1 r2 : Nat) (_ : r2 ≤ g) (u : Int) (ts : List (List UInt8)) (W : World), ISr W g r1 r2 [] ts → ts.length ≤ 100000 → Calls Try.prog 9 #[.iface 30 (.pointer (some ⟨g, 0, none⟩)), .int .i64 u, .int .i64 N, .agg #[.int .i64 co.cl, .int .i64 co.sp, .int .i64 co.op, .string (ba co.lt), .int .i64 co.a, .int .i64 co.b, .string (ba co.tx)]] W fun e w' => ∃ (A1 : Option Addr) (k c2 : Nat) (tg ts' : List (List UInt8)), e = .returned (.agg #[.int .i64 u, .slice A1 k c2]) ∧ TsIn w' (A1, k, c2) tg ∧ ISr w' g r1 r2 [] ts' ∧ KF r2 W w' ∧ ts'.length ≤ ts.length + 7 ∧ k ≤ 7 ∧ ((N < 1 ∨ 7 < N) → k = 0) ∧ (1 ≤ N → N ≤ 7 → 0 < k)) := Lib.hid (fun g r1 r2 hg u ts W hs hl2 => esign_all g r1 r2 hg ts u co N hl ht hl2 W hs)
  have HWi : Hid (∀ (es : List En) (A : Option Addr) (n c1 : Nat) (x : En) (B : Option Addr) (m d : Nat) (W : World), EsIn W A n es → TsIn W (B, m, d) x.ts → n ≤ 1000 → n ≤ c1 → (∀ e ∈ es, e.ts.length ≤ 1000000) → x.ts.length ≤ 1000000 → Calls Try.prog 10 #[.agg #[.int .i64 co.cl, .int .i64 co.sp, .int .i64 co.op, .string (ba co.lt), .int .i64 co.a, .int .i64 co.b, .string (ba co.tx), .slice A n c1], .agg #[.int .i64 x.og, .slice B m d]] W fun e w' => ∃ (A3 : Option Addr) (n3 c3 : Nat), e = .returned (.agg #[.int .i64 co.cl, .int .i64 co.sp, .int .i64 co.op, .string (ba co.lt), .int .i64 co.a, .int .i64 co.b, .string (ba co.tx), .slice A3 n3 c3]) ∧ EsIn w' A3 n3 (withE es x) ∧ n3 ≤ c3 ∧ c3 ≤ maxLen ∧ Below W.heap.size W w') := Lib.hid (fun es A n c1 x B m d W h1 h2 h3 h4 h5 h6 => with_any co es A n c1 x B m d W h1 h2 h3 h4 h5 h6)
  have HMk0 : Hid (∀ (g : Nat) (ts : List (List UInt8)) (es : List En) (A : Option Addr) (n c1 : Nat) (W : World), EsIn W A n es → n ≤ 1000000 → IS W g [] ts → ts.length < 1000000000 → Calls Try.prog 11 #[.iface 30 (.pointer (some ⟨g, 0, none⟩)), .agg #[.int .i64 co.cl, .int .i64 co.sp, .int .i64 co.op, .string (ba co.lt), .int .i64 co.a, .int .i64 co.b, .string (ba co.tx), .slice A n c1], .int .i64 N, .int .i64 who] W fun e w' => e = .returned (.int .u32 (maskF (fun o : Nat => inE (holdI ts (100 :: encCr co) who) es who (o : Int)) N : Nat)) ∧ Below W.heap.size W w') := Lib.hid (fun g ts es A n c1 W h1 h2 h3 h4 => imask_any g [] ts co es A n c1 N who W h1 h2 hl ht h3 h4)
  have HRm0 : Hid (∀ (g : Nat) (ts : List (List UInt8)) (es : List En) (A : Option Addr) (n c1 : Nat) (W : World), EsIn W A n es → n ≤ 1000000 → IS W g [] ts → ts.length < 1000000000 → Calls Try.prog 12 #[(.pointer (some ⟨g, 0, none⟩)), .agg #[.int .i64 co.cl, .int .i64 co.sp, .int .i64 co.op, .string (ba co.lt), .int .i64 co.a, .int .i64 co.b, .string (ba co.tx), .slice A n c1], .int .i64 N, .int .i64 who] W fun e w' => e = .returned (.int .u32 (maskF (fun o : Nat => inE (holdI ts (100 :: encCr co) who) es who (o : Int)) N : Nat)) ∧ Below W.heap.size W w') := Lib.hid (fun g ts es A n c1 W h1 h2 h3 h4 => rmask13_any g [] ts co es A n c1 N who W h1 h2 hl ht h3 h4)
  have HNm0 : Hid (∀ (es : List En) (A : Option Addr) (n c1 : Nat) (W : World), EsIn W A n es → n ≤ 1000000 → Calls Try.prog 11 #[.nilIface, .agg #[.int .i64 co.cl, .int .i64 co.sp, .int .i64 co.op, .string (ba co.lt), .int .i64 co.a, .int .i64 co.b, .string (ba co.tx), .slice A n c1], .int .i64 N, .int .i64 who] W fun e w' => e = .returned (.int .u32 0) ∧ Below W.heap.size W w') := Lib.hid (fun es A n c1 W h1 h2 => nmask_any co es A n c1 N who W h1 h2 hl ht)
  have HTx : Hid (∀ W, Calls Try.prog 13 #[.agg #[.int .i64 co.cl, .int .i64 co.sp, .int .i64 co.op, .string (ba co.lt), .int .i64 co.a, .int .i64 co.b, .string (ba co.tx)]] W fun e w' => ∃ T m d, e = .returned (.slice T m d) ∧ By w' (fun _ => True) T m (100 :: encCr co) ∧ Below W.heap.size W w') := Lib.hid (fun W => etext_any co W hl ht)
  have HTy : Hid (∀ W, Calls Try.prog 14 #[.agg #[.int .i64 co.cl, .int .i64 co.sp, .int .i64 co.op, .string (ba co.lt), .int .i64 co.a, .int .i64 co.b, .string (ba co.tx)]] W fun e w' => ∃ T m d, e = .returned (.slice T m d) ∧ By w' (fun _ => True) T m (100 :: encCr co) ∧ Below W.heap.size W w') := Lib.hid (fun W => rtext13_any co W hl ht)
  clear h1 hl ht
  go_enter Try.func3, Try.ntmps3
  go_wp2_with (first
    | (go_at_call 6; (with_reducible refine (fixed13_any _).mono ?_); rintro e w1 ⟨rfl, hb1⟩; have K1 := Lib.hid (K0.out.through hb1); have HX1 := Lib.hid (below_step HX0.out hb1); clear hb1)
    | (refine wpList_load_blk rfl 26 (.tmp 4) rfl w.heap.size rfl 26 [.int .i64 co.cl, .int .i64 co.sp, .int .i64 co.op, .string (ba co.lt), .int .i64 co.a, .int .i64 co.b, .string (ba co.tx), .slice A n c1] _ K1.out Try.underlying26 rfl (by kernel_rfl) ?_)
    | (go_at_call 7; (with_reducible refine (HFw.out _ (HE.out.through HX1.out)).mono ?_); rintro e w3 ⟨rfl, hb3⟩; have K3 := Lib.hid (K1.out.through hb3); have HX3 := Lib.hid (below_step HX1.out hb3); clear hb3)
    | (go_at_call 8; (with_reducible refine (inewr_any _).mono ?_); rintro e w4 ⟨g, r1, r2, rfl, hi4, hr4, hg4, hb4⟩; have HR4 : Hid (w.heap.size < r2) := Lib.hid (Nat.lt_of_lt_of_le K3.out.lt hr4); have HG4 := Lib.hid hg4; have HI4 := Lib.hid hi4; have K4 := Lib.hid (K3.out.through hb4); have HX4 := Lib.hid (below_step HX3.out hb4); clear hi4 hr4 hg4 hb4))
  have HSg : Hid (∀ (u : Int) (ts : List (List UInt8)) (W : World), ISr W g r1 r2 [] ts → ts.length ≤ 100000 → Calls Try.prog 9 #[.iface 30 (.pointer (some ⟨g, 0, none⟩)), .int .i64 u, .int .i64 N, .agg #[.int .i64 co.cl, .int .i64 co.sp, .int .i64 co.op, .string (ba co.lt), .int .i64 co.a, .int .i64 co.b, .string (ba co.tx)]] W fun e w' => ∃ (A1 : Option Addr) (k c2 : Nat) (tg ts' : List (List UInt8)), e = .returned (.agg #[.int .i64 u, .slice A1 k c2]) ∧ TsIn w' (A1, k, c2) tg ∧ ISr w' g r1 r2 [] ts' ∧ KF r2 W w' ∧ ts'.length ≤ ts.length + 7 ∧ k ≤ 7 ∧ ((N < 1 ∨ 7 < N) → k = 0) ∧ (1 ≤ N → N ≤ 7 → 0 < k)) := Lib.hid (fun u ts W => HSg0.out g r1 r2 HG4.out u ts W)
  go_loopw [26] (fun iv wr => ∃ (i : Nat) (es2 : List En) (A2 : Option Addr) (n2 c2 : Nat) (ts2 : List (List UInt8)), i ≤ k ∧ iv = .int .i64 (i : Int) ∧ Blk wr w.heap.size 26 [.int .i64 co.cl, .int .i64 co.sp, .int .i64 co.op, .string (ba co.lt), .int .i64 co.a, .int .i64 co.b, .string (ba co.tx), .slice A2 n2 c2] ∧ EsIn wr A2 n2 es2 ∧ n2 ≤ c2 ∧ n2 ≤ 20 + i ∧ (∀ e ∈ es2, e.ts.length ≤ 1000000) ∧ ISr wr g r1 r2 [] ts2 ∧ ts2.length ≤ 7 * i ∧ Below w.heap.size w wr) (fun iv _ => k - (intOf iv).toNat)
  case atStart => exact ⟨0, es, A, n, c1, [], Nat.zero_le _, rfl, K4.out, HE.out.through HX4.out, HNc0.out, by have := HQ.out.2.2; have := HE.out.len; omega, (fun e he => Nat.le_trans (HQ.out.1 e he) (by omega)), HI4.out, by simp, HX4.out⟩
  case round =>
    obtain ⟨i, es2, A2, n2, c2, ts2, hi, rfl, hkb, he2, hnc2, hn2, hm2, hi2, ht2, hx2⟩ := hrel
    have KB := Lib.hid hkb
    have HEi := Lib.hid he2
    have HNc := Lib.hid hnc2
    have HN2 : Hid (n2 ≤ 30) := Lib.hid (by omega)
    have HN2i := Lib.hid hn2
    have HM2 := Lib.hid hm2
    have KI := Lib.hid hi2
    have HTs := Lib.hid ht2
    have HTl : Hid (ts2.length ≤ 100000) := Lib.hid (by omega)
    have HX := Lib.hid hx2
    clear hkb he2 hnc2 hn2 hm2 hi2 ht2 hx2
    have HK10 : Hid (k ≤ 10) := Lib.hid hk10
    by_cases hlt : i < k
    · have HLt := Lib.hid hlt
      obtain ⟨gb, ob, rfl, _, hcell⟩ := (HSgn.out.through HX.out).cell (by omega)
      have hci := hcell i hlt
      generalize sg.getD i 0 = u at hci
      clear hcell
      have bu : (u != u) = false := by simp
      by_cases hN1 : N < 1
      · have dn1 : decide (N < 1) = true := by simpa using hN1
        go_wp2_with (first
          | (refine wpList_load_mid rfl 23 (.tmp 34) rfl w.heap.size 0 rfl [.int .i64 co.cl, .int .i64 co.sp, .int .i64 co.op, .string (ba co.lt), .int .i64 co.a, .int .i64 co.b, .string (ba co.tx)] _ (Blk.front (post := [.slice A2 n2 c2]) KB.out) Try.underlying23 rfl (by kernel_rfl) ?_)
          | (go_at_call 9; (with_reducible refine (HSg.out u ts2 _ KI.out HTl.out).mono ?_); rintro e w5 ⟨B1, k1, d1, tg, ts5, rfl, htg, hi5, hk5, hl5, hk7, hz5, hp5⟩; have HT5 := Lib.hid (htg.through (below1_ w5 (.cells #[.int .i64 u, .slice B1 k1 d1] 34))); have HI5 := Lib.hid (hi5.through (below1_ w5 (.cells #[.int .i64 u, .slice B1 k1 d1] 34))); have K5 : Hid (Blk (w5.alloc (.cells #[.int .i64 u, .slice B1 k1 d1] 34)) w.heap.size 26 [.int .i64 co.cl, .int .i64 co.sp, .int .i64 co.op, .string (ba co.lt), .int .i64 co.a, .int .i64 co.b, .string (ba co.tx), .slice A2 n2 c2]) := Lib.hid ((KB.out.kfI KI.out.2.2.1 hk5).alloc (.cells #[.int .i64 u, .slice B1 k1 d1] 34)); have HE5 := Lib.hid ((HEi.out.kfI KI.out.2.2.1 hk5).through (below1_ w5 (.cells #[.int .i64 u, .slice B1 k1 d1] 34))); have KE5 : Hid (Blk (w5.alloc (.cells #[.int .i64 u, .slice B1 k1 d1] 34)) w5.heap.size 34 [.int .i64 u, .slice B1 k1 d1]) := Lib.hid (Blk.fresh rfl rfl); have HX5 : Hid (Below w.heap.size w (w5.alloc (.cells #[.int .i64 u, .slice B1 k1 d1] 34))) := Lib.hid ((HX.out.trans (hk5.low.mono (Nat.le_of_lt HR4.out))).alloc (HX.out.trans (hk5.low.mono (Nat.le_of_lt HR4.out))).size (.cells #[.int .i64 u, .slice B1 k1 d1] 34)); have HL5 := Lib.hid hl5; have HK7 := Lib.hid hk7; have bz : ((k1 : Int) == 0) = true := (by rw [hz5 (.inl hN1)]; rfl); have ce0 : (w5.alloc (.cells #[.int .i64 u, .slice B1 k1 d1] 34)).cell? ⟨w5.heap.size, 0, none⟩ = some (.int .i64 u) := KE5.out.cellAt (i := 0) rfl; have ce1 : (w5.alloc (.cells #[.int .i64 u, .slice B1 k1 d1] 34)).cell? ⟨w5.heap.size, 1, none⟩ = some (.slice B1 k1 d1) := KE5.out.cellAt (i := 1) rfl; clear htg hi5 hk5 hl5 hk7 hz5 hp5)
          | (refine wpList_load_blk rfl 26 (.tmp 4) rfl w.heap.size rfl 26 [.int .i64 co.cl, .int .i64 co.sp, .int .i64 co.op, .string (ba co.lt), .int .i64 co.a, .int .i64 co.b, .string (ba co.tx), .slice A2 n2 c2] _ K5.out Try.underlying26 rfl (by kernel_rfl) ?_)
          | (refine wpList_load_blk rfl 34 (.tmp 12) rfl w5.heap.size rfl 34 [.int .i64 u, .slice B1 k1 d1] _ KE5.out Try.underlying34 rfl (by kernel_rfl) ?_)
          | (go_at_call 10; (with_reducible refine (HWi.out es2 A2 n2 c2 ⟨u, tg⟩ B1 k1 d1 _ HE5.out HT5.out (by have := HN2.out; omega) HNc.out HM2.out (by have := HT5.out.len; have := HK7.out; simp only at *; omega)).mono ?_); rintro e w6 ⟨A3, n3, c3, rfl, he6, hn6, hc6, hb6⟩; have HE6 := Lib.hid he6; have HN6 := Lib.hid hn6; have HI6 := Lib.hid (HI5.out.through hb6); have K6 := Lib.hid (K5.out.through hb6); have HX6 := Lib.hid (below_step HX5.out hb6); clear ce0 ce1 he6 hn6 hc6 hb6)
          | (refine wpList_store_blk rfl 26 (.tmp 4) (.tmp 56) rfl w.heap.size [.int .i64 co.cl, .int .i64 co.sp, .int .i64 co.op, .string (ba co.lt), .int .i64 co.a, .int .i64 co.b, .string (ba co.tx), .slice A3 n3 c3] rfl rfl 26 [.int .i64 co.cl, .int .i64 co.sp, .int .i64 co.op, .string (ba co.lt), .int .i64 co.a, .int .i64 co.b, .string (ba co.tx), .slice A2 n2 c2] K6.out (by kernel_rfl) rfl (one8 _ _ _ _ _ _ _ _ _ _) ?_; intro w7 hb7 hg7; have K7 := Lib.hid hb7; have HE7 := Lib.hid (HE6.out.st K6.out hg7); have HI7 := Lib.hid (HI6.out.cell ⟨_, _, _, K6.out⟩ hg7 (by have := HR4.out; have := HG4.out; omega)); have HX7 : Hid (Below w.heap.size w w7) := Lib.hid (HX6.out.grown hg7 HX6.out.size (fun k hk => by have := Option.some.inj hk; omega)); clear hb7 hg7))
        have hlt9 := HLt.out
        have hk9 := HK10.out
        go_roundw
        case rel => exact ⟨i + 1, withE es2 ⟨u, tg⟩, A3, n3, c3, ts5, by omega, by go_num, K7.out, HE7.out, HN6.out, by have h1 := HE7.out.len; have h2 := (withE_len es2 ⟨u, tg⟩).1; have h3 := HEi.out.len; have := HN2i.out; omega, (fun e he => by rcases withE_mem he with rfl | he; (· have h1 := HT5.out.len; have := HK7.out; simp only at h1; show tg.length ≤ 1000000; omega); exact HM2.out e he), HI7.out, by have := HL5.out; have := HTs.out; omega, HX7.out⟩
        case measure => simp [intOf]; omega

      have dn1 : decide (N < 1) = false := by simpa using hN1
      by_cases hN7 : 7 < N
      · have dn7 : decide (7 < N) = true := by simpa using hN7
        go_wp2_with (first
          | (refine wpList_load_mid rfl 23 (.tmp 34) rfl w.heap.size 0 rfl [.int .i64 co.cl, .int .i64 co.sp, .int .i64 co.op, .string (ba co.lt), .int .i64 co.a, .int .i64 co.b, .string (ba co.tx)] _ (Blk.front (post := [.slice A2 n2 c2]) KB.out) Try.underlying23 rfl (by kernel_rfl) ?_)
          | (go_at_call 9; (with_reducible refine (HSg.out u ts2 _ KI.out HTl.out).mono ?_); rintro e w5 ⟨B1, k1, d1, tg, ts5, rfl, htg, hi5, hk5, hl5, hk7, hz5, hp5⟩; have HT5 := Lib.hid (htg.through (below1_ w5 (.cells #[.int .i64 u, .slice B1 k1 d1] 34))); have HI5 := Lib.hid (hi5.through (below1_ w5 (.cells #[.int .i64 u, .slice B1 k1 d1] 34))); have K5 : Hid (Blk (w5.alloc (.cells #[.int .i64 u, .slice B1 k1 d1] 34)) w.heap.size 26 [.int .i64 co.cl, .int .i64 co.sp, .int .i64 co.op, .string (ba co.lt), .int .i64 co.a, .int .i64 co.b, .string (ba co.tx), .slice A2 n2 c2]) := Lib.hid ((KB.out.kfI KI.out.2.2.1 hk5).alloc (.cells #[.int .i64 u, .slice B1 k1 d1] 34)); have HE5 := Lib.hid ((HEi.out.kfI KI.out.2.2.1 hk5).through (below1_ w5 (.cells #[.int .i64 u, .slice B1 k1 d1] 34))); have KE5 : Hid (Blk (w5.alloc (.cells #[.int .i64 u, .slice B1 k1 d1] 34)) w5.heap.size 34 [.int .i64 u, .slice B1 k1 d1]) := Lib.hid (Blk.fresh rfl rfl); have HX5 : Hid (Below w.heap.size w (w5.alloc (.cells #[.int .i64 u, .slice B1 k1 d1] 34))) := Lib.hid ((HX.out.trans (hk5.low.mono (Nat.le_of_lt HR4.out))).alloc (HX.out.trans (hk5.low.mono (Nat.le_of_lt HR4.out))).size (.cells #[.int .i64 u, .slice B1 k1 d1] 34)); have HL5 := Lib.hid hl5; have HK7 := Lib.hid hk7; have bz : ((k1 : Int) == 0) = true := (by rw [hz5 (.inr hN7)]; rfl); have ce0 : (w5.alloc (.cells #[.int .i64 u, .slice B1 k1 d1] 34)).cell? ⟨w5.heap.size, 0, none⟩ = some (.int .i64 u) := KE5.out.cellAt (i := 0) rfl; have ce1 : (w5.alloc (.cells #[.int .i64 u, .slice B1 k1 d1] 34)).cell? ⟨w5.heap.size, 1, none⟩ = some (.slice B1 k1 d1) := KE5.out.cellAt (i := 1) rfl; clear htg hi5 hk5 hl5 hk7 hz5 hp5)
          | (refine wpList_load_blk rfl 26 (.tmp 4) rfl w.heap.size rfl 26 [.int .i64 co.cl, .int .i64 co.sp, .int .i64 co.op, .string (ba co.lt), .int .i64 co.a, .int .i64 co.b, .string (ba co.tx), .slice A2 n2 c2] _ K5.out Try.underlying26 rfl (by kernel_rfl) ?_)
          | (refine wpList_load_blk rfl 34 (.tmp 12) rfl w5.heap.size rfl 34 [.int .i64 u, .slice B1 k1 d1] _ KE5.out Try.underlying34 rfl (by kernel_rfl) ?_)
          | (go_at_call 10; (with_reducible refine (HWi.out es2 A2 n2 c2 ⟨u, tg⟩ B1 k1 d1 _ HE5.out HT5.out (by have := HN2.out; omega) HNc.out HM2.out (by have := HT5.out.len; have := HK7.out; simp only at *; omega)).mono ?_); rintro e w6 ⟨A3, n3, c3, rfl, he6, hn6, hc6, hb6⟩; have HE6 := Lib.hid he6; have HN6 := Lib.hid hn6; have HI6 := Lib.hid (HI5.out.through hb6); have K6 := Lib.hid (K5.out.through hb6); have HX6 := Lib.hid (below_step HX5.out hb6); clear ce0 ce1 he6 hn6 hc6 hb6)
          | (refine wpList_store_blk rfl 26 (.tmp 4) (.tmp 56) rfl w.heap.size [.int .i64 co.cl, .int .i64 co.sp, .int .i64 co.op, .string (ba co.lt), .int .i64 co.a, .int .i64 co.b, .string (ba co.tx), .slice A3 n3 c3] rfl rfl 26 [.int .i64 co.cl, .int .i64 co.sp, .int .i64 co.op, .string (ba co.lt), .int .i64 co.a, .int .i64 co.b, .string (ba co.tx), .slice A2 n2 c2] K6.out (by kernel_rfl) rfl (one8 _ _ _ _ _ _ _ _ _ _) ?_; intro w7 hb7 hg7; have K7 := Lib.hid hb7; have HE7 := Lib.hid (HE6.out.st K6.out hg7); have HI7 := Lib.hid (HI6.out.cell ⟨_, _, _, K6.out⟩ hg7 (by have := HR4.out; have := HG4.out; omega)); have HX7 : Hid (Below w.heap.size w w7) := Lib.hid (HX6.out.grown hg7 HX6.out.size (fun k hk => by have := Option.some.inj hk; omega)); clear hb7 hg7))
        have hlt9 := HLt.out
        have hk9 := HK10.out
        go_roundw
        case rel => exact ⟨i + 1, withE es2 ⟨u, tg⟩, A3, n3, c3, ts5, by omega, by go_num, K7.out, HE7.out, HN6.out, by have h1 := HE7.out.len; have h2 := (withE_len es2 ⟨u, tg⟩).1; have h3 := HEi.out.len; have := HN2i.out; omega, (fun e he => by rcases withE_mem he with rfl | he; (· have h1 := HT5.out.len; have := HK7.out; simp only at h1; show tg.length ≤ 1000000; omega); exact HM2.out e he), HI7.out, by have := HL5.out; have := HTs.out; omega, HX7.out⟩
        case measure => simp [intOf]; omega

      have dn7 : decide (7 < N) = false := by simpa using hN7
      go_wp2_with (first
        | (refine wpList_load_mid rfl 23 (.tmp 34) rfl w.heap.size 0 rfl [.int .i64 co.cl, .int .i64 co.sp, .int .i64 co.op, .string (ba co.lt), .int .i64 co.a, .int .i64 co.b, .string (ba co.tx)] _ (Blk.front (post := [.slice A2 n2 c2]) KB.out) Try.underlying23 rfl (by kernel_rfl) ?_)
        | (go_at_call 9; (with_reducible refine (HSg.out u ts2 _ KI.out HTl.out).mono ?_); rintro e w5 ⟨B1, k1, d1, tg, ts5, rfl, htg, hi5, hk5, hl5, hk7, hz5, hp5⟩; have HT5 := Lib.hid (htg.through (below1_ w5 (.cells #[.int .i64 u, .slice B1 k1 d1] 34))); have HI5 := Lib.hid (hi5.through (below1_ w5 (.cells #[.int .i64 u, .slice B1 k1 d1] 34))); have K5 : Hid (Blk (w5.alloc (.cells #[.int .i64 u, .slice B1 k1 d1] 34)) w.heap.size 26 [.int .i64 co.cl, .int .i64 co.sp, .int .i64 co.op, .string (ba co.lt), .int .i64 co.a, .int .i64 co.b, .string (ba co.tx), .slice A2 n2 c2]) := Lib.hid ((KB.out.kfI KI.out.2.2.1 hk5).alloc (.cells #[.int .i64 u, .slice B1 k1 d1] 34)); have HE5 := Lib.hid ((HEi.out.kfI KI.out.2.2.1 hk5).through (below1_ w5 (.cells #[.int .i64 u, .slice B1 k1 d1] 34))); have KE5 : Hid (Blk (w5.alloc (.cells #[.int .i64 u, .slice B1 k1 d1] 34)) w5.heap.size 34 [.int .i64 u, .slice B1 k1 d1]) := Lib.hid (Blk.fresh rfl rfl); have HX5 : Hid (Below w.heap.size w (w5.alloc (.cells #[.int .i64 u, .slice B1 k1 d1] 34))) := Lib.hid ((HX.out.trans (hk5.low.mono (Nat.le_of_lt HR4.out))).alloc (HX.out.trans (hk5.low.mono (Nat.le_of_lt HR4.out))).size (.cells #[.int .i64 u, .slice B1 k1 d1] 34)); have HL5 := Lib.hid hl5; have HK7 := Lib.hid hk7; have bz : ((k1 : Int) == 0) = false := (by have := hp5 (by omega) (by omega); simp; omega); have ce0 : (w5.alloc (.cells #[.int .i64 u, .slice B1 k1 d1] 34)).cell? ⟨w5.heap.size, 0, none⟩ = some (.int .i64 u) := KE5.out.cellAt (i := 0) rfl; have ce1 : (w5.alloc (.cells #[.int .i64 u, .slice B1 k1 d1] 34)).cell? ⟨w5.heap.size, 1, none⟩ = some (.slice B1 k1 d1) := KE5.out.cellAt (i := 1) rfl; clear htg hi5 hk5 hl5 hk7 hz5 hp5)
        | (refine wpList_load_blk rfl 26 (.tmp 4) rfl w.heap.size rfl 26 [.int .i64 co.cl, .int .i64 co.sp, .int .i64 co.op, .string (ba co.lt), .int .i64 co.a, .int .i64 co.b, .string (ba co.tx), .slice A2 n2 c2] _ K5.out Try.underlying26 rfl (by kernel_rfl) ?_)
        | (refine wpList_load_blk rfl 34 (.tmp 12) rfl w5.heap.size rfl 34 [.int .i64 u, .slice B1 k1 d1] _ KE5.out Try.underlying34 rfl (by kernel_rfl) ?_)
        | (go_at_call 10; (with_reducible refine (HWi.out es2 A2 n2 c2 ⟨u, tg⟩ B1 k1 d1 _ HE5.out HT5.out (by have := HN2.out; omega) HNc.out HM2.out (by have := HT5.out.len; have := HK7.out; simp only at *; omega)).mono ?_); rintro e w6 ⟨A3, n3, c3, rfl, he6, hn6, hc6, hb6⟩; have HE6 := Lib.hid he6; have HN6 := Lib.hid hn6; have HI6 := Lib.hid (HI5.out.through hb6); have K6 := Lib.hid (K5.out.through hb6); have HX6 := Lib.hid (below_step HX5.out hb6); clear ce0 ce1 he6 hn6 hc6 hb6)
        | (refine wpList_store_blk rfl 26 (.tmp 4) (.tmp 56) rfl w.heap.size [.int .i64 co.cl, .int .i64 co.sp, .int .i64 co.op, .string (ba co.lt), .int .i64 co.a, .int .i64 co.b, .string (ba co.tx), .slice A3 n3 c3] rfl rfl 26 [.int .i64 co.cl, .int .i64 co.sp, .int .i64 co.op, .string (ba co.lt), .int .i64 co.a, .int .i64 co.b, .string (ba co.tx), .slice A2 n2 c2] K6.out (by kernel_rfl) rfl (one8 _ _ _ _ _ _ _ _ _ _) ?_; intro w7 hb7 hg7; have K7 := Lib.hid hb7; have HE7 := Lib.hid (HE6.out.st K6.out hg7); have HI7 := Lib.hid (HI6.out.cell ⟨_, _, _, K6.out⟩ hg7 (by have := HR4.out; have := HG4.out; omega)); have HX7 : Hid (Below w.heap.size w w7) := Lib.hid (HX6.out.grown hg7 HX6.out.size (fun k hk => by have := Option.some.inj hk; omega)); clear hb7 hg7))
      have hlt9 := HLt.out
      have hk9 := HK10.out
      go_roundw
      case rel => exact ⟨i + 1, withE es2 ⟨u, tg⟩, A3, n3, c3, ts5, by omega, by go_num, K7.out, HE7.out, HN6.out, by have h1 := HE7.out.len; have h2 := (withE_len es2 ⟨u, tg⟩).1; have h3 := HEi.out.len; have := HN2i.out; omega, (fun e he => by rcases withE_mem he with rfl | he; (· have h1 := HT5.out.len; have := HK7.out; simp only at h1; show tg.length ≤ 1000000; omega); exact HM2.out e he), HI7.out, by have := HL5.out; have := HTs.out; omega, HX7.out⟩
      case measure => simp [intOf]; omega

    have HMk : Hid (∀ W, Below wr.heap.size wr W → Calls Try.prog 11 #[.iface 30 (.pointer (some ⟨g, 0, none⟩)), .agg #[.int .i64 co.cl, .int .i64 co.sp, .int .i64 co.op, .string (ba co.lt), .int .i64 co.a, .int .i64 co.b, .string (ba co.tx), .slice A2 n2 c2], .int .i64 N, .int .i64 who] W fun e w' => e = .returned (.int .u32 (maskF (fun o : Nat => inE (holdI ts2 (100 :: encCr co) who) es2 who (o : Int)) N : Nat)) ∧ Below W.heap.size W w') := Lib.hid (fun W hW => HMk0.out g ts2 es2 A2 n2 c2 W (HEi.out.through hW) (by have := HN2.out; omega) (KI.out.is.through hW) (by have := HTl.out; omega))
    have HRm : Hid (∀ W, Below wr.heap.size wr W → Calls Try.prog 12 #[(.pointer (some ⟨g, 0, none⟩)), .agg #[.int .i64 co.cl, .int .i64 co.sp, .int .i64 co.op, .string (ba co.lt), .int .i64 co.a, .int .i64 co.b, .string (ba co.tx), .slice A2 n2 c2], .int .i64 N, .int .i64 who] W fun e w' => e = .returned (.int .u32 (maskF (fun o : Nat => inE (holdI ts2 (100 :: encCr co) who) es2 who (o : Int)) N : Nat)) ∧ Below W.heap.size W w') := Lib.hid (fun W hW => HRm0.out g ts2 es2 A2 n2 c2 W (HEi.out.through hW) (by have := HN2.out; omega) (KI.out.is.through hW) (by have := HTl.out; omega))
    have HNm : Hid (∀ W, Below wr.heap.size wr W → Calls Try.prog 11 #[.nilIface, .agg #[.int .i64 co.cl, .int .i64 co.sp, .int .i64 co.op, .string (ba co.lt), .int .i64 co.a, .int .i64 co.b, .string (ba co.tx), .slice A2 n2 c2], .int .i64 N, .int .i64 who] W fun e w' => e = .returned (.int .u32 0) ∧ Below W.heap.size W w') := Lib.hid (fun W hW => HNm0.out es2 A2 n2 c2 W (HEi.out.through hW) (by have := HN2.out; omega))
    generalize maskF (fun o : Nat => inE (holdI ts2 (100 :: encCr co) who) es2 who (o : Int)) N = M at HMk HRm
    go_wp2
    try dsimp only [Act.put]
    refine wp_region_held_drew (S := fun W => Below wr.heap.size wr W) (by kernel_rfl) (Below.refl _ _).drew (fun hHeld => ?_)
    change wpAnyH _ _ _ _ _ _ #[false, false, false, false, false, false, false, false, false, false, false, false, false, false, false, false, false, false, false, false, false, false, false, false, false, false, false, false, false, false, false] _ _
    refine wpAnyH_take (i := 0) (v := (.pointer (some ⟨g, 0, none⟩))) rfl (by kernel_rfl) (by kernel_rfl) (by kernel_rfl) (fun _ _ _ h => h) (Or.inl ⟨by kernel_rfl, fun w hSw => ?_⟩) (by assumption) ?_
    · (try dsimp only at hSw); go_simp <;> (try rfl)
    change wpAnyH _ _ _ _ _ _ _ (Act.put _ (some (58 : Nat)) (.pointer (some ⟨g, 0, none⟩))) _
    simp only [Act.put, List.setIfInBounds_toArray, List.set_cons_zero, List.set_cons_succ]
    refine wpAnyH_take (i := 1) (v := (.iface 30 (.pointer (some ⟨g, 0, none⟩)))) rfl (by kernel_rfl) (by kernel_rfl) (by kernel_rfl) (fun _ _ _ h => h) (Or.inl ⟨by kernel_rfl, fun w hSw => ?_⟩) (by assumption) ?_
    · (try dsimp only at hSw); go_simp <;> (try rfl)
    change wpAnyH _ _ _ _ _ _ _ (Act.put _ (some (59 : Nat)) (.iface 30 (.pointer (some ⟨g, 0, none⟩)))) _
    simp only [Act.put, List.setIfInBounds_toArray, List.set_cons_zero, List.set_cons_succ]
    refine wpAnyH_take (i := 2) (v := (.agg #[.int .i64 co.cl, .int .i64 co.sp, .int .i64 co.op, .string (ba co.lt), .int .i64 co.a, .int .i64 co.b, .string (ba co.tx), .slice A2 n2 c2])) rfl (by kernel_rfl) (by kernel_rfl) (by kernel_rfl) (fun _ _ _ h => h) (yieldsIf_load_mid (by kernel_rfl) 26 (.tmp 4) rfl w.heap.size 0 (by simp [Act.eval]) [.int .i64 co.cl, .int .i64 co.sp, .int .i64 co.op, .string (ba co.lt), .int .i64 co.a, .int .i64 co.b, .string (ba co.tx), .slice A2 n2 c2] _ (fun W hW => range_through (Blk.front (post := []) KB.out) hW) Try.underlying26 rfl (by kernel_rfl)) (by assumption) ?_
    change wpAnyH _ _ _ _ _ _ _ (Act.put _ (some (60 : Nat)) (.agg #[.int .i64 co.cl, .int .i64 co.sp, .int .i64 co.op, .string (ba co.lt), .int .i64 co.a, .int .i64 co.b, .string (ba co.tx), .slice A2 n2 c2])) _
    simp only [Act.put, List.setIfInBounds_toArray, List.set_cons_zero, List.set_cons_succ]
    refine wpAnyH_take (i := 3) (v := (.int .i64 N)) rfl (by kernel_rfl) (by kernel_rfl) (by kernel_rfl) (fun _ _ _ h => h) (Or.inl ⟨by kernel_rfl, fun w hSw => ?_⟩) (by assumption) ?_
    · (try dsimp only at hSw); go_simp <;> (try rfl)
    change wpAnyH _ _ _ _ _ _ _ (Act.put _ (some (61 : Nat)) (.int .i64 N)) _
    simp only [Act.put, List.setIfInBounds_toArray, List.set_cons_zero, List.set_cons_succ]
    refine wpAnyH_take (i := 4) (v := (.int .i64 who)) rfl (by kernel_rfl) (by kernel_rfl) (by kernel_rfl) (fun _ _ _ h => h) (Or.inl ⟨by kernel_rfl, fun w hSw => ?_⟩) (by assumption) ?_
    · (try dsimp only at hSw); go_simp <;> (try rfl)
    change wpAnyH _ _ _ _ _ _ _ (Act.put _ (some (62 : Nat)) (.int .i64 who)) _
    simp only [Act.put, List.setIfInBounds_toArray, List.set_cons_zero, List.set_cons_succ]
    refine wpAnyH_take (i := 6) (v := (.pointer (some ⟨g, 0, none⟩))) rfl (by kernel_rfl) (by kernel_rfl) (by kernel_rfl) (fun _ _ _ h => h) (Or.inl ⟨by kernel_rfl, fun w hSw => ?_⟩) (by assumption) ?_
    · (try dsimp only at hSw); go_simp <;> (try rfl)
    change wpAnyH _ _ _ _ _ _ _ (Act.put _ (some (64 : Nat)) (.pointer (some ⟨g, 0, none⟩))) _
    simp only [Act.put, List.setIfInBounds_toArray, List.set_cons_zero, List.set_cons_succ]
    refine wpAnyH_take (i := 7) (v := (.agg #[.int .i64 co.cl, .int .i64 co.sp, .int .i64 co.op, .string (ba co.lt), .int .i64 co.a, .int .i64 co.b, .string (ba co.tx), .slice A2 n2 c2])) rfl (by kernel_rfl) (by kernel_rfl) (by kernel_rfl) (fun _ _ _ h => h) (yieldsIf_load_mid (by kernel_rfl) 26 (.tmp 4) rfl w.heap.size 0 (by simp [Act.eval]) [.int .i64 co.cl, .int .i64 co.sp, .int .i64 co.op, .string (ba co.lt), .int .i64 co.a, .int .i64 co.b, .string (ba co.tx), .slice A2 n2 c2] _ (fun W hW => range_through (Blk.front (post := []) KB.out) hW) Try.underlying26 rfl (by kernel_rfl)) (by assumption) ?_
    change wpAnyH _ _ _ _ _ _ _ (Act.put _ (some (65 : Nat)) (.agg #[.int .i64 co.cl, .int .i64 co.sp, .int .i64 co.op, .string (ba co.lt), .int .i64 co.a, .int .i64 co.b, .string (ba co.tx), .slice A2 n2 c2])) _
    simp only [Act.put, List.setIfInBounds_toArray, List.set_cons_zero, List.set_cons_succ]
    refine wpAnyH_take (i := 8) (v := (.int .i64 N)) rfl (by kernel_rfl) (by kernel_rfl) (by kernel_rfl) (fun _ _ _ h => h) (Or.inl ⟨by kernel_rfl, fun w hSw => ?_⟩) (by assumption) ?_
    · (try dsimp only at hSw); go_simp <;> (try rfl)
    change wpAnyH _ _ _ _ _ _ _ (Act.put _ (some (66 : Nat)) (.int .i64 N)) _
    simp only [Act.put, List.setIfInBounds_toArray, List.set_cons_zero, List.set_cons_succ]
    refine wpAnyH_take (i := 9) (v := (.int .i64 who)) rfl (by kernel_rfl) (by kernel_rfl) (by kernel_rfl) (fun _ _ _ h => h) (Or.inl ⟨by kernel_rfl, fun w hSw => ?_⟩) (by assumption) ?_
    · (try dsimp only at hSw); go_simp <;> (try rfl)
    change wpAnyH _ _ _ _ _ _ _ (Act.put _ (some (67 : Nat)) (.int .i64 who)) _
    simp only [Act.put, List.setIfInBounds_toArray, List.set_cons_zero, List.set_cons_succ]
    refine wpAnyH_ready (rs := [5]) (by kernel_rfl) (by simp) ?_
    refine AllReadyH.cons rfl (fun K hK => ?_) AllReadyH.nil
    go_simp
    refine (HMk.out _ hHeld).mono ?_
    rintro e wa ⟨rfl, hba⟩; have HKa := Lib.hid (below_step hHeld hba); clear hba
    go_wp2_with fail
    refine hK.out _ _ HKa.out (fun hHeld1 => ?_)
    clear hHeld hK K
    have hHeld := hHeld1
    clear hHeld1
    refine wpAnyH_ready (rs := [10]) (by kernel_rfl) (by simp) ?_
    refine AllReadyH.cons rfl (fun K hK => ?_) AllReadyH.nil
    go_simp
    refine (HRm.out _ hHeld).mono ?_
    rintro e wb ⟨rfl, hbb⟩; have HKb := Lib.hid (below_step hHeld hbb); clear hbb
    go_wp2_with fail
    refine hK.out _ _ HKb.out (fun hHeld1 => ?_)
    clear hHeld hK K
    have hHeld := hHeld1
    clear hHeld1
    refine wpAnyH_take (i := 11) (v := (.bool true)) rfl (by kernel_rfl) (by kernel_rfl) (by kernel_rfl) (fun _ _ _ h => h) (Or.inl ⟨by kernel_rfl, fun w hSw => ?_⟩) (by assumption) ?_
    · (try dsimp only at hSw); go_simp <;> (try rfl)
    change wpAnyH _ _ _ _ _ _ _ (Act.put _ (some (69 : Nat)) (.bool true)) _
    simp only [Act.put, List.setIfInBounds_toArray, List.set_cons_zero, List.set_cons_succ]
    refine wpAnyH_take (i := 12) (v := (.bool true)) rfl (by kernel_rfl) (by kernel_rfl) (by kernel_rfl) (fun _ _ _ h => h) (Or.inl ⟨by kernel_rfl, fun w hSw => ?_⟩) (by assumption) ?_
    · (try dsimp only at hSw); go_simp <;> (try rfl)
    change wpAnyH _ _ _ _ _ _ _ (Act.put _ (some (70 : Nat)) (.bool true)) _
    simp only [Act.put, List.setIfInBounds_toArray, List.set_cons_zero, List.set_cons_succ]
    refine wpAnyH_take (i := 13) (v := (.agg #[.int .i64 co.cl, .int .i64 co.sp, .int .i64 co.op, .string (ba co.lt), .int .i64 co.a, .int .i64 co.b, .string (ba co.tx), .slice A2 n2 c2])) rfl (by kernel_rfl) (by kernel_rfl) (by kernel_rfl) (fun _ _ _ h => h) (yieldsIf_load_mid (by kernel_rfl) 26 (.tmp 4) rfl w.heap.size 0 (by simp [Act.eval]) [.int .i64 co.cl, .int .i64 co.sp, .int .i64 co.op, .string (ba co.lt), .int .i64 co.a, .int .i64 co.b, .string (ba co.tx), .slice A2 n2 c2] _ (fun W hW => range_through (Blk.front (post := []) KB.out) hW) Try.underlying26 rfl (by kernel_rfl)) (by assumption) ?_
    change wpAnyH _ _ _ _ _ _ _ (Act.put _ (some (71 : Nat)) (.agg #[.int .i64 co.cl, .int .i64 co.sp, .int .i64 co.op, .string (ba co.lt), .int .i64 co.a, .int .i64 co.b, .string (ba co.tx), .slice A2 n2 c2])) _
    simp only [Act.put, List.setIfInBounds_toArray, List.set_cons_zero, List.set_cons_succ]
    refine wpAnyH_take (i := 14) (v := (.int .i64 N)) rfl (by kernel_rfl) (by kernel_rfl) (by kernel_rfl) (fun _ _ _ h => h) (Or.inl ⟨by kernel_rfl, fun w hSw => ?_⟩) (by assumption) ?_
    · (try dsimp only at hSw); go_simp <;> (try rfl)
    change wpAnyH _ _ _ _ _ _ _ (Act.put _ (some (72 : Nat)) (.int .i64 N)) _
    simp only [Act.put, List.setIfInBounds_toArray, List.set_cons_zero, List.set_cons_succ]
    refine wpAnyH_take (i := 15) (v := (.int .i64 who)) rfl (by kernel_rfl) (by kernel_rfl) (by kernel_rfl) (fun _ _ _ h => h) (Or.inl ⟨by kernel_rfl, fun w hSw => ?_⟩) (by assumption) ?_
    · (try dsimp only at hSw); go_simp <;> (try rfl)
    change wpAnyH _ _ _ _ _ _ _ (Act.put _ (some (73 : Nat)) (.int .i64 who)) _
    simp only [Act.put, List.setIfInBounds_toArray, List.set_cons_zero, List.set_cons_succ]
    refine wpAnyH_ready (rs := [16]) (by kernel_rfl) (by simp) ?_
    refine AllReadyH.cons rfl (fun K hK => ?_) AllReadyH.nil
    go_simp
    refine (HNm.out _ hHeld).mono ?_
    rintro e wc ⟨rfl, hbc⟩; have HKc := Lib.hid (below_step hHeld hbc); clear hbc
    go_wp2_with fail
    refine hK.out _ _ HKc.out (fun hHeld1 => ?_)
    clear hHeld hK K
    have hHeld := hHeld1
    clear hHeld1
    refine wpAnyH_take (i := 17) (v := (.bool true)) rfl (by kernel_rfl) (by kernel_rfl) (by kernel_rfl) (fun _ _ _ h => h) (Or.inl ⟨by kernel_rfl, fun w hSw => ?_⟩) (by assumption) ?_
    · (try dsimp only at hSw); go_simp <;> (try rfl)
    change wpAnyH _ _ _ _ _ _ _ (Act.put _ (some (75 : Nat)) (.bool true)) _
    simp only [Act.put, List.setIfInBounds_toArray, List.set_cons_zero, List.set_cons_succ]
    refine wpAnyH_take (i := 18) (v := (.bool true)) rfl (by kernel_rfl) (by kernel_rfl) (by kernel_rfl) (fun _ _ _ h => h) (Or.inl ⟨by kernel_rfl, fun w hSw => ?_⟩) (by assumption) ?_
    · (try dsimp only at hSw); go_simp <;> (try rfl)
    change wpAnyH _ _ _ _ _ _ _ (Act.put _ (some (76 : Nat)) (.bool true)) _
    simp only [Act.put, List.setIfInBounds_toArray, List.set_cons_zero, List.set_cons_succ]
    refine wpAnyH_take (i := 19) (v := (.bool true)) rfl (by kernel_rfl) (by kernel_rfl) (by kernel_rfl) (fun _ _ _ h => h) (Or.inl ⟨by kernel_rfl, fun w hSw => ?_⟩) (by assumption) ?_
    · (try dsimp only at hSw); go_simp <;> (try rfl)
    change wpAnyH _ _ _ _ _ _ _ (Act.put _ (some (77 : Nat)) (.bool true)) _
    simp only [Act.put, List.setIfInBounds_toArray, List.set_cons_zero, List.set_cons_succ]
    refine wpAnyH_take (i := 20) (v := (.pointer (some ⟨w.heap.size, 0, none⟩))) rfl (by kernel_rfl) (by kernel_rfl) (by kernel_rfl) (fun _ _ _ h => h) (Or.inl ⟨by kernel_rfl, fun w hSw => ?_⟩) (by assumption) ?_
    · (try dsimp only at hSw); go_simp <;> (try rfl)
    change wpAnyH _ _ _ _ _ _ _ (Act.put _ (some (78 : Nat)) (.pointer (some ⟨w.heap.size, 0, none⟩))) _
    simp only [Act.put, List.setIfInBounds_toArray, List.set_cons_zero, List.set_cons_succ]
    refine wpAnyH_take (i := 21) (v := (.agg #[.int .i64 co.cl, .int .i64 co.sp, .int .i64 co.op, .string (ba co.lt), .int .i64 co.a, .int .i64 co.b, .string (ba co.tx)])) rfl (by kernel_rfl) (by kernel_rfl) (by kernel_rfl) (fun _ _ _ h => h) (yieldsIf_load_mid (by kernel_rfl) 23 (.tmp 78) rfl w.heap.size 0 (by simp [Act.eval]) [.int .i64 co.cl, .int .i64 co.sp, .int .i64 co.op, .string (ba co.lt), .int .i64 co.a, .int .i64 co.b, .string (ba co.tx)] _ (fun W hW => range_through (Blk.front (post := [.slice A2 n2 c2]) KB.out) hW) Try.underlying23 rfl (by kernel_rfl)) (by assumption) ?_
    change wpAnyH _ _ _ _ _ _ _ (Act.put _ (some (79 : Nat)) (.agg #[.int .i64 co.cl, .int .i64 co.sp, .int .i64 co.op, .string (ba co.lt), .int .i64 co.a, .int .i64 co.b, .string (ba co.tx)])) _
    simp only [Act.put, List.setIfInBounds_toArray, List.set_cons_zero, List.set_cons_succ]
    refine wpAnyH_take (i := 24) (v := (.pointer (some ⟨w.heap.size, 0, none⟩))) rfl (by kernel_rfl) (by kernel_rfl) (by kernel_rfl) (fun _ _ _ h => h) (Or.inl ⟨by kernel_rfl, fun w hSw => ?_⟩) (by assumption) ?_
    · (try dsimp only at hSw); go_simp <;> (try rfl)
    change wpAnyH _ _ _ _ _ _ _ (Act.put _ (some (82 : Nat)) (.pointer (some ⟨w.heap.size, 0, none⟩))) _
    simp only [Act.put, List.setIfInBounds_toArray, List.set_cons_zero, List.set_cons_succ]
    refine wpAnyH_take (i := 25) (v := (.agg #[.int .i64 co.cl, .int .i64 co.sp, .int .i64 co.op, .string (ba co.lt), .int .i64 co.a, .int .i64 co.b, .string (ba co.tx)])) rfl (by kernel_rfl) (by kernel_rfl) (by kernel_rfl) (fun _ _ _ h => h) (yieldsIf_load_mid (by kernel_rfl) 23 (.tmp 82) rfl w.heap.size 0 (by simp [Act.eval]) [.int .i64 co.cl, .int .i64 co.sp, .int .i64 co.op, .string (ba co.lt), .int .i64 co.a, .int .i64 co.b, .string (ba co.tx)] _ (fun W hW => range_through (Blk.front (post := [.slice A2 n2 c2]) KB.out) hW) Try.underlying23 rfl (by kernel_rfl)) (by assumption) ?_
    change wpAnyH _ _ _ _ _ _ _ (Act.put _ (some (83 : Nat)) (.agg #[.int .i64 co.cl, .int .i64 co.sp, .int .i64 co.op, .string (ba co.lt), .int .i64 co.a, .int .i64 co.b, .string (ba co.tx)])) _
    simp only [Act.put, List.setIfInBounds_toArray, List.set_cons_zero, List.set_cons_succ]
    refine wpAnyH_ready (rs := [22]) (by kernel_rfl) (by simp) ?_
    refine AllReadyH.cons rfl (fun K hK => ?_) AllReadyH.nil
    go_simp
    refine (HTx.out _).mono ?_
    rintro e wd ⟨Td, md, dd, rfl, hyd, hbd⟩; have HYd := Lib.hid hyd; have HKd := Lib.hid (below_step hHeld hbd); clear hyd hbd
    go_wp2_with fail
    refine hK.out _ _ HKd.out (fun hHeld1 => ?_)
    clear hHeld hK K
    have hHeld := hHeld1
    clear hHeld1
    refine wpAnyH_ready (rs := [23, 26]) (by kernel_rfl) (by simp) ?_
    refine AllReadyH.cons (o := ⟨some 81, .convert 40 9 (.tmp 80), _, _, _, some (19, true)⟩) rfl (fun K hK => ?_) (AllReadyH.cons rfl (fun K hK => ?_) AllReadyH.nil)
    · as_aux_lemma =>
      refine step_convw (by kernel_rfl) 40 9 (.tmp 80) rfl (.slice Td md dd) (.string (ba (100 :: encCr co))) (by simp [Act.eval]) (run_string_by _ 40 9 5 Try.underlying40 Try.underlying5 Try.underlying9 _ _ _ _ _ HYd.out) ?_
      refine hK.out _ _ hHeld (fun hHeld1 => ?_)
      clear hHeld hK K
      have hHeld := hHeld1
      clear hHeld1
      change wpAnyH _ _ _ _ _ _ _ (Act.put _ (some (81 : Nat)) (.string (ba (100 :: encCr co)))) _
      simp only [Act.put, List.setIfInBounds_toArray, List.set_cons_zero, List.set_cons_succ]
      refine wpAnyH_ready (rs := [26]) (by kernel_rfl) (by simp) ?_
      refine AllReadyH.cons rfl (fun K hK => ?_) AllReadyH.nil
      go_simp
      refine (HTy.out _).mono ?_
      rintro e we ⟨Te, me, de, rfl, hye, hbe⟩; have HYe := Lib.hid hye; have HKe := Lib.hid (below_step hHeld hbe); clear hye hbe
      go_wp2_with fail
      refine hK.out _ _ HKe.out (fun hHeld1 => ?_)
      clear hHeld hK K
      have hHeld := hHeld1
      clear hHeld1
      refine wpAnyH_ready (rs := [27]) (by kernel_rfl) (by simp) ?_
      refine AllReadyH.cons (o := ⟨some 85, .convert 40 9 (.tmp 84), _, _, _, some (19, true)⟩) rfl (fun K hK => ?_) AllReadyH.nil
      refine step_convw (by kernel_rfl) 40 9 (.tmp 84) rfl (.slice Te me de) (.string (ba (100 :: encCr co))) (by simp [Act.eval]) (run_string_by _ 40 9 5 Try.underlying40 Try.underlying5 Try.underlying9 _ _ _ _ _ HYe.out) ?_
      refine hK.out _ _ hHeld (fun hHeld1 => ?_)
      clear hHeld hK K
      have hHeld := hHeld1
      clear hHeld1
      change wpAnyH _ _ _ _ _ _ _ (Act.put _ (some (85 : Nat)) (.string (ba (100 :: encCr co)))) _
      simp only [Act.put, List.setIfInBounds_toArray, List.set_cons_zero, List.set_cons_succ]
      refine wpAnyH_take (i := 28) (v := (.bool true)) rfl (by kernel_rfl) (by kernel_rfl) (by kernel_rfl) (fun _ _ _ h => h) (Or.inl ⟨by kernel_rfl, fun w hSw => ?_⟩) (by assumption) ?_
      · (try dsimp only at hSw); go_simp <;> (try rfl)
      change wpAnyH _ _ _ _ _ _ _ (Act.put _ (some (86 : Nat)) (.bool true)) _
      simp only [Act.put, List.setIfInBounds_toArray, List.set_cons_zero, List.set_cons_succ]
      refine wpAnyH_take (i := 29) (v := (.bool true)) rfl (by kernel_rfl) (by kernel_rfl) (by kernel_rfl) (fun _ _ _ h => h) (Or.inl ⟨by kernel_rfl, fun w hSw => ?_⟩) (by assumption) ?_
      · (try dsimp only at hSw); go_simp <;> (try rfl)
      change wpAnyH _ _ _ _ _ _ _ (Act.put _ (some (87 : Nat)) (.bool true)) _
      simp only [Act.put, List.setIfInBounds_toArray, List.set_cons_zero, List.set_cons_succ]
      refine wpAnyH_take (i := 30) (v := (.bool true)) rfl (by kernel_rfl) (by kernel_rfl) (by kernel_rfl) (fun _ _ _ h => h) (Or.inl ⟨by kernel_rfl, fun w hSw => ?_⟩) (by assumption) ?_
      · (try dsimp only at hSw); go_simp <;> (try rfl)
      change wpAnyH _ _ _ _ _ _ _ (Act.put _ (some (8 : Nat)) (.bool true)) _
      simp only [Act.put, List.setIfInBounds_toArray, List.set_cons_zero, List.set_cons_succ]
      refine wpAnyH_done (by kernel_rfl) ?_ _
      have HKz := Lib.hid hHeld
      clear hHeld
      go_wp2
      go_ret
      exact ⟨rfl, below_step HX.out HKz.out⟩
    · as_aux_lemma =>
      go_simp
      refine (HTy.out _).mono ?_
      rintro e we ⟨Te, me, de, rfl, hye, hbe⟩; have HYe := Lib.hid hye; have HYdb := Lib.hid (HYd.out.through hbe); have HKe := Lib.hid (below_step hHeld hbe); clear hye hbe
      go_wp2_with fail
      refine hK.out _ _ HKe.out (fun hHeld1 => ?_)
      clear hHeld hK K
      have hHeld := hHeld1
      clear hHeld1
      refine wpAnyH_ready (rs := [23, 27]) (by kernel_rfl) (by simp) ?_
      refine AllReadyH.cons (o := ⟨some 81, .convert 40 9 (.tmp 80), _, _, _, some (19, true)⟩) rfl (fun K hK => ?_) (AllReadyH.cons (o := ⟨some 85, .convert 40 9 (.tmp 84), _, _, _, some (19, true)⟩) rfl (fun K hK => ?_) AllReadyH.nil)
      · as_aux_lemma =>
        refine step_convw (by kernel_rfl) 40 9 (.tmp 80) rfl (.slice Td md dd) (.string (ba (100 :: encCr co))) (by simp [Act.eval]) (run_string_by _ 40 9 5 Try.underlying40 Try.underlying5 Try.underlying9 _ _ _ _ _ HYdb.out) ?_
        refine hK.out _ _ hHeld (fun hHeld1 => ?_)
        clear hHeld hK K
        have hHeld := hHeld1
        clear hHeld1
        change wpAnyH _ _ _ _ _ _ _ (Act.put _ (some (81 : Nat)) (.string (ba (100 :: encCr co)))) _
        simp only [Act.put, List.setIfInBounds_toArray, List.set_cons_zero, List.set_cons_succ]
        refine wpAnyH_ready (rs := [27]) (by kernel_rfl) (by simp) ?_
        refine AllReadyH.cons (o := ⟨some 85, .convert 40 9 (.tmp 84), _, _, _, some (19, true)⟩) rfl (fun K hK => ?_) AllReadyH.nil
        refine step_convw (by kernel_rfl) 40 9 (.tmp 84) rfl (.slice Te me de) (.string (ba (100 :: encCr co))) (by simp [Act.eval]) (run_string_by _ 40 9 5 Try.underlying40 Try.underlying5 Try.underlying9 _ _ _ _ _ HYe.out) ?_
        refine hK.out _ _ hHeld (fun hHeld1 => ?_)
        clear hHeld hK K
        have hHeld := hHeld1
        clear hHeld1
        change wpAnyH _ _ _ _ _ _ _ (Act.put _ (some (85 : Nat)) (.string (ba (100 :: encCr co)))) _
        simp only [Act.put, List.setIfInBounds_toArray, List.set_cons_zero, List.set_cons_succ]
        refine wpAnyH_take (i := 28) (v := (.bool true)) rfl (by kernel_rfl) (by kernel_rfl) (by kernel_rfl) (fun _ _ _ h => h) (Or.inl ⟨by kernel_rfl, fun w hSw => ?_⟩) (by assumption) ?_
        · (try dsimp only at hSw); go_simp <;> (try rfl)
        change wpAnyH _ _ _ _ _ _ _ (Act.put _ (some (86 : Nat)) (.bool true)) _
        simp only [Act.put, List.setIfInBounds_toArray, List.set_cons_zero, List.set_cons_succ]
        refine wpAnyH_take (i := 29) (v := (.bool true)) rfl (by kernel_rfl) (by kernel_rfl) (by kernel_rfl) (fun _ _ _ h => h) (Or.inl ⟨by kernel_rfl, fun w hSw => ?_⟩) (by assumption) ?_
        · (try dsimp only at hSw); go_simp <;> (try rfl)
        change wpAnyH _ _ _ _ _ _ _ (Act.put _ (some (87 : Nat)) (.bool true)) _
        simp only [Act.put, List.setIfInBounds_toArray, List.set_cons_zero, List.set_cons_succ]
        refine wpAnyH_take (i := 30) (v := (.bool true)) rfl (by kernel_rfl) (by kernel_rfl) (by kernel_rfl) (fun _ _ _ h => h) (Or.inl ⟨by kernel_rfl, fun w hSw => ?_⟩) (by assumption) ?_
        · (try dsimp only at hSw); go_simp <;> (try rfl)
        change wpAnyH _ _ _ _ _ _ _ (Act.put _ (some (8 : Nat)) (.bool true)) _
        simp only [Act.put, List.setIfInBounds_toArray, List.set_cons_zero, List.set_cons_succ]
        refine wpAnyH_done (by kernel_rfl) ?_ _
        have HKz := Lib.hid hHeld
        clear hHeld
        go_wp2
        go_ret
        exact ⟨rfl, below_step HX.out HKz.out⟩
      · as_aux_lemma =>
        refine step_convw (by kernel_rfl) 40 9 (.tmp 84) rfl (.slice Te me de) (.string (ba (100 :: encCr co))) (by simp [Act.eval]) (run_string_by _ 40 9 5 Try.underlying40 Try.underlying5 Try.underlying9 _ _ _ _ _ HYe.out) ?_
        refine hK.out _ _ hHeld (fun hHeld1 => ?_)
        clear hHeld hK K
        have hHeld := hHeld1
        clear hHeld1
        change wpAnyH _ _ _ _ _ _ _ (Act.put _ (some (85 : Nat)) (.string (ba (100 :: encCr co)))) _
        simp only [Act.put, List.setIfInBounds_toArray, List.set_cons_zero, List.set_cons_succ]
        refine wpAnyH_ready (rs := [23]) (by kernel_rfl) (by simp) ?_
        refine AllReadyH.cons (o := ⟨some 81, .convert 40 9 (.tmp 80), _, _, _, some (19, true)⟩) rfl (fun K hK => ?_) AllReadyH.nil
        refine step_convw (by kernel_rfl) 40 9 (.tmp 80) rfl (.slice Td md dd) (.string (ba (100 :: encCr co))) (by simp [Act.eval]) (run_string_by _ 40 9 5 Try.underlying40 Try.underlying5 Try.underlying9 _ _ _ _ _ HYdb.out) ?_
        refine hK.out _ _ hHeld (fun hHeld1 => ?_)
        clear hHeld hK K
        have hHeld := hHeld1
        clear hHeld1
        change wpAnyH _ _ _ _ _ _ _ (Act.put _ (some (81 : Nat)) (.string (ba (100 :: encCr co)))) _
        simp only [Act.put, List.setIfInBounds_toArray, List.set_cons_zero, List.set_cons_succ]
        refine wpAnyH_take (i := 28) (v := (.bool true)) rfl (by kernel_rfl) (by kernel_rfl) (by kernel_rfl) (fun _ _ _ h => h) (Or.inl ⟨by kernel_rfl, fun w hSw => ?_⟩) (by assumption) ?_
        · (try dsimp only at hSw); go_simp <;> (try rfl)
        change wpAnyH _ _ _ _ _ _ _ (Act.put _ (some (86 : Nat)) (.bool true)) _
        simp only [Act.put, List.setIfInBounds_toArray, List.set_cons_zero, List.set_cons_succ]
        refine wpAnyH_take (i := 29) (v := (.bool true)) rfl (by kernel_rfl) (by kernel_rfl) (by kernel_rfl) (fun _ _ _ h => h) (Or.inl ⟨by kernel_rfl, fun w hSw => ?_⟩) (by assumption) ?_
        · (try dsimp only at hSw); go_simp <;> (try rfl)
        change wpAnyH _ _ _ _ _ _ _ (Act.put _ (some (87 : Nat)) (.bool true)) _
        simp only [Act.put, List.setIfInBounds_toArray, List.set_cons_zero, List.set_cons_succ]
        refine wpAnyH_take (i := 30) (v := (.bool true)) rfl (by kernel_rfl) (by kernel_rfl) (by kernel_rfl) (fun _ _ _ h => h) (Or.inl ⟨by kernel_rfl, fun w hSw => ?_⟩) (by assumption) ?_
        · (try dsimp only at hSw); go_simp <;> (try rfl)
        change wpAnyH _ _ _ _ _ _ _ (Act.put _ (some (8 : Nat)) (.bool true)) _
        simp only [Act.put, List.setIfInBounds_toArray, List.set_cons_zero, List.set_cons_succ]
        refine wpAnyH_done (by kernel_rfl) ?_ _
        have HKz := Lib.hid hHeld
        clear hHeld
        go_wp2
        go_ret
        exact ⟨rfl, below_step HX.out HKz.out⟩
end

end Go.Proofs.Ytgbobemhogeeeaa
