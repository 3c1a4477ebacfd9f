/-
  Joined: VIB, VIE, VIM.
-/
import Derived.Test.YtgbobemhogeeeaaJIV
import Derived.Test.YtgbobemhogeeeaaJE
namespace Go.Proofs.Ytgbobemhogeeeaa
section
open Go.RowKit

theorem MI.cell {W W' : World} {xs : List (List UInt8)} {r b : Nat} (h : MI W xs r) (hb : ∃ cs t fr, W.heap[b]? = some (.cells cs t fr)) (ho : W.grownBy W' (some b)) : MI W' xs r := by
  refine h.grown ho (fun e => ?_)
  obtain rfl := Option.some.inj e
  obtain ⟨_, _, _, hc⟩ := hb
  obtain ⟨es, ck, hm, _⟩ := h
  rw [hm] at hc
  cases hc
theorem ISr.cell {W W' : World} {g r1 r2 b : Nat} {ds ts : List (List UInt8)} (h : ISr W g r1 r2 ds ts) (hb : ∃ cs t fr, W.heap[b]? = some (.cells cs t fr)) (ho : W.grownBy W' (some b)) (hg : b ≠ g) : ISr W' g r1 r2 ds ts := by
  obtain ⟨h1, h2, h3, h4⟩ := h
  exact ⟨h1.grown ho (fun e => hg (Option.some.inj e).symm), h2.cell hb ho, h3.cell hb ho, h4⟩
theorem ISr.lt {W : World} {g r1 r2 : Nat} {ds ts : List (List UInt8)} (h : ISr W g r1 r2 ds ts) : g < W.heap.size := h.1.lt
theorem ISr.lt2 {W : World} {g r1 r2 : Nat} {ds ts : List (List UInt8)} (h : ISr W g r1 r2 ds ts) : r2 < W.heap.size := h.2.2.1.lt
theorem crypt_ideal (g r1 r2 : Nat) (ds : List (List UInt8)) (f : Nat → List (List UInt8)) : Crypt (fun i w => ISr w g r1 r2 ds (f i)) g :=
  ⟨fun _ _ h => h.lt, fun _ _ _ h hb => h.through hb, fun _ _ _ _ h hb ho hg => h.cell hb ho (Nat.ne_of_gt hg)⟩
/-- The tags known behind i of them. -/
def accI (f : Int) (text : List UInt8) (tos : List Int) (ts : List (List UInt8)) : Nat → List (List UInt8)
  | 0 => ts
  | i + 1 => also (saidB f (tos.getD i 0) text) (accI f text tos ts i)
theorem accI_length (f : Int) (text : List UInt8) (tos : List Int) (ts : List (List UInt8)) (i : Nat) : (accI f text tos ts i).length ≤ ts.length + i := by
  induction i with
  | zero => exact Nat.le_refl _
  | succ i ih =>
    have := also_length (saidB f (tos.getD i 0) text) (accI f text tos ts i)
    simp only [accI]
    omega
theorem accI_mem_of {f : Int} {text : List UInt8} {tos : List Int} {ts : List (List UInt8)} {x : List UInt8} {i : Nat} (h : x ∈ accI f text tos ts i) : ∀ j, x ∈ accI f text tos ts (i + j) ∧ ord x (accI f text tos ts (i + j)) = ord x (accI f text tos ts i)
  | 0 => ⟨h, rfl⟩
  | j + 1 => by
    obtain ⟨h1, h2⟩ := accI_mem_of h j
    exact ⟨mem_also_of h1, (ord_also h1).trans h2⟩
theorem accI_mem {f : Int} {text : List UInt8} {tos : List Int} {ts : List (List UInt8)} {i n : Nat} (h : i < n) : saidB f (tos.getD i 0) text ∈ accI f text tos ts n ∧ ord (saidB f (tos.getD i 0) text) (accI f text tos ts n) = ord (saidB f (tos.getD i 0) text) (accI f text tos ts (i + 1)) := by
  obtain ⟨j, rfl⟩ : ∃ j, n = i + 1 + j := ⟨n - (i + 1), by omega⟩
  exact accI_mem_of (mem_also _ _) j
/-- the tags that Sign makes -/
def madeI (f : Int) (text : List UInt8) (tos : List Int) (ts : List (List UInt8)) (n i : Nat) : List UInt8 := numB 255 (ord (saidB f (tos.getD i 0) text) (accI f text tos ts n))
theorem sign_ideal (g r1 r2 : Nat) (hqg : r2 ≤ g) (ds ts : List (List UInt8)) (k f : Int) (body : List UInt8) (tos : List Int) (Q Q' : Nat → Prop) (hQ' : ∀ k, Q' k → k ≠ r2)
    (B : Option Addr) (nb cb : Nat) (hnb : nb ≤ 100000) (A : Option Addr) (n c : Nat) (hn : n ≤ 100000) (hl : ts.length ≤ 100000) (w : World) (hst : ISr w g r1 r2 ds ts) (hyb : By w Q B nb body) (hya : Iv w Q' A n tos) :
    Calls Try.prog 26 #[.iface 30 (.pointer (some ⟨g, 0, none⟩)), .int .i64 k, .int .i64 f, .slice B nb cb, .slice A n c] w fun e w' => ∃ B1 c1 A1 c2, e = .returned (.agg #[.int .i64 k, .int .i64 f, .slice B1 nb c1, .slice A1 n c2]) ∧
      By w' (fun b => w.heap.size ≤ b) B1 nb body ∧ (Tg w' A1 n ((List.range n).map (madeI f (kb k :: body) tos ts n)) ∧ n ≤ c2 ∧ c2 ≤ maxLen) ∧ (∀ o, A1 = some o → w.heap.size ≤ o.block) ∧ ISr w' g r1 r2 ds (accI f (kb k :: body) tos ts n) ∧ KF r2 w w' :=
  sign_I _ g (crypt_ideal g r1 r2 ds (accI f (kb k :: body) tos ts)) r2 hqg k f body tos (madeI f (kb k :: body) tos ts n) (fun _ => numB_length _ _) Q Q' hQ' B nb cb hnb A n c hn w hst hyb hya fun T tc W i hi h1 h2 => by
    have hal := accI_length f (kb k :: body) tos ts i
    have h := itag_any g r1 r2 f (tos.getD i 0) (kb k :: body) T (1 + nb) tc ds (accI f (kb k :: body) tos ts i) W h1 (h2.weak fun _ _ => trivial) (by omega) (by omega)
    have e := (accI_mem (f := f) (text := kb k :: body) (tos := tos) (ts := ts) hi).2
    unfold madeI
    rw [e]
    exact h
end

section
open Go.RowKit

theorem iv_nil {w : World} {Q : Nat → Prop} : Iv w Q none 0 [] := ⟨rfl, fun h => absurd h (by omega)⟩
set_option maxHeartbeats 4000000 in
set_option maxRecDepth 100000 in
theorem esign_ideal (g r1 r2 : Nat) (hqg : r2 ≤ g) (ds ts : List (List UInt8)) (org : Int) (co : Cr) (m : Nat) (hm1 : 1 ≤ m) (hm7 : m ≤ 7) (hl : co.lt.length ≤ 1000) (ht : co.tx.length ≤ 1000) (htl : ts.length ≤ 100000) (w : World) (hst : ISr w g r1 r2 ds ts) :
    Calls Try.prog 9 #[.iface 30 (.pointer (some ⟨g, 0, none⟩)), .int .i64 org, .int .i64 (m : Int), .agg #[.int .i64 co.cl, .int .i64 co.sp, .int .i64 co.op, .string (ba co.lt), .int .i64 co.a, .int .i64 co.b, .string (ba co.tx)]] w fun e w' => ∃ A1 c2, e = .returned (.agg #[.int .i64 org, .slice A1 m c2]) ∧ TsIn w' (A1, m, c2) ((List.range m).map (madeI org (100 :: encCr co) (upTo m) ts m)) ∧ ISr w' g r1 r2 ds (accI org (100 :: encCr co) (upTo m) ts m) ∧ KF r2 w w' := by
  have hz := Try.zero_en
  have hbe := Try.build_en
  have HGl := Lib.hid hst.lt
  have HQl : Hid (r2 < w.heap.size) := Lib.hid hst.lt2
  have HX0 : Hid (Below w.heap.size w ((w.alloc (.cells #[.int .i64 co.cl, .int .i64 co.sp, .int .i64 co.op, .string (ba co.lt), .int .i64 co.a, .int .i64 co.b, .string (ba co.tx)] 23)).alloc (.cells #[.int .i64 0, .slice none 0 0] 34))) := Lib.hid (below2_ w _ _)
  have HB0 : Hid (Blk ((w.alloc (.cells #[.int .i64 co.cl, .int .i64 co.sp, .int .i64 co.op, .string (ba co.lt), .int .i64 co.a, .int .i64 co.b, .string (ba co.tx)] 23)).alloc (.cells #[.int .i64 0, .slice none 0 0] 34)) w.heap.size 23 [.int .i64 co.cl, .int .i64 co.sp, .int .i64 co.op, .string (ba co.lt), .int .i64 co.a, .int .i64 co.b, .string (ba co.tx)]) := Lib.hid ((Blk.fresh rfl rfl).alloc _)
  have HZ0 : Hid (Blk ((w.alloc (.cells #[.int .i64 co.cl, .int .i64 co.sp, .int .i64 co.op, .string (ba co.lt), .int .i64 co.a, .int .i64 co.b, .string (ba co.tx)] 23)).alloc (.cells #[.int .i64 0, .slice none 0 0] 34)) (w.heap.size + 1) 34 [.int .i64 0, .slice none 0 0]) := Lib.hid (Blk.fresh (by simp) rfl)
  have HC : Hid (∀ W, Calls Try.prog 27 #[.agg #[.int .i64 co.cl, .int .i64 co.sp, .int .i64 co.op, .string (ba co.lt), .int .i64 co.a, .int .i64 co.b, .string (ba co.tx)]] W (Byt W (encCr co))) := Lib.hid (fun W => coreB_any co W (by omega) (by omega))
  have hel : (encCr co).length ≤ 2034 := by rw [encCr_len]; omega
  have HVS : Hid (∀ (W : World) (B : Option Addr) (nb cb a : Nat), Below w.heap.size w W → By W (fun _ => True) B nb (encCr co) → Iv W (fun b => b = a) (some ⟨a, 0, none⟩) m (upTo m) → a ≠ r2 → Calls Try.prog 26 #[.iface 30 (.pointer (some ⟨g, 0, none⟩)), .int .i64 100, .int .i64 org, .slice B nb cb, .slice (some ⟨a, 0, none⟩) m m] W fun e w' => ∃ B1 c1 A1 c2, e = .returned (.agg #[.int .i64 100, .int .i64 org, .slice B1 nb c1, .slice A1 m c2]) ∧ By w' (fun b => W.heap.size ≤ b) B1 nb (encCr co) ∧ (Tg w' A1 m ((List.range m).map (madeI org (100 :: encCr co) (upTo m) ts m)) ∧ m ≤ c2 ∧ c2 ≤ maxLen) ∧ (∀ o, A1 = some o → W.heap.size ≤ o.block) ∧ ISr w' g r1 r2 ds (accI org (100 :: encCr co) (upTo m) ts m) ∧ KF r2 W w') := Lib.hid (fun W B nb cb a hW hy hi ha => by
    have h9 := sign_ideal g r1 r2 hqg ds ts 100 org (encCr co) (upTo m) (fun _ => True) (fun b => b = a) (fun k hk => by rw [hk]; exact ha) B nb cb (by have := hy.len; omega) (some ⟨a, 0, none⟩) m m (by omega) htl W (hst.through hW) hy hi
    rw [kb_100] at h9
    exact h9)
  clear hst hl ht hel
  go_enter Try.func9, Try.ntmps9
  go_wp2_with (first
    | (refine wpList_load_blk rfl 23 (.tmp 7) rfl w.heap.size rfl 23 [.int .i64 co.cl, .int .i64 co.sp, .int .i64 co.op, .string (ba co.lt), .int .i64 co.a, .int .i64 co.b, .string (ba co.tx)] _ HB0.out Try.underlying23 rfl (by kernel_rfl) ?_)
    | (go_at_call 27; (with_reducible refine (HC.out _).mono ?_); rintro e w1 ⟨Ac, n1, dc, rfl, hy1, _, _, hb1⟩; have HY1 := Lib.hid hy1; have HX1 := Lib.hid (below_step HX0.out hb1); have HZ1 := Lib.hid (HZ0.out.through hb1); clear hy1 hb1)
    | (go_at_call 28; (with_reducible refine (all_some m hm1 hm7 _).mono ?_); rintro e w2 ⟨rfl, hiv, hb2⟩; have HIv := Lib.hid hiv; have HY2 := Lib.hid (HY1.out.through hb2); have HX2 := Lib.hid (below_step HX1.out hb2); have HZ2 := Lib.hid (HZ1.out.through hb2); have HW1 := Lib.hid HX1.out.size; clear hiv hb2)
    | (go_at_call 26; (with_reducible refine (HVS.out _ _ _ _ _ HX2.out HY2.out HIv.out (by have := HW1.out; have := HQl.out; omega)).mono ?_); rintro e w3 ⟨B1, c1, A1, c2, rfl, _, ⟨ht3, hcp⟩, hn3, hs3, hf3⟩; have HT3 := Lib.hid (ht3.through (below1_ w3 (.cells #[.int .i64 100, .int .i64 org, .slice B1 n1 c1, .slice A1 m c2] 65))); have HCp := Lib.hid hcp; have HN3 := Lib.hid hn3; have HS3 := Lib.hid (hs3.through (below1_ w3 (.cells #[.int .i64 100, .int .i64 org, .slice B1 n1 c1, .slice A1 m c2] 65))); have HF3 := Lib.hid (((KF.of_below HQl.out HX2.out).trans hf3).alloc HQl.out (.cells #[.int .i64 100, .int .i64 org, .slice B1 n1 c1, .slice A1 m c2] 65)); have HZ3 := Lib.hid ((hf3.blk HZ2.out (by have := HQl.out; omega)).alloc (.cells #[.int .i64 100, .int .i64 org, .slice B1 n1 c1, .slice A1 m c2] 65)); have HX2s := Lib.hid HX2.out.size; have HZ2l := Lib.hid HZ2.out.lt; clear ht3 hcp hn3 hs3 hf3)
    | (refine wpList_store_blk rfl 34 (.tmp 8) (.tmp 20) rfl (w.heap.size + 1) [.int .i64 org, .slice A1 m c2] rfl rfl 34 [.int .i64 0, .slice none 0 0] HZ3.out (by kernel_rfl) rfl (by simp [Value.oneCell']) ?_; intro w5 hb5 hg5; have HB5 := Lib.hid hb5; have HT5 := Lib.hid (HT3.out.keep (fun k hk _ ⟨o, e⟩ => hg5.block k hk (fun e' => by have := HN3.out _ e; have := Option.some.inj e'; have := HX2s.out; have := HZ2l.out; simp only at *; omega))); have HS5 := Lib.hid (HS3.out.cell ⟨_, _, _, HZ3.out⟩ hg5 (by have := HGl.out; omega)); have HF5 := Lib.hid (HF3.out.grownB hg5 (Nat.le_succ _) HQl.out); clear hb5 hg5))
  (try simp only [Exit.inBlock, Exit.then]); refine bodyPost_ret (results_cell_row_0 rfl _ _ (w.heap.size + 1) 34 _ (0, 0) _ rfl HB5.out Try.underlying34 rfl (by kernel_rfl)) rfl ?_
  exact ⟨A1, c2, rfl, HT5.out.ts HCp.out, HS5.out, HF5.out⟩

set_option maxHeartbeats 4000000 in
set_option maxRecDepth 100000 in
theorem esign_idle (g r1 r2 : Nat) (hqg : r2 ≤ g) (ds ts : List (List UInt8)) (org : Int) (co : Cr) (m : Int) (hm : m < 1 ∨ 7 < m) (hl : co.lt.length ≤ 1000) (ht : co.tx.length ≤ 1000) (htl : ts.length ≤ 100000) (w : World) (hst : ISr w g r1 r2 ds ts) :
    Calls Try.prog 9 #[.iface 30 (.pointer (some ⟨g, 0, none⟩)), .int .i64 org, .int .i64 m, .agg #[.int .i64 co.cl, .int .i64 co.sp, .int .i64 co.op, .string (ba co.lt), .int .i64 co.a, .int .i64 co.b, .string (ba co.tx)]] w fun e w' => ∃ A1 c2, e = .returned (.agg #[.int .i64 org, .slice A1 0 c2]) ∧ TsIn w' (A1, 0, c2) ((List.range 0).map (madeI org (100 :: encCr co) [] ts 0)) ∧ ISr w' g r1 r2 ds (accI org (100 :: encCr co) [] ts 0) ∧ KF r2 w w' := by
  have hz := Try.zero_en
  have hbe := Try.build_en
  have HGl := Lib.hid hst.lt
  have HQl : Hid (r2 < w.heap.size) := Lib.hid hst.lt2
  have HX0 : Hid (Below w.heap.size w ((w.alloc (.cells #[.int .i64 co.cl, .int .i64 co.sp, .int .i64 co.op, .string (ba co.lt), .int .i64 co.a, .int .i64 co.b, .string (ba co.tx)] 23)).alloc (.cells #[.int .i64 0, .slice none 0 0] 34))) := Lib.hid (below2_ w _ _)
  have HB0 : Hid (Blk ((w.alloc (.cells #[.int .i64 co.cl, .int .i64 co.sp, .int .i64 co.op, .string (ba co.lt), .int .i64 co.a, .int .i64 co.b, .string (ba co.tx)] 23)).alloc (.cells #[.int .i64 0, .slice none 0 0] 34)) w.heap.size 23 [.int .i64 co.cl, .int .i64 co.sp, .int .i64 co.op, .string (ba co.lt), .int .i64 co.a, .int .i64 co.b, .string (ba co.tx)]) := Lib.hid ((Blk.fresh rfl rfl).alloc _)
  have HZ0 : Hid (Blk ((w.alloc (.cells #[.int .i64 co.cl, .int .i64 co.sp, .int .i64 co.op, .string (ba co.lt), .int .i64 co.a, .int .i64 co.b, .string (ba co.tx)] 23)).alloc (.cells #[.int .i64 0, .slice none 0 0] 34)) (w.heap.size + 1) 34 [.int .i64 0, .slice none 0 0]) := Lib.hid (Blk.fresh (by simp) rfl)
  have HC : Hid (∀ W, Calls Try.prog 27 #[.agg #[.int .i64 co.cl, .int .i64 co.sp, .int .i64 co.op, .string (ba co.lt), .int .i64 co.a, .int .i64 co.b, .string (ba co.tx)]] W (Byt W (encCr co))) := Lib.hid (fun W => coreB_any co W (by omega) (by omega))
  have hel : (encCr co).length ≤ 2034 := by rw [encCr_len]; omega
  have HVS : Hid (∀ (W : World) (B : Option Addr) (nb cb : Nat), Below w.heap.size w W → By W (fun _ => True) B nb (encCr co) → Calls Try.prog 26 #[.iface 30 (.pointer (some ⟨g, 0, none⟩)), .int .i64 100, .int .i64 org, .slice B nb cb, .slice none 0 0] W fun e w' => ∃ B1 c1 A1 c2, e = .returned (.agg #[.int .i64 100, .int .i64 org, .slice B1 nb c1, .slice A1 0 c2]) ∧ By w' (fun b => W.heap.size ≤ b) B1 nb (encCr co) ∧ (Tg w' A1 0 ((List.range 0).map (madeI org (100 :: encCr co) [] ts 0)) ∧ 0 ≤ c2 ∧ c2 ≤ maxLen) ∧ (∀ o, A1 = some o → W.heap.size ≤ o.block) ∧ ISr w' g r1 r2 ds (accI org (100 :: encCr co) [] ts 0) ∧ KF r2 W w') := Lib.hid (fun W B nb cb hW hy => by
    have h9 := sign_ideal g r1 r2 hqg ds ts 100 org (encCr co) [] (fun _ => True) (fun _ => False) (fun k hk => hk.elim) B nb cb (by have := hy.len; omega) none 0 0 (by omega) htl W (hst.through hW) hy iv_nil
    rw [kb_100] at h9
    exact h9)
  clear hst hl ht hel
  go_enter Try.func9, Try.ntmps9
  go_wp2_with (first
    | (refine wpList_load_blk rfl 23 (.tmp 7) rfl w.heap.size rfl 23 [.int .i64 co.cl, .int .i64 co.sp, .int .i64 co.op, .string (ba co.lt), .int .i64 co.a, .int .i64 co.b, .string (ba co.tx)] _ HB0.out Try.underlying23 rfl (by kernel_rfl) ?_)
    | (go_at_call 27; (with_reducible refine (HC.out _).mono ?_); rintro e w1 ⟨Ac, n1, dc, rfl, hy1, _, _, hb1⟩; have HY1 := Lib.hid hy1; have HX1 := Lib.hid (below_step HX0.out hb1); have HZ1 := Lib.hid (HZ0.out.through hb1); clear hy1 hb1)
    | (go_at_call 28; (with_reducible refine (all_none m hm _).mono ?_); rintro e w2 ⟨rfl, hw2⟩; have hb2 : Below w1.heap.size w1 w2 := (by rw [← hw2]; exact Below.refl _ _); have HY2 := Lib.hid (HY1.out.through hb2); have HX2 := Lib.hid (below_step HX1.out hb2); have HZ2 := Lib.hid (HZ1.out.through hb2); have HW1 := Lib.hid HX1.out.size; clear hb2 hw2)
    | (go_at_call 26; (with_reducible refine (HVS.out _ _ _ _ HX2.out HY2.out).mono ?_); rintro e w3 ⟨B1, c1, A1, c2, rfl, _, ⟨ht3, hcp⟩, hn3, hs3, hf3⟩; have HT3 := Lib.hid (ht3.through (below1_ w3 (.cells #[.int .i64 100, .int .i64 org, .slice B1 n1 c1, .slice A1 0 c2] 65))); have HCp := Lib.hid hcp; have HN3 := Lib.hid hn3; have HS3 := Lib.hid (hs3.through (below1_ w3 (.cells #[.int .i64 100, .int .i64 org, .slice B1 n1 c1, .slice A1 0 c2] 65))); have HF3 := Lib.hid (((KF.of_below HQl.out HX2.out).trans hf3).alloc HQl.out (.cells #[.int .i64 100, .int .i64 org, .slice B1 n1 c1, .slice A1 0 c2] 65)); have HZ3 := Lib.hid ((hf3.blk HZ2.out (by have := HQl.out; omega)).alloc (.cells #[.int .i64 100, .int .i64 org, .slice B1 n1 c1, .slice A1 0 c2] 65)); have HX2s := Lib.hid HX2.out.size; have HZ2l := Lib.hid HZ2.out.lt; clear ht3 hcp hn3 hs3 hf3)
    | (refine wpList_store_blk rfl 34 (.tmp 8) (.tmp 20) rfl (w.heap.size + 1) [.int .i64 org, .slice A1 0 c2] rfl rfl 34 [.int .i64 0, .slice none 0 0] HZ3.out (by kernel_rfl) rfl (by simp [Value.oneCell']) ?_; intro w5 hb5 hg5; have HB5 := Lib.hid hb5; have HT5 := Lib.hid (HT3.out.keep (fun k hk _ ⟨o, e⟩ => hg5.block k hk (fun e' => by have := HN3.out _ e; have := Option.some.inj e'; have := HX2s.out; have := HZ2l.out; simp only at *; omega))); have HS5 := Lib.hid (HS3.out.cell ⟨_, _, _, HZ3.out⟩ hg5 (by have := HGl.out; omega)); have HF5 := Lib.hid (HF3.out.grownB hg5 (Nat.le_succ _) HQl.out); clear hb5 hg5))
  (try simp only [Exit.inBlock, Exit.then]); refine bodyPost_ret (results_cell_row_0 rfl _ _ (w.heap.size + 1) 34 _ (0, 0) _ rfl HB5.out Try.underlying34 rfl (by kernel_rfl)) rfl ?_
  exact ⟨A1, c2, rfl, HT5.out.ts HCp.out, HS5.out, HF5.out⟩
end

section
open Go.RowKit

set_option maxHeartbeats 8000000 in
set_option maxRecDepth 100000 in
theorem holds_lowI (g : Nat) (f to_ : Int) (tg : List UInt8) (bb : Bool) (htg : tg.length = 32) (T : Option Addr) (tn tc : Nat) (w : World)
    (hchk : ∀ W, Below w.heap.size w W → Calls Try.prog 36 #[.pointer (some ⟨g, 0, none⟩), .int .i64 f, .int .i64 to_, .slice T tn tc, .agg (vs tg).toArray] W fun e w' => e = .returned (.bool bb) ∧ Below W.heap.size W w') :
    Calls Try.prog 35 #[.iface 30 (.pointer (some ⟨g, 0, none⟩)), .int .i64 f, .int .i64 to_, .slice T tn tc, .agg (vs tg).toArray] w fun e w' => e = .returned (.bool bb) ∧ Below w.heap.size w w' := by
  have hmf : ∀ (fn : Fn) (first cap : Array Value) (w : World), (Instr.makeFunc fn first cap).run Try.prog w = .ok (.func fn first cap) w := fun _ _ _ _ => rfl
  obtain ⟨q, hq⟩ : ∃ q, q = vs tg := ⟨_, rfl⟩
  have hql : q.length = 32 := by rw [hq, vs_length, htg]
  rw [← hq] at hchk ⊢
  have HQl := Lib.hid hql
  have hx2 : Below w.heap.size w ((w.alloc (.cells q.toArray 73)).alloc (.cells #[.bool false] 4)) := below2_ w _ _
  have HX2 := Lib.hid hx2
  have H9 : Hid (Blk ((w.alloc (.cells q.toArray 73)).alloc (.cells #[.bool false] 4)) w.heap.size 73 q) := Lib.hid ((Blk.fresh rfl rfl).alloc _)
  have H10 : Hid (Blk ((w.alloc (.cells q.toArray 73)).alloc (.cells #[.bool false] 4)) (w.heap.size + 1) 4 [.bool false]) := Lib.hid (Blk.fresh (by simp) rfl)
  have HChk := Lib.hid (hchk _ hx2)
  clear hq hql hchk hx2
  go_enter_defers Try.func35, Try.ntmps35
  go_wp2_with (first
    | (refine wpList_load_blk_g 73 (.tmp 9) rfl (by kernel_rfl) w.heap.size rfl 73 q _ H9.out Try.underlying73 rfl (by rw [HQl.out]; kernel_rfl) ?_)
    | (go_at_call 36; (with_reducible refine (HChk.out).mono ?_); rintro e w3 ⟨rfl, hb3⟩; have H13 := Lib.hid (H10.out.through hb3); have HX3 := Lib.hid (below_step HX2.out hb3); clear hb3)
    | (refine wpList_store_cell rfl 4 (.tmp 10) (.tmp 21) rfl (w.heap.size + 1) 0 rfl (.bool bb) rfl rfl rfl Try.size_bool 4 [.bool false] H13.out (by simp) ?_; intro w4 hb4 hg4; have H14 : Hid (Blk w4 (w.heap.size + 1) 4 [.bool bb]) := Lib.hid hb4; have HX4 : Hid (Below w.heap.size w w4) := Lib.hid (HX3.out.grown hg4 HX3.out.size (fun k hk => by have := Option.some.inj hk; omega)); clear hb4 hg4))
  refine leaves_cons (f := 65) (args := #[.pointer (some ⟨w.heap.size + 1, 0, none⟩)]) (by simp) (by simp [go_sem]) ?_
  refine (holds1_idle _ _).mono ?_
  rintro e u' w'' ⟨rfl, rfl, rfl⟩
  exact ⟨_, results_cell_one rfl _ _ ⟨w.heap.size + 1, 0, none⟩ (.bool bb) (Try.agg_bool _) rfl (H14.out.cellAt rfl), rfl, HX4.out⟩

set_option maxHeartbeats 4000000 in
set_option maxRecDepth 100000 in
theorem mask_none (hold : Int → List UInt8 → Bool) (co : Cr) (es : List En) (A : Option Addr) (n c1 : Nat) (N who : Int) (w : World) (h : EsIn w A n es) (hn : n ≤ 1000000) (hl : co.lt.length ≤ 1000) (ht : co.tx.length ≤ 1000)
    (hh : ∀ W, Below w.heap.size w W → ∀ o : Nat, o < 7 → ∀ t : List UInt8, t.length = 32 → ∀ T tn tc, By W (fun _ => True) T tn (100 :: encCr co) → Calls Try.prog 35 #[.nilIface, .int .i64 (o : Int), .int .i64 who, .slice T tn tc, .agg (vs t).toArray] W fun e w' => e = .returned (.bool (hold (o : Int) t)) ∧ Below W.heap.size W w') :
    Calls Try.prog 11 #[.nilIface, .agg #[.int .i64 co.cl, .int .i64 co.sp, .int .i64 co.op, .string (ba co.lt), .int .i64 co.a, .int .i64 co.b, .string (ba co.tx), .slice A n c1], .int .i64 N, .int .i64 who] w fun e w' => e = .returned (.int .u32 (maskF (fun o : Nat => inE hold es who (o : Int)) N : Nat)) ∧ Below w.heap.size w w' := by
  have HI := Lib.hid h
  have HH := Lib.hid hh
  have HTx : Hid (∀ W, Calls Try.prog 13 #[.agg #[.int .i64 co.cl, .int .i64 co.sp, .int .i64 co.op, .string (ba co.lt), .int .i64 co.a, .int .i64 co.b, .string (ba co.tx)]] W fun e w' => ∃ T m d, e = .returned (.slice T m d) ∧ By w' (fun _ => True) T m (100 :: encCr co) ∧ Below W.heap.size W w') := Lib.hid (fun W => etext_any co W hl ht)
  have HX0 : Hid (Below w.heap.size w (((w.alloc (.cells #[.nilIface] 63)).alloc (.cells #[.int .i64 co.cl, .int .i64 co.sp, .int .i64 co.op, .string (ba co.lt), .int .i64 co.a, .int .i64 co.b, .string (ba co.tx), .slice A n c1] 26)).alloc (.cells #[.int .i64 who] 3))) := Lib.hid ((below2_ w _ _).alloc (below2_ w _ _).size _)
  have H4 : Hid (Blk (((w.alloc (.cells #[.nilIface] 63)).alloc (.cells #[.int .i64 co.cl, .int .i64 co.sp, .int .i64 co.op, .string (ba co.lt), .int .i64 co.a, .int .i64 co.b, .string (ba co.tx), .slice A n c1] 26)).alloc (.cells #[.int .i64 who] 3)) w.heap.size 63 [.nilIface]) := Lib.hid (((Blk.fresh rfl rfl).alloc _).alloc _)
  have H5 : Hid (Blk (((w.alloc (.cells #[.nilIface] 63)).alloc (.cells #[.int .i64 co.cl, .int .i64 co.sp, .int .i64 co.op, .string (ba co.lt), .int .i64 co.a, .int .i64 co.b, .string (ba co.tx), .slice A n c1] 26)).alloc (.cells #[.int .i64 who] 3)) (w.heap.size + 1) 26 [.int .i64 co.cl, .int .i64 co.sp, .int .i64 co.op, .string (ba co.lt), .int .i64 co.a, .int .i64 co.b, .string (ba co.tx), .slice A n c1]) := Lib.hid ((Blk.fresh (by simp) rfl).alloc _)
  have H7 : Hid (Blk (((w.alloc (.cells #[.nilIface] 63)).alloc (.cells #[.int .i64 co.cl, .int .i64 co.sp, .int .i64 co.op, .string (ba co.lt), .int .i64 co.a, .int .i64 co.b, .string (ba co.tx), .slice A n c1] 26)).alloc (.cells #[.int .i64 who] 3)) (w.heap.size + 2) 3 [.int .i64 who]) := Lib.hid (Blk.fresh (by simp) rfl)
  have HC5 : Hid ((((w.alloc (.cells #[.nilIface] 63)).alloc (.cells #[.int .i64 co.cl, .int .i64 co.sp, .int .i64 co.op, .string (ba co.lt), .int .i64 co.a, .int .i64 co.b, .string (ba co.tx), .slice A n c1] 26)).alloc (.cells #[.int .i64 who] 3)).rangeAt (w.heap.size + 1) 0 [.int .i64 co.cl, .int .i64 co.sp, .int .i64 co.op, .string (ba co.lt), .int .i64 co.a, .int .i64 co.b, .string (ba co.tx)]) := Lib.hid (Blk.front (post := [.slice A n c1]) H5.out)
  clear h hh hl ht
  go_enter Try.func11, Try.ntmps11
  go_wp2_with (first
    | (refine wpList_load_mid rfl 23 (.tmp 10) rfl (w.heap.size + 1) 0 rfl [.int .i64 co.cl, .int .i64 co.sp, .int .i64 co.op, .string (ba co.lt), .int .i64 co.a, .int .i64 co.b, .string (ba co.tx)] _ HC5.out Try.underlying23 rfl (by kernel_rfl) ?_)
    | (go_at_call 13; (with_reducible refine (HTx.out _).mono ?_); rintro e w1 ⟨T1, m1, d1, rfl, hy1, hb1⟩; have HY1 := Lib.hid (hy1.alloc (.cells #[.slice T1 m1 d1] 40)); have HX1 : Hid (Below w.heap.size w (w1.alloc (.cells #[.slice T1 m1 d1] 40))) := Lib.hid ((below_step HX0.out hb1).alloc (below_step HX0.out hb1).size (.cells #[.slice T1 m1 d1] 40)); have HBk := Lib.hid ((hb1.alloc hb1.size (.cells #[.slice T1 m1 d1] 40))); have H9 : Hid (Blk (w1.alloc (.cells #[.slice T1 m1 d1] 40)) w1.heap.size 40 [.slice T1 m1 d1]) := Lib.hid (Blk.fresh rfl rfl); clear hb1 hy1)
    | (go_at_call 32; (refine (maskof_any (fun o : Nat => inE hold es who (o : Int)) (w.heap.size + 1) (w.heap.size + 2) w.heap.size w1.heap.size N _ (fun W hW o ho => mask1_any (.nilIface) hold co es A n c1 who (o : Int) T1 m1 d1 (w.heap.size + 1) (w.heap.size + 2) w.heap.size w1.heap.size W (HI.out.through (below_step HX1.out hW)) hn (H5.out.through (HBk.out.trans (hW.mono HBk.out.size))) (H7.out.through (HBk.out.trans (hW.mono HBk.out.size))) (H4.out.through (HBk.out.trans (hW.mono HBk.out.size))) (H9.out.through hW) (fun W' hW' t ht => HH.out W' (below_step (below_step HX1.out hW) hW') o ho t ht T1 m1 d1 ((HY1.out.through hW).through hW')))).mono ?_); rintro e w2 ⟨rfl, hb2⟩; have HX2 := Lib.hid (below_step HX1.out hb2); clear hb2))
  go_ret
  exact ⟨rfl, HX2.out⟩


set_option maxHeartbeats 4000000 in
set_option maxRecDepth 100000 in
theorem eholds_nil (f to_ : Int) (T : Option Addr) (tn tc : Nat) (tg : List UInt8) (w : World) :
    Calls Try.prog 35 #[.nilIface, .int .i64 f, .int .i64 to_, .slice T tn tc, .agg (vs tg).toArray] w fun e w' => e = .returned (.bool false) ∧ Below w.heap.size w w' := by
  have hmf : ∀ (fn : Fn) (first cap : Array Value) (w : World), (Instr.makeFunc fn first cap).run Try.prog w = .ok (.func fn first cap) w := fun _ _ _ _ => rfl
  generalize vs tg = q
  go_enter_defers Try.func35, Try.ntmps35
  go_wp2_with (refine wpList_store_cell rfl 4 (.tmp 10) (.tmp 21) rfl (w.heap.size + 1) 0 rfl (.bool false) rfl rfl rfl Try.size_bool 4 [.bool false] (Blk.fresh (by simp) (by kernel_rfl)) (by simp) ?_; intro w1 hb1 hg1; have HB1 : Hid (Blk w1 (w.heap.size + 1) 4 [.bool false]) := Lib.hid hb1; have HX1 : Hid (Below w.heap.size w w1) := Lib.hid ((((Below.refl _ w).alloc (Nat.le_refl _) _).alloc (by simp) _).grown hg1 (by simp only [World.size_alloc]; omega) (fun k hk => Option.some.inj hk ▸ Nat.le_succ _)); clear hb1 hg1)
  refine leaves_cons (f := 65) (args := #[.pointer (some ⟨w.heap.size + 1, 0, none⟩)]) (by simp) (by simp [go_sem]) ?_
  refine (holds1_idle _ _).mono ?_
  rintro e u' w'' ⟨rfl, rfl, rfl⟩
  exact ⟨_, results_cell_one rfl _ _ ⟨w.heap.size + 1, 0, none⟩ (.bool false) (Try.agg_bool _) rfl (HB1.out.cellAt rfl), rfl, HX1.out⟩
theorem maskN_none (f : Nat → Bool) (h : ∀ o, f o = false) : ∀ k, maskN f k = 0
  | 0 => rfl
  | k + 1 => by simp [maskN, maskN_none f h k, h k]
theorem maskF_none (f : Nat → Bool) (h : ∀ o, f o = false) (N : Int) : maskF f N = 0 := by
  unfold maskF
  split
  · rfl
  · exact maskN_none f h _
/-- does a tag hold, by the document's own book? -/
def holdI (ts : List (List UInt8)) (text : List UInt8) (who o : Int) (t : List UInt8) : Bool := decide (saidB o who text ∈ ts) && (t == numB 255 (ord (saidB o who text) ts))
theorem imask_any (g : Nat) (ds ts : List (List UInt8)) (co : Cr) (es : List En) (A : Option Addr) (n c1 : Nat) (N who : Int) (w : World) (h : EsIn w A n es) (hn : n ≤ 1000000) (hl : co.lt.length ≤ 1000) (ht : co.tx.length ≤ 1000) (hs : IS w g ds ts) (htl : ts.length < 1000000000) :
    Calls Try.prog 11 #[.iface 30 (.pointer (some ⟨g, 0, none⟩)), .agg #[.int .i64 co.cl, .int .i64 co.sp, .int .i64 co.op, .string (ba co.lt), .int .i64 co.a, .int .i64 co.b, .string (ba co.tx), .slice A n c1], .int .i64 N, .int .i64 who] w fun e w' => e = .returned (.int .u32 (maskF (fun o : Nat => inE (holdI ts (100 :: encCr co) who) es who (o : Int)) N : Nat)) ∧ Below w.heap.size w w' :=
  mask_any 30 g (holdI ts (100 :: encCr co) who) co es A n c1 N who w h hn hl ht (fun W hW o ho t h32 T tn tc hT => holds_lowI g (o : Int) who t _ h32 T tn tc W (fun W' hW' => icheck_any g (o : Int) who (100 :: encCr co) t T tn tc ds ts W' ((hs.through hW).through hW') (hT.through hW') (by rw [← hT.len]; simp [encCr_len]; omega) h32 htl))
theorem nmask_any (co : Cr) (es : List En) (A : Option Addr) (n c1 : Nat) (N who : Int) (w : World) (h : EsIn w A n es) (hn : n ≤ 1000000) (hl : co.lt.length ≤ 1000) (ht : co.tx.length ≤ 1000) :
    Calls Try.prog 11 #[.nilIface, .agg #[.int .i64 co.cl, .int .i64 co.sp, .int .i64 co.op, .string (ba co.lt), .int .i64 co.a, .int .i64 co.b, .string (ba co.tx), .slice A n c1], .int .i64 N, .int .i64 who] w fun e w' => e = .returned (.int .u32 0) ∧ Below w.heap.size w w' := by
  have h9 := mask_none (fun _ _ => false) co es A n c1 N who w h hn hl ht (fun W _ o _ t _ T tn tc _ => eholds_nil (o : Int) who T tn tc t W)
  rw [maskF_none _ (fun o => by unfold inE; cases (endT es (o : Int)).1[who.toNat]? <;> simp)] at h9
  exact h9

set_option maxHeartbeats 2000000 in
set_option maxRecDepth 100000 in
theorem rtext13_any (co : Cr) (w : World) (hl : co.lt.length ≤ 1000) (ht : co.tx.length ≤ 1000) :
    Calls Try.prog 14 #[.agg #[.int .i64 co.cl, .int .i64 co.sp, .int .i64 co.op, .string (ba co.lt), .int .i64 co.a, .int .i64 co.b, .string (ba co.tx)]] w fun e w' => ∃ T m d, e = .returned (.slice T m d) ∧ By w' (fun _ => True) T m (100 :: encCr co) ∧ Below w.heap.size w w' := by
  obtain ⟨i0, hi, hz0, hz1, hz2⟩ := info_parts Try.info_u8
  have HC : Hid (∀ W, Calls Try.prog 38 #[.agg #[.int .i64 co.cl, .int .i64 co.sp, .int .i64 co.op, .string (ba co.lt), .int .i64 co.a, .int .i64 co.b, .string (ba co.tx)]] W (Byt W (encCr co))) := Lib.hid (fun W => rcoreB_any co W (by omega) (by omega))
  have HB : Hid (Blk (w.alloc (.cells #[.int .i64 co.cl, .int .i64 co.sp, .int .i64 co.op, .string (ba co.lt), .int .i64 co.a, .int .i64 co.b, .string (ba co.tx)] 23)) w.heap.size 23 [.int .i64 co.cl, .int .i64 co.sp, .int .i64 co.op, .string (ba co.lt), .int .i64 co.a, .int .i64 co.b, .string (ba co.tx)]) := Lib.hid (Blk.fresh rfl rfl)
  have HX0 : Hid (Below w.heap.size w (w.alloc (.cells #[.int .i64 co.cl, .int .i64 co.sp, .int .i64 co.op, .string (ba co.lt), .int .i64 co.a, .int .i64 co.b, .string (ba co.tx)] 23))) := Lib.hid (below1_ w _)
  have hel : (encCr co).length ≤ 1000000 := by rw [encCr_len]; omega
  have HEL := Lib.hid hel
  clear hl ht hel
  go_enter Try.func14, Try.ntmps14
  go_wp2_with (first
    | (refine wpList_build_el rfl Try.el_by (.const (.int .u8 100)) rfl [.int .u8 100] rfl rfl ?_)
    | (refine wpList_load_blk rfl 23 (.tmp 1) rfl w.heap.size rfl 23 [.int .i64 co.cl, .int .i64 co.sp, .int .i64 co.op, .string (ba co.lt), .int .i64 co.a, .int .i64 co.b, .string (ba co.tx)] _ (HB.out.alloc _) Try.underlying23 rfl (by kernel_rfl) ?_)
    | (go_at_call 38; (with_reducible refine (HC.out _).mono ?_); rintro e w1 ⟨A1, n1, d1, rfl, hy1, _, _, hb1⟩; have HY1 := Lib.hid hy1; have HX1 : Hid (Below w.heap.size w w1) := Lib.hid (below_step (HX0.out.alloc HX0.out.size _) hb1); have ho1 := (own_one8 (x := 100) (w := w.alloc (.cells #[.int .i64 co.cl, .int .i64 co.sp, .int .i64 co.op, .string (ba co.lt), .int .i64 co.a, .int .i64 co.b, .string (ba co.tx)] 23)) (base := w.heap.size) HX0.out.size); rw [show (w.alloc (.cells #[.int .i64 co.cl, .int .i64 co.sp, .int .i64 co.op, .string (ba co.lt), .int .i64 co.a, .int .i64 co.b, .string (ba co.tx)] 23)).heap.size = w.heap.size + 1 by simp] at ho1; have HO1 := Lib.hid (own_through ho1 hb1); clear hy1 hb1 ho1)
    | (at_builtin; refine wpList_append_by _ rfl (.tmp 3) (.tmp 5) 40 rfl w.heap.size i0 Try.underlying40 hi hz0 hz1 hz2 _ 1 (vs [100]) rfl HO1.out (fun _ => True) A1 n1 d1 (encCr co) rfl HY1.out (by have := HY1.out.len; have := HEL.out; omega) HX1.out.size ?_; intro v2 w2 ho2 hg2 _; have HX2 : Hid (Below w.heap.size w w2) := Lib.hid (HX1.out.grown hg2 HX1.out.size (fun k hk => (HO1.out.lt k hk).1)); rw [vs_append] at ho2; obtain ⟨A2, c2, rfl, _⟩ := own_form ho2; have HY2 := Lib.hid ((By.of_own ho2).weak (Q' := fun _ => True) fun _ _ => trivial); clear ho2 hg2))
  go_ret
  exact ⟨A2, _, c2, rfl, HY2.out, HX2.out⟩
end

end Go.Proofs.Ytgbobemhogeeeaa
