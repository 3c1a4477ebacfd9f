/-
  CwR
-/
import Derived.Test.YtheecifgbkdecaaSM45
import Derived.Test.YtheecifgbkdecaaSM7
namespace Go.Proofs.Ytheecifgbkdecaa
open Go.RowKit

set_option maxHeartbeats 16000000 in
set_option maxRecDepth 100000 in
theorem rowpord_any {Q : Nat → Prop} (g gr : Nat) (st : Option (List UInt8)) (w : World) (h : Rs Q w g tR st) (hQ : ∀ b, Q b → b < w.heap.size) (hr : Blk w gr 73 [(.pointer (some ⟨g, 0, none⟩))]) (hne : gr ≠ g) :
  Calls Try.prog 51 #[(.pointer (some ⟨g, 0, none⟩)), .int .i64 4, (.func (.func 49) #[] #[.pointer (some ⟨gr, 0, none⟩)])] w fun e w' => ∃ (A : Option Addr) (n c : Nat), e = .returned (.slice A n c) ∧ OPo w' w.heap.size (.slice A n c) (pgPos st).1 ∧ Rs Q w' g tR (pgPos st).2 ∧ w.grownBy w' (some g) := by
 have HLT := Lib.hid h.lt
 have HQ := Lib.hid hQ
 have HGr := Lib.hid hr
 have HNR := Lib.hid hne
 have HCn : Hid (Calls Try.prog 73 #[(.pointer (some ⟨g, 0, none⟩)), .int .i64 4] w fun e w' => e = .returned (.int .i64 (cval 4 st)) ∧ Rs Q w' g tR (cnext 4 st) ∧ w.grownBy w' (some g)) := Lib.hid (count_rs h 4)
 have hk4 : cval 4 st ≤ 4 := by unfold cval; split <;> omega
 unfold pgPos
 generalize cval 4 st = k at *
 generalize cnext 4 st = st0 at *
 have HK := Lib.hid hk4
 obtain ⟨L, hL⟩ : ∃ L, rdAll rdPo k st0 = L := ⟨_, rfl⟩
 have HL0 : Hid (([] : List Po) ++ (rdAll rdPo (k - 0) st0).1 = L.1 ∧ (rdAll rdPo (k - 0) st0).2 = L.2) := Lib.hid (by rw [Nat.sub_zero, hL]; exact ⟨rfl, rfl⟩)
 rw [hL]
 clear h hQ hr hne hL
 go_enter Try.func51, Try.ntmps51
 go_wp2_with (first
  | (go_at_call 73; (with_reducible refine HCn.out.mono ?_); rintro e w1 ⟨rfl, hr1, hg1⟩; have HR1 := Lib.hid hr1; have HG1 := Lib.hid hg1; clear hr1 hg1))
 go_loopw [7, 11] (fun lv iv wr => ∃ (i : Nat) (pre : List Po) (A : Option Addr) (n c : Nat) (s : Option (List UInt8)), i ≤ k ∧ iv = .int .i64 (i : Int) ∧ lv = .slice A n c ∧ pre.length = i ∧ (pre ++ (rdAll rdPo (k - i) s).1 = L.1 ∧ (rdAll rdPo (k - i) s).2 = L.2) ∧ Rs Q wr g tR s ∧ OPo wr w.heap.size (.slice A n c) pre ∧ w.grownBy wr (some g)) (fun _ iv _ => k - (intOf iv).toNat)
 case atStart => exact ⟨0, [], none, 0, 0, st0, Nat.zero_le _, rfl, rfl, rfl, HL0.out, HR1.out, OPo.nil _ _, HG1.out⟩
 case round =>
  obtain ⟨i, pre, A, n, c, s, hi, rfl, rfl, hpl, hLs, hrs, ho, hg⟩ := hrel
  have HLp := Lib.hid hpl
  have HLs := Lib.hid hLs
  have HRs := Lib.hid hrs
  have HO := Lib.hid ho
  have HG := Lib.hid hg
  clear hpl hLs hrs ho hg
  by_cases hlt : i < k
  ·have hki : k - i = (k - (i + 1)) + 1 := by omega
   have hLq := HLs.out
   rw [hki] at hLq
   simp only [rdAll] at hLq
   have HCl : Hid (Calls Try.prog 49 #[.pointer (some ⟨gr, 0, none⟩)] wr fun e w' => e = .returned (.agg (Po.cells (rdPo s).1).toArray) ∧ Rs Q w' g tR (rdPo s).2 ∧ wr.grownBy w' (some g)) := Lib.hid (rdpo_any g gr s wr HRs.out (fun b hb => Nat.lt_of_lt_of_le (HQ.out b hb) HG.out.size) (HGr.out.grown HG.out (fun e => HNR.out (Option.some.inj e))) HNR.out)
   have hdl : (rdPo s).1.dg.length = 32 := by unfold rdPo; exact tagOf_len _
   generalize rdPo s = X at *
   obtain ⟨p, s'⟩ := X
   simp only at HCl hdl hLq
   have HDL := Lib.hid hdl
   have HPL : Hid ((Po.cells p).length = 33) := Lib.hid (Po.cells_len p hdl)
   have HLn : Hid ((pre ++ [p]) ++ (rdAll rdPo (k - (i + 1)) s').1 = L.1 ∧ (rdAll rdPo (k - (i + 1)) s').2 = L.2) := Lib.hid ⟨by rw [List.append_assoc]; exact hLq.1, hLq.2⟩
   clear hki hLq hdl
   go_wp2_with (first
    | (go_at_call 49; (with_reducible refine HCl.out.mono ?_); rintro e w5 ⟨rfl, hr5, hg5⟩; have HR5 := Lib.hid hr5; have HG5 := Lib.hid (only_trans HG.out hg5); have HO5 := Lib.hid (HO.out.off hg5 HLT.out); clear hr5 hg5)
    | (refine wpList_build_el rfl Try.el_po (.tmp 15) rfl (Po.cells p) rfl HPL.out ?_)
    | (at_builtin; refine wpList_append_el rfl Try.el_po (.tmp 13) (.tmp 16) rfl w.heap.size (.slice A n c) (pre.map Po.cells) rfl (HO5.out.1.alloc (.cells (Po.cells p).toArray 52)) w5.heap.size (Po.cells p) rfl (Blk.fresh rfl rfl) HPL.out (fun u hu => Array.all_eq_true_iff_forall_mem.1 (Po.one_ p) u (by simpa using hu)) (by rw [List.length_map, HLp.out]; have := HK.out; omega) (by have := HG5.out.size; (try simp); omega) ?_; intro v7 w9 ho7 hg7; have HW := Lib.hid (fun b hb => (HO5.out.1.lt b hb).1); obtain ⟨A7, N7, c7, rfl⟩ : ∃ (A : Option Addr) (N c : Nat), v7 = .slice A N c := (by obtain ⟨A, c, h9, _⟩ := ho7.out; exact ⟨A, _, c, h9⟩); have HO9 : Hid (OPo w9 w.heap.size (.slice A7 N7 c7) (pre ++ [p])) := Lib.hid ⟨by rw [List.map_append]; exact ho7, fun q hq => (List.mem_append.1 hq).elim (HO5.out.2 q) (fun h9 => by rw [List.mem_singleton.1 h9]; exact HDL.out)⟩; have HR9 := Lib.hid ((HR5.out.alloc (.cells (Po.cells p).toArray 52)).other hg7 (fun b hb => ⟨fun e => by have := HW.out b hb; have := HLT.out; omega, fun h9 => by have := HW.out b hb; have := HQ.out b h9; omega⟩)); have HG9 := Lib.hid (only_own_ (only_trans HG5.out (only_below (below1_ w5 (.cells (Po.cells p).toArray 52)))) hg7 (fun h e => HW.out h e)); clear ho7 hg7))
   go_roundw
   case rel => exact ⟨i + 1, pre ++ [p], A7, N7, c7, s', by omega, by go_num, rfl, by rw [List.length_append, HLp.out]; rfl, HLn.out, HR9.out, HO9.out, HG9.out⟩
   case measure => simp [intOf]; omega
  ·have hik : k - i = 0 := by omega
   have hLq := HLs.out
   rw [hik] at hLq
   simp only [rdAll, List.append_nil] at hLq
   have HE := Lib.hid hLq
   clear hik hLq
   go_wp2
   go_ret
   exact ⟨A, n, c, rfl, by rw [← HE.out.1]; exact HO.out, by rw [← HE.out.2]; exact HRs.out, HG.out⟩

set_option maxHeartbeats 16000000 in
set_option maxRecDepth 100000 in
theorem rowpfrd_any {Q : Nat → Prop} (g gr gb gn ge M most : Nat) (A0 : Option Addr) (c0 : Nat) (N e0 : Int) (st : Option (List UInt8)) (w : World) (h : Rs Q w g tR st) (hQ : ∀ b, Q b → b < w.heap.size) (hQe : ¬ Q ge) (hr : Blk w gr 73 [(.pointer (some ⟨g, 0, none⟩))]) (hb : Blk w gb 28 [.slice A0 M c0]) (hn : Blk w gn 3 [.int .i64 N]) (he : Blk w ge 30 [.int .i64 e0]) (n1 : gr ≠ g ∧ gr ≠ ge) (n2 : gb ≠ g ∧ gb ≠ ge) (n3 : gn ≠ g ∧ gn ≠ ge) (n4 : ge ≠ g) (hl : stL st ≤ 1000000) (hm : most ≤ 64) :
  Calls Try.prog 52 #[(.pointer (some ⟨g, 0, none⟩)), .int .i64 (most : Int), (.func (.func 45) #[] #[.pointer (some ⟨gr, 0, none⟩), .pointer (some ⟨gb, 0, none⟩), .pointer (some ⟨gn, 0, none⟩), .pointer (some ⟨ge, 0, none⟩)])] w fun e w' => ∃ (A : Option Addr) (n c : Nat), e = .returned (.slice A n c) ∧ OPf w' w.heap.size (.slice A n c) ((pgPfs M most N st).1.map (·.1)) ∧ Rs Q w' g tR (pgPfs M most N st).2 ∧ (∃ e1 : Int, Blk w' ge 30 [.int .i64 e1] ∧ (e1 = 0 ↔ e0 = 0 ∧ (pgPfs M most N st).1.all (·.2) = true)) ∧ Tw g ge w w' := by
 have HLT : Hid (g < w.heap.size ∧ ge < w.heap.size) := Lib.hid ⟨h.lt, he.lt⟩
 have HQ := Lib.hid hQ
 have HQE := Lib.hid hQe
 have HGr := Lib.hid hr
 have HGb := Lib.hid hb
 have HGn := Lib.hid hn
 have HE0 := Lib.hid he
 have HN1 := Lib.hid n1
 have HN2 := Lib.hid n2
 have HN3 := Lib.hid n3
 have HN4 := Lib.hid n4
 have HCn : Hid (Calls Try.prog 73 #[(.pointer (some ⟨g, 0, none⟩)), .int .i64 (most : Int)] w fun e w' => e = .returned (.int .i64 (cval most st)) ∧ Rs Q w' g tR (cnext most st) ∧ w.grownBy w' (some g)) := Lib.hid (count_rs h most)
 have hk4 : cval most st ≤ 64 := by unfold cval; split <;> omega
 have hl0 := Nat.le_trans (cnext_stL_ most st) hl
 unfold pgPfs
 generalize cval most st = k at *
 generalize cnext most st = st0 at *
 have HK := Lib.hid hk4
 have HL00 := Lib.hid hl0
 obtain ⟨L, hL⟩ : ∃ L, rdAll (pgPf M N) k st0 = L := ⟨_, rfl⟩
 have HL0 : Hid (([] : List (Pf × Bool)) ++ (rdAll (pgPf M N) (k - 0) st0).1 = L.1 ∧ (rdAll (pgPf M N) (k - 0) st0).2 = L.2) := Lib.hid (by rw [Nat.sub_zero, hL]; exact ⟨rfl, rfl⟩)
 rw [hL]
 clear h hQ hQe hr hb hn he n1 n2 n3 n4 hl hm hl0 hL
 go_enter Try.func52, Try.ntmps52
 go_wp2_with (first
  | (go_at_call 73; (with_reducible refine HCn.out.mono ?_); rintro e w1 ⟨rfl, hr1, hg1⟩; have HR1 := Lib.hid hr1; have HG1 := Lib.hid hg1; clear hr1 hg1))
 go_loopw [7, 11] (fun lv iv wr => ∃ (i : Nat) (pre : List (Pf × Bool)) (A : Option Addr) (n c : Nat) (s : Option (List UInt8)) (e1 : Int), i ≤ k ∧ iv = .int .i64 (i : Int) ∧ lv = .slice A n c ∧ pre.length = i ∧ (pre ++ (rdAll (pgPf M N) (k - i) s).1 = L.1 ∧ (rdAll (pgPf M N) (k - i) s).2 = L.2) ∧ stL s ≤ 1000000 ∧ Rs Q wr g tR s ∧ OPf wr w.heap.size (.slice A n c) (pre.map (·.1)) ∧ Blk wr ge 30 [.int .i64 e1] ∧ (e1 = 0 ↔ e0 = 0 ∧ pre.all (·.2) = true) ∧ Tw g ge w wr) (fun _ iv _ => k - (intOf iv).toNat)
 case atStart => exact ⟨0, [], none, 0, 0, st0, e0, Nat.zero_le _, rfl, rfl, rfl, HL0.out, HL00.out, HR1.out, OPf.nil _ _, HE0.out.grown HG1.out (fun e => HN4.out (Option.some.inj e)), by simp, (Tw.refl _ _ _).grown HG1.out⟩
 case round =>
  obtain ⟨i, pre, A, n, c, s, e1, hi, rfl, rfl, hpl, hLs, hsl, hrs, ⟨ss, hs, ha⟩, hv, hqe, htw⟩ := hrel
  have HLp := Lib.hid hpl
  have HLs := Lib.hid hLs
  have HRs := Lib.hid hrs
  have HS := Lib.hid hs
  have HA := Lib.hid ha
  have HV := Lib.hid hv
  have HQe := Lib.hid hqe
  have HT := Lib.hid htw
  have HSl := Lib.hid hsl
  clear hpl hLs hsl hrs hs ha hv hqe htw
  by_cases hlt : i < k
  ·have hki : k - i = (k - (i + 1)) + 1 := by omega
   have hLq := HLs.out
   rw [hki] at hLq
   simp only [rdAll] at hLq
   have HCl : Hid (Calls Try.prog 45 #[.pointer (some ⟨gr, 0, none⟩), .pointer (some ⟨gb, 0, none⟩), .pointer (some ⟨gn, 0, none⟩), .pointer (some ⟨ge, 0, none⟩)] wr fun e w' => ∃ (A' : Option Addr) (m c' : Nat), e = .returned (.agg #[.int .i64 (pgPf M N s).1.1.sq, .int .i64 (pgPf M N s).1.1.vw, .slice A' m c']) ∧ OEy w' wr.heap.size (.slice A' m c') (pgPf M N s).1.1.es ∧ Rs Q w' g tR (pgPf M N s).2 ∧ (∃ e2 : Int, Blk w' ge 30 [.int .i64 e2] ∧ (e2 = 0 ↔ e1 = 0 ∧ (pgPf M N s).1.2 = true)) ∧ Tw g ge wr w') := Lib.hid (rdpf_any g gr gb gn ge M A0 c0 N e1 s wr HRs.out (fun b hb => Nat.lt_of_lt_of_le (HQ.out b hb) HT.out.size) HQE.out (HT.out.blk HGr.out HN1.out.1 HN1.out.2) (HT.out.blk HGb.out HN2.out.1 HN2.out.2) (HT.out.blk HGn.out HN3.out.1 HN3.out.2) HV.out HN1.out.1 HN2.out.1 HN3.out.1 HN4.out HSl.out)
   have hsn : stL (pgPf M N s).2 ≤ 1000000 := Nat.le_trans (Nat.le_trans (rnext_stL _ _) (Nat.le_trans (nnext_stL _ _) (nnext_stL _ _))) HSl.out
   generalize pgPf M N s = X at *
   obtain ⟨⟨⟨sq, vw, es⟩, fl⟩, s'⟩ := X
   simp only at HCl hLq hsn
   have HSn := Lib.hid hsn
   have HLn : Hid ((pre ++ [((⟨sq, vw, es⟩ : Pf), fl)]) ++ (rdAll (pgPf M N) (k - (i + 1)) s').1 = L.1 ∧ (rdAll (pgPf M N) (k - (i + 1)) s').2 = L.2) := Lib.hid ⟨by rw [List.append_assoc]; exact hLq.1, hLq.2⟩
   clear hki hLq hsn
   go_wp2_with (first
    | (go_at_call 45; (with_reducible refine HCl.out.mono ?_); rintro e w5 ⟨Be, me, ce, rfl, he5, hr5, ⟨e5, hv5, hq5⟩, ht5⟩; have HR5 := Lib.hid hr5; have HT5 := Lib.hid (HT.out.trans ht5); have HS5 := Lib.hid (ht5.os_ HS.out HLT.out.1 HLT.out.2); have HA5 := Lib.hid (HA.out.mono fun _ _ h => ht5.ey h HLT.out.1 HLT.out.2); have HE5 := Lib.hid (he5.weak_ HT.out.size); have HV5 := Lib.hid hv5; have HQ5 := Lib.hid hq5; have HZ5 : Hid (w.heap.size ≤ w5.heap.size) := Lib.hid HT5.out.size; clear hr5 ht5 he5 hv5 hq5)
    | (refine wpList_build_el rfl Try.el_pf (.tmp 15) rfl [.int .i64 sq, .int .i64 vw, .slice Be me ce] rfl rfl ?_)
    | (at_builtin; refine wpList_append_el rfl Try.el_pf (.tmp 13) (.tmp 16) rfl w.heap.size (.slice A n c) (pfR (pre.map (·.1)) ss) rfl (HS5.out.alloc (.cells #[.int .i64 sq, .int .i64 vw, .slice Be me ce] 55)) w5.heap.size [.int .i64 sq, .int .i64 vw, .slice Be me ce] rfl (Blk.fresh rfl rfl) rfl (fun u hu => by simp at hu; rcases hu with rfl | rfl | rfl <;> rfl) (by rw [pfR_len HA5.out.len, List.length_map, HLp.out]; have := HK.out; omega) (by have := HZ5.out; (try simp); omega) ?_; intro v7 w9 ho7 hg7; have HW := Lib.hid (fun b hb => (HS5.out.lt b hb).1); obtain ⟨A7, N7, c7, rfl⟩ : ∃ (A : Option Addr) (N c : Nat), v7 = .slice A N c := (by obtain ⟨A, c, h9, _⟩ := ho7.out; exact ⟨A, _, c, h9⟩); have HE9 := (HE5.out.through (below1_ w5 (.cells #[.int .i64 sq, .int .i64 vw, .slice Be me ce] 55))).own (HS5.out.alloc (.cells #[.int .i64 sq, .int .i64 vw, .slice Be me ce] 55)) hg7; have HA9 := Lib.hid (AllB.snoc (p := (⟨sq, vw, es⟩ : Pf)) (s := ((Be, me, ce) : Pl)) ((HA5.out.through (below1_ w5 (.cells #[.int .i64 sq, .int .i64 vw, .slice Be me ce] 55))).own (HS5.out.alloc (.cells #[.int .i64 sq, .int .i64 vw, .slice Be me ce] 55)) hg7) HE9); clear HE9; have HO9 : Hid (OPf w9 w.heap.size (.slice A7 N7 c7) ((pre ++ [((⟨sq, vw, es⟩ : Pf), fl)]).map (·.1))) := Lib.hid ⟨ss ++ [(Be, me, ce)], by rw [List.map_append, show [((⟨sq, vw, es⟩ : Pf), fl)].map (·.1) = [(⟨sq, vw, es⟩ : Pf)] from rfl, pfR_snoc HA5.out.len]; exact ho7, by rw [List.map_append]; exact HA9.out⟩; have HR9 := Lib.hid ((HR5.out.alloc (.cells #[.int .i64 sq, .int .i64 vw, .slice Be me ce] 55)).other hg7 (fun b hb => ⟨fun e => by have := HW.out b hb; have := HLT.out; omega, fun h9 => by have := HW.out b hb; have := HQ.out b h9; omega⟩)); have HV9 := Lib.hid ((HV5.out.alloc (.cells #[.int .i64 sq, .int .i64 vw, .slice Be me ce] 55)).grown hg7 (fun e => by have := HW.out _ e.symm; have := HLT.out; omega)); have HT9 := Lib.hid ((HT5.out.deep (below1_ w5 (.cells #[.int .i64 sq, .int .i64 vw, .slice Be me ce] 55))).turn hg7 (fun b hb => .inr (.inr (HW.out b hb)))); clear ho7 hg7))
   go_roundw
   case rel => exact ⟨i + 1, pre ++ [((⟨sq, vw, es⟩ : Pf), fl)], A7, N7, c7, s', e5, by omega, by go_num, rfl, by rw [List.length_append, HLp.out]; rfl, HLn.out, HSn.out, HR9.out, HO9.out, HV9.out, by rw [HQ5.out, HQe.out]; simp [and_assoc], HT9.out⟩
   case measure => simp [intOf]; omega
  ·have hik : k - i = 0 := by omega
   have hLq := HLs.out
   rw [hik] at hLq
   simp only [rdAll, List.append_nil] at hLq
   have HE := Lib.hid hLq
   clear hik hLq
   go_wp2
   go_ret
   exact ⟨A, n, c, rfl, by rw [← HE.out.1]; exact ⟨ss, HS.out, HA.out⟩, by rw [← HE.out.2]; exact HRs.out, ⟨e1, HV.out, by rw [← HE.out.1]; exact HQe.out⟩, HT.out⟩

end Go.Proofs.Ytheecifgbkdecaa
