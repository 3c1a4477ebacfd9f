/-
  CwR CwD
-/
import Derived.Test.YtheecifgbkdecaaSR39
import Derived.Test.YtheecifgbkdecaaSR9
import Derived.Test.YtheecifgbkdecaaSR35
import Derived.Test.YtheecifgbkdecaaSR31
namespace Go.Proofs.Ytheecifgbkdecaa
open Go.RowKit

set_option maxHeartbeats 16000000 in
set_option maxRecDepth 100000 in
theorem rowpord_any {Q : Nat → Prop} (g gr : Nat) (st : Option (List UInt8)) (w : World) (h : Rs Q w g tR st) (hQ : ∀ b, Q b → b < w.heap.size) (hr : Blk w gr 73 [(.pointer (some ⟨g, 0, none⟩))]) (hne : gr ≠ g) :
    Calls Try.prog 51 #[(.pointer (some ⟨g, 0, none⟩)), .int .i64 4, (.func (.func 49) #[] #[.pointer (some ⟨gr, 0, none⟩)])] w fun e w' => ∃ (A : Option Addr) (n c : Nat), e = .returned (.slice A n c) ∧ OPo w' w.heap.size (.slice A n c) (pgPos st).1 ∧ Rs Q w' g tR (pgPos st).2 ∧ w.grownBy w' (some g) := by
  have HLT := Lib.hid h.lt
  have HQ := Lib.hid hQ
  have HGr := Lib.hid hr
  have HNR := Lib.hid hne
  have HCn : Hid (Calls Try.prog 73 #[(.pointer (some ⟨g, 0, none⟩)), .int .i64 4] w fun e w' => e = .returned (.int .i64 (cval 4 st)) ∧ Rs Q w' g tR (cnext 4 st) ∧ w.grownBy w' (some g)) := Lib.hid (count_rs h 4)
  have hk4 : cval 4 st ≤ 4 := by unfold cval; split <;> omega
  unfold pgPos
  generalize cval 4 st = k at *
  generalize cnext 4 st = st0 at *
  have HK := Lib.hid hk4
  obtain ⟨L, hL⟩ : ∃ L, rdAll rdPo k st0 = L := ⟨_, rfl⟩
  have HL0 : Hid (([] : List Po) ++ (rdAll rdPo (k - 0) st0).1 = L.1 ∧ (rdAll rdPo (k - 0) st0).2 = L.2) := Lib.hid (by rw [Nat.sub_zero, hL]; exact ⟨rfl, rfl⟩)
  rw [hL]
  clear h hQ hr hne hL
  go_enter Try.func51, Try.ntmps51
  go_wp2_with (first
    | (go_at_call 73; (with_reducible refine HCn.out.mono ?_); rintro e w1 ⟨rfl, hr1, hg1⟩; have HR1 := Lib.hid hr1; have HG1 := Lib.hid hg1; clear hr1 hg1))
  go_loopw [7, 11] (fun lv iv wr => ∃ (i : Nat) (pre : List Po) (A : Option Addr) (n c : Nat) (s : Option (List UInt8)), i ≤ k ∧ iv = .int .i64 (i : Int) ∧ lv = .slice A n c ∧ pre.length = i ∧ (pre ++ (rdAll rdPo (k - i) s).1 = L.1 ∧ (rdAll rdPo (k - i) s).2 = L.2) ∧ Rs Q wr g tR s ∧ OPo wr w.heap.size (.slice A n c) pre ∧ w.grownBy wr (some g)) (fun _ iv _ => k - (intOf iv).toNat)
  case atStart => exact ⟨0, [], none, 0, 0, st0, Nat.zero_le _, rfl, rfl, rfl, HL0.out, HR1.out, OPo.nil _ _, HG1.out⟩
  case round =>
    obtain ⟨i, pre, A, n, c, s, hi, rfl, rfl, hpl, hLs, hrs, ho, hg⟩ := hrel
    have HLp := Lib.hid hpl
    have HLs := Lib.hid hLs
    have HRs := Lib.hid hrs
    have HO := Lib.hid ho
    have HG := Lib.hid hg
    clear hpl hLs hrs ho hg
    by_cases hlt : i < k
    · have hki : k - i = (k - (i + 1)) + 1 := by omega
      have hLq := HLs.out
      rw [hki] at hLq
      simp only [rdAll] at hLq
      have HCl : Hid (Calls Try.prog 49 #[.pointer (some ⟨gr, 0, none⟩)] wr fun e w' => e = .returned (.agg (Po.cells (rdPo s).1).toArray) ∧ Rs Q w' g tR (rdPo s).2 ∧ wr.grownBy w' (some g)) := Lib.hid (rdpo_any g gr s wr HRs.out (fun b hb => Nat.lt_of_lt_of_le (HQ.out b hb) HG.out.size) (HGr.out.grown HG.out (fun e => HNR.out (Option.some.inj e))) HNR.out)
      have hdl : (rdPo s).1.dg.length = 32 := by unfold rdPo; exact tagOf_len _
      generalize rdPo s = X at *
      obtain ⟨p, s'⟩ := X
      simp only at HCl hdl hLq
      have HDL := Lib.hid hdl
      have HPL : Hid ((Po.cells p).length = 33) := Lib.hid (Po.cells_len p hdl)
      have HLn : Hid ((pre ++ [p]) ++ (rdAll rdPo (k - (i + 1)) s').1 = L.1 ∧ (rdAll rdPo (k - (i + 1)) s').2 = L.2) := Lib.hid ⟨by rw [List.append_assoc]; exact hLq.1, hLq.2⟩
      clear hki hLq hdl
      go_wp2_with (first
        | (go_at_call 49; (with_reducible refine HCl.out.mono ?_); rintro e w5 ⟨rfl, hr5, hg5⟩; have HR5 := Lib.hid hr5; have HG5 := Lib.hid (only_trans HG.out hg5); have HO5 := Lib.hid (HO.out.off hg5 HLT.out); clear hr5 hg5)
        | (refine wpList_build_el rfl Try.el_po (.tmp 15) rfl (Po.cells p) rfl HPL.out ?_)
        | (at_builtin; refine wpList_append_el rfl Try.el_po (.tmp 13) (.tmp 16) rfl w.heap.size (.slice A n c) (pre.map Po.cells) rfl (HO5.out.1.alloc (.cells (Po.cells p).toArray 52)) w5.heap.size (Po.cells p) rfl (Blk.fresh rfl rfl) HPL.out (fun u hu => Array.all_eq_true_iff_forall_mem.1 (Po.one_ p) u (by simpa using hu)) (by rw [List.length_map, HLp.out]; have := HK.out; omega) (by have := HG5.out.size; (try simp); omega) ?_; intro v7 w9 ho7 hg7; have HW := Lib.hid (fun b hb => (HO5.out.1.lt b hb).1); obtain ⟨A7, N7, c7, rfl⟩ : ∃ (A : Option Addr) (N c : Nat), v7 = .slice A N c := (by obtain ⟨A, c, h9, _⟩ := ho7.out; exact ⟨A, _, c, h9⟩); have HO9 : Hid (OPo w9 w.heap.size (.slice A7 N7 c7) (pre ++ [p])) := Lib.hid ⟨by rw [List.map_append]; exact ho7, fun q hq => (List.mem_append.1 hq).elim (HO5.out.2 q) (fun h9 => by rw [List.mem_singleton.1 h9]; exact HDL.out)⟩; have HR9 := Lib.hid ((HR5.out.alloc (.cells (Po.cells p).toArray 52)).other hg7 (fun b hb => ⟨fun e => by have := HW.out b hb; have := HLT.out; omega, fun h9 => by have := HW.out b hb; have := HQ.out b h9; omega⟩)); have HG9 := Lib.hid (only_own_ (only_trans HG5.out (only_below (below1_ w5 (.cells (Po.cells p).toArray 52)))) hg7 (fun h e => HW.out h e)); clear ho7 hg7))
      go_roundw
      case rel => exact ⟨i + 1, pre ++ [p], A7, N7, c7, s', by omega, by go_num, rfl, by rw [List.length_append, HLp.out]; rfl, HLn.out, HR9.out, HO9.out, HG9.out⟩
      case measure => simp [intOf]; omega
    · have hik : k - i = 0 := by omega
      have hLq := HLs.out
      rw [hik] at hLq
      simp only [rdAll, List.append_nil] at hLq
      have HE := Lib.hid hLq
      clear hik hLq
      go_wp2
      go_ret
      exact ⟨A, n, c, rfl, by rw [← HE.out.1]; exact HO.out, by rw [← HE.out.2]; exact HRs.out, HG.out⟩

set_option maxHeartbeats 16000000 in
set_option maxRecDepth 100000 in
theorem rowpfrd_any {Q : Nat → Prop} (g gr gb gn ge M most : Nat) (A0 : Option Addr) (c0 : Nat) (N e0 : Int) (st : Option (List UInt8)) (w : World) (h : Rs Q w g tR st) (hQ : ∀ b, Q b → b < w.heap.size) (hQe : ¬ Q ge) (hr : Blk w gr 73 [(.pointer (some ⟨g, 0, none⟩))]) (hb : Blk w gb 28 [.slice A0 M c0]) (hn : Blk w gn 3 [.int .i64 N]) (he : Blk w ge 30 [.int .i64 e0]) (n1 : gr ≠ g ∧ gr ≠ ge) (n2 : gb ≠ g ∧ gb ≠ ge) (n3 : gn ≠ g ∧ gn ≠ ge) (n4 : ge ≠ g) (hl : stL st ≤ 1000000) (hm : most ≤ 64) :
    Calls Try.prog 52 #[(.pointer (some ⟨g, 0, none⟩)), .int .i64 (most : Int), (.func (.func 45) #[] #[.pointer (some ⟨gr, 0, none⟩), .pointer (some ⟨gb, 0, none⟩), .pointer (some ⟨gn, 0, none⟩), .pointer (some ⟨ge, 0, none⟩)])] w fun e w' => ∃ (A : Option Addr) (n c : Nat), e = .returned (.slice A n c) ∧ OPf w' w.heap.size (.slice A n c) ((pgPfs M most N st).1.map (·.1)) ∧ Rs Q w' g tR (pgPfs M most N st).2 ∧ (∃ e1 : Int, Blk w' ge 30 [.int .i64 e1] ∧ (e1 = 0 ↔ e0 = 0 ∧ (pgPfs M most N st).1.all (·.2) = true)) ∧ Tw g ge w w' := by
  have HLT : Hid (g < w.heap.size ∧ ge < w.heap.size) := Lib.hid ⟨h.lt, he.lt⟩
  have HQ := Lib.hid hQ
  have HQE := Lib.hid hQe
  have HGr := Lib.hid hr
  have HGb := Lib.hid hb
  have HGn := Lib.hid hn
  have HE0 := Lib.hid he
  have HN1 := Lib.hid n1
  have HN2 := Lib.hid n2
  have HN3 := Lib.hid n3
  have HN4 := Lib.hid n4
  have HCn : Hid (Calls Try.prog 73 #[(.pointer (some ⟨g, 0, none⟩)), .int .i64 (most : Int)] w fun e w' => e = .returned (.int .i64 (cval most st)) ∧ Rs Q w' g tR (cnext most st) ∧ w.grownBy w' (some g)) := Lib.hid (count_rs h most)
  have hk4 : cval most st ≤ 64 := by unfold cval; split <;> omega
  have hl0 := Nat.le_trans (cnext_stL_ most st) hl
  unfold pgPfs
  generalize cval most st = k at *
  generalize cnext most st = st0 at *
  have HK := Lib.hid hk4
  have HL00 := Lib.hid hl0
  obtain ⟨L, hL⟩ : ∃ L, rdAll (pgPf M N) k st0 = L := ⟨_, rfl⟩
  have HL0 : Hid (([] : List (Pf × Bool)) ++ (rdAll (pgPf M N) (k - 0) st0).1 = L.1 ∧ (rdAll (pgPf M N) (k - 0) st0).2 = L.2) := Lib.hid (by rw [Nat.sub_zero, hL]; exact ⟨rfl, rfl⟩)
  rw [hL]
  clear h hQ hQe hr hb hn he n1 n2 n3 n4 hl hm hl0 hL
  go_enter Try.func52, Try.ntmps52
  go_wp2_with (first
    | (go_at_call 73; (with_reducible refine HCn.out.mono ?_); rintro e w1 ⟨rfl, hr1, hg1⟩; have HR1 := Lib.hid hr1; have HG1 := Lib.hid hg1; clear hr1 hg1))
  go_loopw [7, 11] (fun lv iv wr => ∃ (i : Nat) (pre : List (Pf × Bool)) (A : Option Addr) (n c : Nat) (s : Option (List UInt8)) (e1 : Int), i ≤ k ∧ iv = .int .i64 (i : Int) ∧ lv = .slice A n c ∧ pre.length = i ∧ (pre ++ (rdAll (pgPf M N) (k - i) s).1 = L.1 ∧ (rdAll (pgPf M N) (k - i) s).2 = L.2) ∧ stL s ≤ 1000000 ∧ Rs Q wr g tR s ∧ OPf wr w.heap.size (.slice A n c) (pre.map (·.1)) ∧ Blk wr ge 30 [.int .i64 e1] ∧ (e1 = 0 ↔ e0 = 0 ∧ pre.all (·.2) = true) ∧ Tw g ge w wr) (fun _ iv _ => k - (intOf iv).toNat)
  case atStart => exact ⟨0, [], none, 0, 0, st0, e0, Nat.zero_le _, rfl, rfl, rfl, HL0.out, HL00.out, HR1.out, OPf.nil _ _, HE0.out.grown HG1.out (fun e => HN4.out (Option.some.inj e)), by simp, (Tw.refl _ _ _).grown HG1.out⟩
  case round =>
    obtain ⟨i, pre, A, n, c, s, e1, hi, rfl, rfl, hpl, hLs, hsl, hrs, ⟨ss, hs, ha⟩, hv, hqe, htw⟩ := hrel
    have HLp := Lib.hid hpl
    have HLs := Lib.hid hLs
    have HRs := Lib.hid hrs
    have HS := Lib.hid hs
    have HA := Lib.hid ha
    have HV := Lib.hid hv
    have HQe := Lib.hid hqe
    have HT := Lib.hid htw
    have HSl := Lib.hid hsl
    clear hpl hLs hsl hrs hs ha hv hqe htw
    by_cases hlt : i < k
    · have hki : k - i = (k - (i + 1)) + 1 := by omega
      have hLq := HLs.out
      rw [hki] at hLq
      simp only [rdAll] at hLq
      have HCl : Hid (Calls Try.prog 45 #[.pointer (some ⟨gr, 0, none⟩), .pointer (some ⟨gb, 0, none⟩), .pointer (some ⟨gn, 0, none⟩), .pointer (some ⟨ge, 0, none⟩)] wr fun e w' => ∃ (A' : Option Addr) (m c' : Nat), e = .returned (.agg #[.int .i64 (pgPf M N s).1.1.sq, .int .i64 (pgPf M N s).1.1.vw, .slice A' m c']) ∧ OEy w' wr.heap.size (.slice A' m c') (pgPf M N s).1.1.es ∧ Rs Q w' g tR (pgPf M N s).2 ∧ (∃ e2 : Int, Blk w' ge 30 [.int .i64 e2] ∧ (e2 = 0 ↔ e1 = 0 ∧ (pgPf M N s).1.2 = true)) ∧ Tw g ge wr w') := Lib.hid (rdpf_any g gr gb gn ge M A0 c0 N e1 s wr HRs.out (fun b hb => Nat.lt_of_lt_of_le (HQ.out b hb) HT.out.size) HQE.out (HT.out.blk HGr.out HN1.out.1 HN1.out.2) (HT.out.blk HGb.out HN2.out.1 HN2.out.2) (HT.out.blk HGn.out HN3.out.1 HN3.out.2) HV.out HN1.out.1 HN2.out.1 HN3.out.1 HN4.out HSl.out)
      have hsn : stL (pgPf M N s).2 ≤ 1000000 := Nat.le_trans (Nat.le_trans (rnext_stL _ _) (Nat.le_trans (nnext_stL _ _) (nnext_stL _ _))) HSl.out
      generalize pgPf M N s = X at *
      obtain ⟨⟨⟨sq, vw, es⟩, fl⟩, s'⟩ := X
      simp only at HCl hLq hsn
      have HSn := Lib.hid hsn
      have HLn : Hid ((pre ++ [((⟨sq, vw, es⟩ : Pf), fl)]) ++ (rdAll (pgPf M N) (k - (i + 1)) s').1 = L.1 ∧ (rdAll (pgPf M N) (k - (i + 1)) s').2 = L.2) := Lib.hid ⟨by rw [List.append_assoc]; exact hLq.1, hLq.2⟩
      clear hki hLq hsn
      go_wp2_with (first
        | (go_at_call 45; (with_reducible refine HCl.out.mono ?_); rintro e w5 ⟨Be, me, ce, rfl, he5, hr5, ⟨e5, hv5, hq5⟩, ht5⟩; have HR5 := Lib.hid hr5; have HT5 := Lib.hid (HT.out.trans ht5); have HS5 := Lib.hid (ht5.os_ HS.out HLT.out.1 HLT.out.2); have HA5 := Lib.hid (HA.out.mono fun _ _ h => ht5.ey h HLT.out.1 HLT.out.2); have HE5 := Lib.hid (he5.weak_ HT.out.size); have HV5 := Lib.hid hv5; have HQ5 := Lib.hid hq5; have HZ5 : Hid (w.heap.size ≤ w5.heap.size) := Lib.hid HT5.out.size; clear hr5 ht5 he5 hv5 hq5)
        | (refine wpList_build_el rfl Try.el_pf (.tmp 15) rfl [.int .i64 sq, .int .i64 vw, .slice Be me ce] rfl rfl ?_)
        | (at_builtin; refine wpList_append_el rfl Try.el_pf (.tmp 13) (.tmp 16) rfl w.heap.size (.slice A n c) (pfR (pre.map (·.1)) ss) rfl (HS5.out.alloc (.cells #[.int .i64 sq, .int .i64 vw, .slice Be me ce] 55)) w5.heap.size [.int .i64 sq, .int .i64 vw, .slice Be me ce] rfl (Blk.fresh rfl rfl) rfl (fun u hu => by simp at hu; rcases hu with rfl | rfl | rfl <;> rfl) (by rw [pfR_len HA5.out.len, List.length_map, HLp.out]; have := HK.out; omega) (by have := HZ5.out; (try simp); omega) ?_; intro v7 w9 ho7 hg7; have HW := Lib.hid (fun b hb => (HS5.out.lt b hb).1); obtain ⟨A7, N7, c7, rfl⟩ : ∃ (A : Option Addr) (N c : Nat), v7 = .slice A N c := (by obtain ⟨A, c, h9, _⟩ := ho7.out; exact ⟨A, _, c, h9⟩); have HE9 := (HE5.out.through (below1_ w5 (.cells #[.int .i64 sq, .int .i64 vw, .slice Be me ce] 55))).own (HS5.out.alloc (.cells #[.int .i64 sq, .int .i64 vw, .slice Be me ce] 55)) hg7; have HA9 := Lib.hid (AllB.snoc (p := (⟨sq, vw, es⟩ : Pf)) (s := ((Be, me, ce) : Pl)) ((HA5.out.through (below1_ w5 (.cells #[.int .i64 sq, .int .i64 vw, .slice Be me ce] 55))).own (HS5.out.alloc (.cells #[.int .i64 sq, .int .i64 vw, .slice Be me ce] 55)) hg7) HE9); clear HE9; have HO9 : Hid (OPf w9 w.heap.size (.slice A7 N7 c7) ((pre ++ [((⟨sq, vw, es⟩ : Pf), fl)]).map (·.1))) := Lib.hid ⟨ss ++ [(Be, me, ce)], by rw [List.map_append, show [((⟨sq, vw, es⟩ : Pf), fl)].map (·.1) = [(⟨sq, vw, es⟩ : Pf)] from rfl, pfR_snoc HA5.out.len]; exact ho7, by rw [List.map_append]; exact HA9.out⟩; have HR9 := Lib.hid ((HR5.out.alloc (.cells #[.int .i64 sq, .int .i64 vw, .slice Be me ce] 55)).other hg7 (fun b hb => ⟨fun e => by have := HW.out b hb; have := HLT.out; omega, fun h9 => by have := HW.out b hb; have := HQ.out b h9; omega⟩)); have HV9 := Lib.hid ((HV5.out.alloc (.cells #[.int .i64 sq, .int .i64 vw, .slice Be me ce] 55)).grown hg7 (fun e => by have := HW.out _ e.symm; have := HLT.out; omega)); have HT9 := Lib.hid ((HT5.out.deep (below1_ w5 (.cells #[.int .i64 sq, .int .i64 vw, .slice Be me ce] 55))).turn hg7 (fun b hb => .inr (.inr (HW.out b hb)))); clear ho7 hg7))
      go_roundw
      case rel => exact ⟨i + 1, pre ++ [((⟨sq, vw, es⟩ : Pf), fl)], A7, N7, c7, s', e5, by omega, by go_num, rfl, by rw [List.length_append, HLp.out]; rfl, HLn.out, HSn.out, HR9.out, HO9.out, HV9.out, by rw [HQ5.out, HQe.out]; simp [and_assoc], HT9.out⟩
      case measure => simp [intOf]; omega
    · have hik : k - i = 0 := by omega
      have hLq := HLs.out
      rw [hik] at hLq
      simp only [rdAll, List.append_nil] at hLq
      have HE := Lib.hid hLq
      clear hik hLq
      go_wp2
      go_ret
      exact ⟨A, n, c, rfl, by rw [← HE.out.1]; exact ⟨ss, HS.out, HA.out⟩, by rw [← HE.out.2]; exact HRs.out, ⟨e1, HV.out, by rw [← HE.out.1]; exact HQe.out⟩, HT.out⟩

end Go.Proofs.Ytheecifgbkdecaa

namespace Go.Proofs.Ytheecifgbkdecaa
open Go.RowKit

theorem Try.el_u8s : El Try.prog 28 5 1 1 (.int .u8 0) := ⟨Try.underlying28, by kernel_rfl, rfl, by omega, by omega, by omega⟩
theorem Try.el_bb : El Try.prog 109 28 1 24 (.slice none 0 0) := ⟨Try.underlying109, by kernel_rfl, rfl, by omega, by omega, by omega⟩
theorem Try.ix_bb (W : World) (g n c j : Nat) (hj : j < n) : (Instr.indexAt 109 (.slice (some ⟨g, 0, none⟩) n c) (.int .i64 (j : Int))).run Try.prog W = .ok (.pointer (some ⟨g, j, none⟩)) W := by
  have h9 := El.index Try.el_bb (by kernel_rfl) W g 0 n c j hj
  simpa using h9
set_option maxHeartbeats 16000000 in
set_option maxRecDepth 100000 in
theorem growb_any (m : Nat) (h0 : 0 < m) (hm : m ≤ 1000000) (w : World) :
    Calls Try.prog 75 #[.slice none 0 0, .int .i64 (m : Int)] w fun e w' => ∃ v, e = .returned v ∧ w'.ownsRow w.heap.size 5 1 v 0 [] ∧ Below w.heap.size w w' := by
  have hw1 : IntKind.i64.wrap ((m : Int) - 0) = (m : Int) := by rw [IntWalk.i64_in _ (by omega)]; omega
  have hd0 : decide ((m : Int) < 0) = false := by simp
  have hd1 : decide ((0 : Int) < (m : Int)) = true := by simp; omega
  go_enter Try.func75, Try.ntmps75
  go_wp2_with (at_builtin; refine wpList_append_zeros rfl Try.el_u8s 3 Try.underlying3 (.tmp 20) (.tmp 21) rfl rfl m rfl h0 hm ?_; intro cap w1 ho hcap hb; have HO := Lib.hid ho.1; have HX := Lib.hid hb; clear ho hb)
  go_ret
  exact ⟨_, rfl, HO.out, HX.out⟩
def flatB (q : List (Pl × List UInt8)) : List UInt8 := encAll (fun x => x.2) q

set_option maxHeartbeats 16000000 in
set_option maxRecDepth 100000 in
theorem concatb_any (q : List (Pl × List UInt8)) (gb n : Nat) (w : World) (hn : q.length = n) (hs : n ≤ 1000) (hb : Blk w gb 28 (q.map (fun x => .slice x.1.1 x.1.2.1 x.1.2.2))) (hy : ∀ x ∈ q, By w (fun _ => True) x.1.1 x.1.2.1 x.2) (h0 : 0 < (flatB q).length) (hm : (flatB q).length ≤ 1000000) :
    Calls Try.prog 33 #[.slice (some ⟨gb, 0, none⟩) n n] w (Byt w (flatB q)) := by
  obtain ⟨i0, hi, hz0, hz1, hz2⟩ := info_parts Try.info_u8
  have HB := Lib.hid hb
  have HN := Lib.hid hn
  have HY := Lib.hid hy
  obtain ⟨OUT, hO⟩ : ∃ OUT, flatB q = OUT := ⟨_, rfl⟩
  have HT : Hid (0 < OUT.length ∧ OUT.length ≤ 1000000) := Lib.hid (hO ▸ ⟨h0, hm⟩)
  have HO0 : Hid (flatB (q.drop 0) = OUT) := Lib.hid (by rw [← hO, List.drop_zero])
  rw [hO]
  have HGr : Hid (∀ W : World, Calls Try.prog 75 #[.slice none 0 0, .int .i64 (OUT.length : Int)] W fun e w' => ∃ v, e = .returned v ∧ w'.ownsRow W.heap.size 5 1 v 0 [] ∧ Below W.heap.size W w') := Lib.hid (fun W => growb_any OUT.length HT.out.1 HT.out.2 W)
  clear hb hn hy h0 hm hO
  go_enter Try.func33, Try.ntmps33
  go_wp2
  go_loopw [3, 11] (fun sv iv wr => ∃ i s : Nat, i ≤ n ∧ iv = .int .i64 (i : Int) ∧ sv = .int .i64 (s : Int) ∧ s + (flatB (q.drop i)).length = OUT.length ∧ w = wr) (fun _ iv _ => n - (intOf iv).toNat)
  case atStart => exact ⟨0, 0, Nat.zero_le _, rfl, rfl, by rw [HO0.out]; omega, rfl⟩
  case round =>
    obtain ⟨i, s, hi', rfl, rfl, hsum, rfl⟩ := hrel
    have HSm := Lib.hid hsum
    clear hsum
    by_cases hlt : i < n
    · have hil : i < q.length := by rw [HN.out]; exact hlt
      obtain ⟨⟨⟨B, m, c⟩, z⟩, hget⟩ : ∃ x, q[i]? = some x := ⟨_, List.getElem?_eq_getElem hil⟩
      have hix := fun W => Try.ix_bb W gb n n i hlt
      have hcl := HB.out.cellAt (i := i) (v := .slice B m c) (by rw [List.getElem?_map, hget]; rfl)
      have hmem := List.mem_of_getElem? hget
      have hyz := HY.out _ hmem
      have hd : q.drop i = ⟨⟨B, m, c⟩, z⟩ :: q.drop (i + 1) := by
        rw [List.drop_eq_getElem_cons hil]
        congr 1
        have h9 := List.getElem?_eq_getElem hil
        rw [hget] at h9
        exact (Option.some.inj h9).symm
      have HS2 : Hid ((s + m) + (flatB (q.drop (i + 1))).length = OUT.length) := Lib.hid (by
        have h9 := HSm.out
        rw [hd] at h9
        have h8 := hyz.len
        simp only [flatB, encAll, List.length_append] at h9 ⊢
        simp only at h8
        omega)
      have hw : IntKind.i64.wrap ((s : Int) + (m : Int)) = ((s + m : Nat) : Int) := by rw [IntWalk.i64_in _ (by have := HS2.out; have := HT.out.2; omega)]; omega
      have hd0 : decide (((s + m : Nat) : Int) < 0) = false := by simp; omega
      have hd1 : decide ((s : Int) + (m : Int) < 0) = false := by simp; omega
      clear hil hget hd hmem hyz
      go_wp2
      go_roundw
      case rel => exact ⟨i + 1, s + m, by omega, by go_num, by first | rfl | (rw [hw]) | go_num, HS2.out, by first | trivial | rfl⟩
      case measure => simp [intOf]; omega
    · have e9 : q.drop i = [] := List.drop_of_length_le (by have := HN.out; omega)
      have hse : s = OUT.length := by have h9 := HSm.out; rw [e9] at h9; simpa [flatB, encAll] using h9
      subst hse
      clear e9
      go_wp2_with (first
        | (go_at_call 75; (with_reducible refine (HGr.out _).mono ?_); rintro e w1 ⟨v1, rfl, ho1, hb1⟩; have HO1 := Lib.hid ho1; have HX1 := Lib.hid hb1; clear ho1 hb1))
      go_loopw [6, 27] (fun bv iv wr => ∃ (i : Nat) (ys : List UInt8) (v' : Value), i ≤ n ∧ iv = .int .i64 (i : Int) ∧ v' = bv ∧ ys ++ flatB (q.drop i) = OUT ∧ wr.ownsRow w.heap.size 5 1 v' ys.length (vs ys) ∧ Below w.heap.size w wr) (fun _ iv _ => n - (intOf iv).toNat)
      case atStart => exact ⟨0, [], v1, Nat.zero_le _, rfl, rfl, by rw [HO0.out]; rfl, HO1.out, HX1.out⟩
      case round =>
        obtain ⟨i, ys, v', hi', rfl, rfl, hpq, hown, hx⟩ := hrel
        have HO := Lib.hid hown
        have HX := Lib.hid hx
        have HPQ := Lib.hid hpq
        clear hown hx hpq
        by_cases hlt : i < n
        · have hil : i < q.length := by rw [HN.out]; exact hlt
          obtain ⟨⟨⟨B, m, c⟩, z⟩, hget⟩ : ∃ x, q[i]? = some x := ⟨_, List.getElem?_eq_getElem hil⟩
          have hix := fun W => Try.ix_bb W gb n n i hlt
          have hcl := (HB.out.through HX.out).cellAt (i := i) (v := .slice B m c) (by rw [List.getElem?_map, hget]; rfl)
          have hmem := List.mem_of_getElem? hget
          have HYz : Hid (By wr (fun _ => True) B m z) := Lib.hid ((HY.out _ hmem).through HX.out)
          have hd : q.drop i = ⟨⟨B, m, c⟩, z⟩ :: q.drop (i + 1) := by
            rw [List.drop_eq_getElem_cons hil]
            congr 1
            have h9 := List.getElem?_eq_getElem hil
            rw [hget] at h9
            exact (Option.some.inj h9).symm
          have HPQ2 : Hid ((ys ++ z) ++ flatB (q.drop (i + 1)) = OUT) := Lib.hid (by rw [← HPQ.out, hd]; simp [flatB, encAll])
          have HBD : Hid (ys.length + m ≤ 140737488355328) := Lib.hid (by have h9 := congrArg List.length HPQ2.out; simp only [List.length_append] at h9; have h8 := HYz.out.len; have := HT.out.2; omega)
          clear hil hget hd hmem
          go_wp2_with (first
            | (at_builtin; refine wpList_append_by _ rfl (.tmp 31) (.tmp 32) 28 rfl w.heap.size i0 Try.underlying28 hi hz0 hz1 hz2 v' ys.length (vs ys) rfl HO.out (fun _ => True) B m c z rfl HYz.out HBD.out HX.out.size ?_; intro v6 w6 hown6 hgrow6 _; have HN6 : Hid (w6.ownsRow w.heap.size 5 1 v6 (ys ++ z).length (vs (ys ++ z))) := Lib.hid (by rw [List.length_append, ← vs_append, HYz.out.len]; exact hown6); have HX6 : Hid (Below w.heap.size w w6) := Lib.hid (HX.out.grown hgrow6 HX.out.size (fun g hg => (HO.out.lt g hg).1)); clear hown6 hgrow6))
          go_roundw
          case rel => exact ⟨i + 1, ys ++ z, v6, by omega, by go_num, rfl, HPQ2.out, HN6.out, HX6.out⟩
          case measure => simp [intOf]; omega
        · have e9 : q.drop i = [] := List.drop_of_length_le (by have := HN.out; omega)
          have HE : Hid (ys = OUT) := Lib.hid (by rw [← HPQ.out, e9]; simp [flatB, encAll])
          clear e9
          obtain ⟨A7, c7, rfl, hn7, hm7, _⟩ := own_form HO.out
          go_wp2
          go_ret
          rw [← HE.out]
          exact ⟨A7, _, c7, rfl, (By.of_own HO.out).weak fun _ _ => trivial, hn7, hm7, HX.out⟩

end Go.Proofs.Ytheecifgbkdecaa
