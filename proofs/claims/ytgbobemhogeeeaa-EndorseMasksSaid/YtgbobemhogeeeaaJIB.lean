/-
  Joined: IdS, IdM, IdB.
-/
import Derived.Test.YtgbobemhogeeeaaIdN
import Derived.MapKept
import Derived.Laws.Cover3
import Derived.WideLaws
import Derived.RegionTactic
import Derived.ChangeAlike
import Derived.StillTailTactics
import Derived.Deep.QuietTactic
import Derived.Outline
namespace Go.Proofs.Ytgbobemhogeeeaa
section
open Go.RowKit

def saidB (x z : Int) (t : List UInt8) : List UInt8 := beB (u64N x) 8 ++ beB (u64N z) 8 ++ t

set_option maxHeartbeats 4000000 in
set_option maxRecDepth 100000 in
theorem said_any (x z : Int) (t : List UInt8) (A : Option Addr) (n c : Nat) (w : World) (h : By w (fun _ => True) A n t) (hn : n ≤ 1099511627776) :
    Calls Try.prog 66 #[.int .i64 x, .int .i64 z, .slice A n c] w fun e w' => e = .returned (.string (ba (saidB x z t))) ∧ Below w.heap.size w w' := by
  obtain ⟨i0, hi, hz⟩ := Option.map_eq_some_iff.1 Try.info_u8
  simp only [Prod.mk.injEq] at hz
  obtain ⟨hz0, hz1, hz2⟩ := hz
  have hux : u64N x < 18446744073709551616 := by unfold u64N; omega
  have huz : u64N z < 18446744073709551616 := by unfold u64N; omega
  have hcx : ∀ W, (Go.convert 3 86 (.int .i64 x)).run Try.prog W = .ok (.int .u64 (u64N x : Int)) W := fun W => conv_u64 (P := Try.prog) 3 86 Try.underlying3 Try.underlying86 x W
  have hcz : ∀ W, (Go.convert 3 86 (.int .i64 z)).run Try.prog W = .ok (.int .u64 (u64N z : Int)) W := fun W => conv_u64 (P := Try.prog) 3 86 Try.underlying3 Try.underlying86 z W
  have hp1 : ∀ W, Calls Try.prog 47 #[.slice none 0 0, .int .u64 (u64N x : Int), .int .i64 8] W (Byt W (beB (u64N x) 8)) := fun W => rput_by (Q := fun _ => True) (A := none) (n := 0) (c := 0) (xs := []) 8 rfl (u64N x) hux By.none_ (by simp)
  have hp2 : ∀ (W : World) (A1 : Option Addr) (n1 c1 : Nat), By W (fun _ => True) A1 n1 (beB (u64N x) 8) → Calls Try.prog 47 #[.slice A1 n1 c1, .int .u64 (u64N z : Int), .int .i64 8] W fun e w' => ∃ v n2, e = .returned v ∧ w'.ownsRow W.heap.size 5 1 v n2 (vs (beB (u64N x) 8 ++ beB (u64N z) 8)) ∧ n2 = 16 ∧ Below W.heap.size W w' := fun W A1 n1 c1 h1 => (rput_any (fun _ => True) A1 n1 c1 (beB (u64N x) 8) (u64N z : Int) 8 (by omega) (by omega) W h1 (by have := h1.len; rw [beB_length] at this; omega)).mono fun e w' hm => by
    rw [Int.toNat_natCast, show putB (beB (u64N x) 8) (u64N z) 8 = beB (u64N x) 8 ++ beB (u64N z) 8 from putB_wid (k := 8) rfl _ _] at hm
    obtain ⟨v, he, ho, hb⟩ := hm
    refine ⟨v, _, he, ho, ?_, hb⟩
    obtain ⟨A2, c2, rfl, _⟩ := own_form ho
    have := (By.of_own ho).len
    simp [beB_length] at this
    omega
  have HP1 := Lib.hid hp1
  have HP2 := Lib.hid hp2
  have HT := Lib.hid h
  clear hp1 hp2 h hux huz
  go_enter Try.func66, Try.ntmps66
  go_wp2_with (first
    | (go_at_call 47; (with_reducible refine (HP1.out _).mono ?_); rintro e w1 ⟨A1, n1, c1, rfl, hy, _, _, hb⟩; have HY1 := Lib.hid hy; have X1 : Hid (Below w.heap.size w w1) := Lib.hid hb; clear hy hb)
    | (go_at_call 47; (with_reducible refine (HP2.out _ _ _ _ HY1.out).mono ?_); rintro e w2 ⟨v2, n2, rfl, ho, rfl, hb⟩; have HO2 := Lib.hid ho; have X2 : Hid (Below w.heap.size w w2) := Lib.hid (below_step X1.out hb); have S2 := Lib.hid hb.size; clear ho hb)
    | (at_builtin; refine wpList_append_by _ rfl (.tmp 12) (.tmp 13) 40 rfl w1.heap.size i0 Try.underlying40 hi hz0 hz1 hz2 v2 16 _ rfl HO2.out (fun _ => True) A n c t rfl (HT.out.through X2.out) (by omega) S2.out ?_; intro v3 w3 ho hg _; have X3 : Hid (Below w.heap.size w w3) := Lib.hid (X2.out.grown hg X2.out.size (fun k hk => Nat.le_trans X1.out.size (HO2.out.lt k hk).1)); rw [vs_append] at ho; obtain ⟨A3, c3, rfl, _⟩ := own_form ho; have hst : (Go.convert 40 9 (.slice A3 (16 + n) c3)).run Try.prog w3 = .ok (.string (ba (saidB x z t))) w3 := run_string_by w3 40 9 5 Try.underlying40 Try.underlying5 Try.underlying9 _ A3 (16 + n) c3 _ (By.of_own ho); clear ho hg))
  go_ret
  exact ⟨rfl, X3.out⟩
end

section
open Go.RowKit

theorem ba_beq (x y : List UInt8) : (ba x == ba y) = decide (x = y) := by
  rw [Bool.eq_iff_iff, Go.MapKept.bytes_beq, decide_eq_true_iff]
  exact ⟨fun e => by have := congrArg ByteArray.toList e; rwa [ba_list, ba_list] at this, fun e => by rw [e]⟩
theorem beq_ext : ∀ (a b : BEq (List UInt8)), (∀ x y, a.beq x y = b.beq x y) → a = b := fun ⟨_⟩ ⟨_⟩ h => congrArg BEq.mk (funext fun x => funext fun y => h x y)
theorem beq_inst : (@List.instBEq UInt8 _) = (@instBEqOfDecidableEq (List UInt8) _) := by
  refine beq_ext _ _ fun x y => ?_
  rw [Bool.eq_iff_iff]
  exact ⟨fun e => decide_eq_true (@eq_of_beq _ List.instBEq _ x y e), fun e => by
    have := of_decide_eq_true e
    subst this
    exact @beq_self_eq_true _ List.instBEq _ x⟩
/-- The entries of a map that numbers texts. -/
def entsI (xs : List (List UInt8)) (b : Nat) : List (Value × Value) := (xs.zipIdx b).map fun p => (.string (ba p.1), .int .i64 (p.2 : Int))
theorem entsI_cons (x : List UInt8) (xs : List (List UInt8)) (b : Nat) : entsI (x :: xs) b = (.string (ba x), .int .i64 (b : Int)) :: entsI xs (b + 1) := by simp [entsI]
theorem entsI_snoc (x : List UInt8) (xs : List (List UInt8)) (b : Nat) : entsI (xs ++ [x]) b = entsI xs b ++ [(.string (ba x), .int .i64 ((b + xs.length : Nat) : Int))] := by simp [entsI, List.zipIdx_append]
theorem entsI_length (xs : List (List UInt8)) (b : Nat) : (entsI xs b).length = xs.length := by simp [entsI]
/-- A map that numbers these texts. -/
def MI (W : World) (xs : List (List UInt8)) (r : Nat) : Prop := ∃ es ck, W.heap[r]? = some (.map es ck) ∧ es.toList.map kv = entsI xs 1
theorem MI.lt {W : World} {xs : List (List UInt8)} {r : Nat} (h : MI W xs r) : r < W.heap.size := by
  obtain ⟨es, ck, hb, _⟩ := h
  exact (Array.getElem?_eq_some_iff.1 hb).1
theorem MI.through {W W' : World} {xs : List (List UInt8)} {r : Nat} (h : MI W xs r) (hb : Below W.heap.size W W') : MI W' xs r := by
  have hl := h.lt
  obtain ⟨es, ck, h1, h2⟩ := h
  exact ⟨es, ck, (hb.block r hl).trans h1, h2⟩
theorem MI.grown {W W' : World} {xs : List (List UInt8)} {r : Nat} {row : Option Nat} (h : MI W xs r) (hg : W.grownBy W' row) (hne : some r ≠ row) : MI W' xs r := by
  have hl := h.lt
  obtain ⟨es, ck, h1, h2⟩ := h
  exact ⟨es, ck, (hg.block r hl hne).trans h1, h2⟩
theorem MI.drew {W : World} {xs : List (List UInt8)} {r : Nat} (h : MI W xs r) : MI W.drew xs r := h
theorem findNow_ord (x : List UInt8) : ∀ (xs : List (List UInt8)) (es : List MapEntry) (k b : Nat), es.map kv = entsI xs b →
    Instr.findNow .string (.string (ba x)) es k = some (if x ∈ xs then some (k + xs.idxOf x, .int .i64 ((b + xs.idxOf x : Nat) : Int)) else none)
  | [], es, k, b, h => by
    obtain rfl : es = [] := by simpa [entsI] using h
    simp [Instr.findNow]
  | y :: ys, [], k, b, h => by simp [entsI] at h
  | y :: ys, e :: es, k, b, h => by
    rw [entsI_cons, List.map_cons, List.cons.injEq] at h
    obtain ⟨h1, h2⟩ := h
    have e1 : e.key = .string (ba y) := congrArg Prod.fst h1
    have e2 : e.val = .int .i64 (b : Int) := congrArg Prod.snd h1
    have ih := findNow_ord x ys es (k + 1) (b + 1) h2
    have hs : Instr.sameNow .string (.string (ba x)) e.key = some (decide (x = y)) := by rw [e1]; show some (ba x == ba y) = _; rw [ba_beq]
    unfold Instr.findNow
    rw [hs]
    by_cases hxy : x = y
    · subst hxy
      simp [e2]
    · have hne : ¬ y = x := fun e => hxy e.symm
      rw [decide_eq_false hxy]
      simp only
      rw [ih]
      by_cases hm : x ∈ ys
      · have hi : (y :: ys).idxOf x = ys.idxOf x + 1 := by rw [List.idxOf_cons, beq_eq_false_iff_ne.2 hne]; rfl
        simp only [List.mem_cons, hm, or_true, if_true, hi, Option.some.injEq, Prod.mk.injEq, Value.int.injEq, true_and]
        omega
      · simp [hm, hxy]
abbrev tMI : TypeId := 59
theorem run_findI (x : List UInt8) (w : World) (xs : List (List UInt8)) (es : List MapEntry) (h : es.map kv = entsI xs 1) :
    (Instr.findKey 9 (.string (ba x)) es).run Try.prog w = .ok (if x ∈ xs then some (xs.idxOf x, .int .i64 ((ord x xs : Nat) : Int)) else none) w := by
  refine Go.MapKept.run_findKey Try.underlying9 ?_
  rw [findNow_ord x xs es 0 1 h]
  unfold ord
  by_cases hm : x ∈ xs
  · simp only [if_pos hm, Nat.zero_add, Option.some.injEq, Prod.mk.injEq, Value.int.injEq, true_and]
    rw [Nat.add_comm]
    congr 3
    exact beq_inst
  · simp [hm]
theorem run_lookI {W : World} {xs : List (List UInt8)} {r : Nat} (h : MI W xs r) (x : List UInt8) : (Instr.lookup tMI (.map (some r)) (.string (ba x)) false).run Try.prog W = .ok (.int .i64 (look x xs)) W := by
  obtain ⟨es, ck, hb, hok⟩ := h
  have hget : (getObj r).run Try.prog W = .ok (.map es ck) W := by simp [getObj, Sem.run, hb]
  have hf := run_findI x W xs es.toList hok
  have hch : ∀ em, (Instr.checkKey em 10000 9 (.string (ba x))).run Try.prog W = .ok () W := fun em => run_checkKey_str Try.underlying9 em 9999 (ba x) W
  have hzr : (zeroValue 3).run Try.prog W = .ok (.int .i64 0) W := by kernel_rfl
  have hm : Try.prog.underlying tMI = some (.map 9 3) := Try.underlying59
  unfold Instr.lookup look
  simp only [Sem.run_bind, run_underlying hm, Result.andThen_ok]
  by_cases hmm : x ∈ xs
  · simp [Sem.run_bind, hget, hch, hf, hmm]
  · simp [Sem.run_bind, hget, hch, hf, hmm, hzr]
theorem run_updI {W : World} {xs : List (List UInt8)} {r : Nat} (h : MI W xs r) (x : List UInt8) (hx : x ∉ xs) :
    ∃ W', (Instr.mapUpdate tMI (.map (some r)) (.string (ba x)) (.int .i64 ((xs.length + 1 : Nat) : Int))).run Try.prog W = .ok () W' ∧ MI W' (also x xs) r ∧ W.grownBy W' (some r) := by
  obtain ⟨es, ck, hb, hok⟩ := h
  have hlt : r < W.heap.size := (Array.getElem?_eq_some_iff.1 hb).1
  have hget : (getObj r).run Try.prog W = .ok (.map es ck) W := by simp [getObj, Sem.run, hb]
  have hset : ∀ o : Obj, (setObj r o).run Try.prog W = .ok () { W with heap := W.heap.setIfInBounds r o } := fun o => by simp [setObj, Sem.run, hb]
  have hf := run_findI x W xs es.toList hok
  have hch : ∀ em, (Instr.checkKey em 10000 9 (.string (ba x))).run Try.prog W = .ok () W := fun em => run_checkKey_str Try.underlying9 em 9999 (ba x) W
  have hm : Try.prog.underlying tMI = some (.map 9 3) := Try.underlying59
  refine ⟨{ W with heap := W.heap.setIfInBounds r (.map (es.push { key := .string (ba x), val := .int .i64 ((xs.length + 1 : Nat) : Int), born := ck }) (ck + 1)) }, ?_, ?_, ⟨rfl, rfl, rfl, by simp, fun k _ hne => ?_⟩⟩
  · unfold Instr.mapUpdate
    simp only [Sem.run_bind, run_underlying hm, Result.andThen_ok, hget, hch, hf, if_neg hx]
    exact hset _
  · refine ⟨_, _, Array.getElem?_setIfInBounds_self_of_lt hlt, ?_⟩
    rw [also_new hx, entsI_snoc, Array.toList_push, List.map_append, hok]
    simp [kv, Nat.add_comm]
  · exact Array.getElem?_setIfInBounds_ne (by intro e; exact hne (by rw [e]))
theorem run_lenI {W : World} {xs : List (List UInt8)} {r : Nat} (h : MI W xs r) (ty : TypeId) : (Builtin.len_ #[tMI] ty #[.map (some r)]).run Try.prog W = .ok (.int .i64 (xs.length : Int)) W := by
  obtain ⟨es, ck, hb, hok⟩ := h
  have hget : (getObj r).run Try.prog W = .ok (.map es ck) W := by simp [getObj, Sem.run, hb]
  have hm : Try.prog.underlying tMI = some (.map 9 3) := Try.underlying59
  have hl : es.size = xs.length := by
    have := congrArg List.length hok
    simpa [entsI_length] using this
  simp [Builtin.len_, run_underlying hm, goInt, hget, hl]
end

section
open Go.RowKit

abbrev tID : TypeId := 61
theorem Try.make_mapI (w : World) : (Instr.makeMap tMI none).run Try.prog w = .ok (.map (some w.heap.size)) (w.alloc (.map #[] 0)) := by kernel_rfl
theorem Try.agg_mapI (w : World) : (isAgg tMI).run Try.prog w = .ok false w := by kernel_rfl
/-- A book of the document's: two maps of texts. -/
def IS (W : World) (g : Nat) (ds ts : List (List UInt8)) : Prop := ∃ r1 r2, Blk W g tID [.map (some r1), .map (some r2)] ∧ MI W ds r1 ∧ MI W ts r2 ∧ r1 ≠ g ∧ r2 ≠ g ∧ r1 ≠ r2
theorem IS.lt {W : World} {g : Nat} {ds ts : List (List UInt8)} (h : IS W g ds ts) : g < W.heap.size := by
  obtain ⟨_, _, h1, _⟩ := h
  exact h1.lt
theorem IS.through {W W' : World} {g : Nat} {ds ts : List (List UInt8)} (h : IS W g ds ts) (hb : Below W.heap.size W W') : IS W' g ds ts := by
  obtain ⟨r1, r2, h1, h2, h3, h4⟩ := h
  exact ⟨r1, r2, h1.through hb, h2.through hb, h3.through hb, h4⟩
theorem IS.drew {W : World} {g : Nat} {ds ts : List (List UInt8)} (h : IS W g ds ts) : IS W.drew g ds ts := h

set_option maxHeartbeats 4000000 in
set_option maxRecDepth 100000 in
theorem inew_any (w : World) : Calls Try.prog 8 #[] w fun e w' => ∃ g, e = .returned (.pointer (some ⟨g, 0, none⟩)) ∧ IS w' g [] [] ∧ w.heap.size ≤ g ∧ Below w.heap.size w w' := by
  have hmk := Try.make_mapI
  go_enter Try.func8, Try.ntmps8
  go_wp2
  go_ret
  have h1 : (w.alloc (.map #[] 0)).heap.size = w.heap.size + 1 := by simp
  have h2 : ((w.alloc (.map #[] 0)).alloc (.map #[] 0)).heap.size = w.heap.size + 1 + 1 := by simp
  have e1 : ((w.alloc (.map #[] 0)).alloc (.map #[] 0)).heap[w.heap.size]? = some (.map #[] 0) := (Below.heap_alloc _ _ _ (by omega)).trans (heap_alloc_new w _)
  have e2 : ((w.alloc (.map #[] 0)).alloc (.map #[] 0)).heap[w.heap.size + 1]? = some (.map #[] 0) := by
    rw [← h1]
    exact heap_alloc_new _ _
  refine ⟨w.heap.size + 1 + 1, rfl, ⟨w.heap.size, w.heap.size + 1, Blk.fresh h2.symm rfl, ⟨#[], 0, (Below.heap_alloc _ _ _ (by omega)).trans e1, rfl⟩, ⟨#[], 0, (Below.heap_alloc _ _ _ (by omega)).trans e2, rfl⟩, by omega, by omega, by omega⟩, by omega, ?_⟩
  exact (((Below.refl _ w).alloc (Nat.le_refl _) _).alloc (by omega) _).alloc (by omega) _
end

end Go.Proofs.Ytgbobemhogeeeaa
