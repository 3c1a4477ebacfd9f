/-
  Joined (see wip/m), for a seat with the base told ahead.
-/
import Derived.Test.YtnncfhkgcaoomaaDoorLD
import Derived.Test.YtnncfhkgcaoomaaDoorKF
import Derived.Outline
import Derived.ChangeKeysEq
import Derived.MapKept
import Derived.Laws.Cover3
import Derived.WideLaws
import Derived.RegionTactic
import Derived.ChangeAlike
import Derived.StillTailTactics
import Derived.Deep.QuietTactic
namespace Go.Proofs.YtnncfhkgcaoomaaDoor
open Go.RowKit

/-- a number's last two bytes -/
def a16 (a : Int) : Nat := (a % 65536).toNat

theorem a16_lt (a : Int) : a16 a < 65536 := by unfold a16; omega

def pair (x y : Nat) : List UInt8 := beB x 2 ++ beB y 2

def addr (a b : Int) (t : List UInt8) : List UInt8 := pair (a16 a) (a16 b) ++ t

/-- THE KEY OF TWO, THE LOWER ONE FIRST. -/
def keyB (seed : List UInt8) (x y : Nat) : List UInt8 := hmac seed (pair x y)

def keyAB (seed : List UInt8) (a b : Int) : List UInt8 := keyB seed (min (a16 a) (a16 b)) (max (a16 a) (a16 b))

def tagAB (seed : List UInt8) (a b : Int) (t : List UInt8) : List UInt8 := hmac (keyAB seed a b) (addr a b t)

def digK (k : Int) (t : List UInt8) : List UInt8 := sha (beB (k % 256).toNat 1 ++ t)

theorem pair_length (x y : Nat) : (pair x y).length = 4 := by simp [pair, beB_length]

theorem addr_length (a b : Int) (t : List UInt8) : (addr a b t).length = 4 + t.length := by simp [addr, pair_length]

theorem keyB_length (seed : List UInt8) (x y : Nat) : (keyB seed x y).length = 32 := hmac_length _ _

theorem keyAB_length (seed : List UInt8) (a b : Int) : (keyAB seed a b).length = 32 := hmac_length _ _

theorem tagAB_length (seed : List UInt8) (a b : Int) (t : List UInt8) : (tagAB seed a b t).length = 32 := hmac_length _ _

theorem keyAB_comm (seed : List UInt8) (a b : Int) : keyAB seed a b = keyAB seed b a := by
  unfold keyAB
  rw [Nat.min_comm, Nat.max_comm]

theorem ofNat_mod (v w : Nat) (h : v % 256 = w % 256) : UInt8.ofNat v = UInt8.ofNat w := by
  apply UInt8.toNat_inj.1
  rw [UInt8.toNat_ofNat', UInt8.toNat_ofNat']
  omega

theorem beB_mod2 (v w : Nat) (h : v % 65536 = w % 65536) : beB v 2 = beB w 2 := by
  simp only [beB, List.nil_append]
  rw [ofNat_mod v w (by omega), ofNat_mod (v / 256) (w / 256) (by omega)]

theorem beB_mod1 (v w : Nat) (h : v % 256 = w % 256) : beB v 1 = beB w 1 := by
  simp only [beB, List.nil_append]
  rw [ofNat_mod v w h]

theorem beB_a16 (a : Int) : beB (a % 18446744073709551616).toNat 2 = beB (a16 a) 2 := beB_mod2 _ _ (by unfold a16; omega)

theorem put2_any (Q : Nat → Prop) (A : Option Addr) (n c : Nat) (xs : List UInt8) (a : Int) (w : World) (h : By w Q A n xs) (hn : n ≤ 1000000) (hnc : n ≤ c) :
    Calls Tryd.prog 25 #[.slice A n c, .int .u64 (a % 18446744073709551616), .int .i64 2] w fun e w' => ∃ A' c', e = .returned (.slice A' (n + 2) c') ∧ w'.ownsRow w.heap.size 5 1 (.slice A' (n + 2) c') (n + 2) (vs (xs ++ beB (a16 a) 2)) ∧ n + 2 ≤ c' ∧ c' ≤ maxLen ∧ Below w.heap.size w w' := by
  refine (put_any Q A n c xs _ 2 (by omega) (by omega) w h (by omega) hnc).mono ?_
  rintro e w' ⟨v, rfl, ho, hb⟩
  have e1 : putN n 2 = n + 2 := rfl
  have e2 : putB xs (a % 18446744073709551616).toNat 2 = xs ++ beB (a16 a) 2 := by rw [← beB_a16]; rfl
  rw [e1, e2] at ho
  obtain ⟨A', c', rfl, h1, h2, _⟩ := own_form ho
  exact ⟨A', c', rfl, ho, h1, h2, hb⟩

set_option maxHeartbeats 2000000 in
set_option maxRecDepth 100000 in
theorem addressed_any (Q : Nat → Prop) (a b : Int) (text : List UInt8) (A : Option Addr) (n c : Nat) (w : World) (hby : By w Q A n text) (hn : n ≤ 1000000) :
    Calls Tryd.prog 18 #[.int .i64 a, .int .i64 b, .slice A n c] w fun e w' => ∃ A' c', e = .returned (.slice A' (4 + n) c') ∧ w'.ownsRow w.heap.size 5 1 (.slice A' (4 + n) c') (4 + n) (vs (addr a b text)) ∧ 4 + n ≤ c' ∧ c' ≤ maxLen ∧ Below w.heap.size w w' := by
  obtain ⟨i0, hi, hz0, hz1, hz2⟩ := info_parts Tryd.info_u8
  have HBy := Lib.hid hby
  have hwa : IntKind.u64.wrap a = a % 18446744073709551616 := IntKind.wrap_u64 a
  have hwb : IntKind.u64.wrap b = b % 18446744073709551616 := IntKind.wrap_u64 b
  have hfin : ([] ++ beB (a16 a) 2 ++ beB (a16 b) 2) ++ text = addr a b text := by simp [addr, pair]
  have HF := Lib.hid hfin
  clear hby hfin
  go_enter Tryd.func18, Tryd.ntmps18
  go_wp2_with (first
    | (go_at_call 25; (with_reducible refine (put2_any (fun _ => True) none 0 0 [] a _ By.none_ (by omega) (by omega)).mono ?_); rintro e w1 ⟨A1, c1, rfl, ho1, hc1, _, hb1⟩; have HO1 := Lib.hid ho1; have HX1 := Lib.hid hb1; clear ho1 hb1)
    | (go_at_call 25; (with_reducible refine (put2_any _ A1 _ c1 _ b _ (By.of_own HO1.out) (by omega) (by omega)).mono ?_); rintro e w2 ⟨A2, c2, rfl, ho2, hc2, _, hb2⟩; have HX2 := Lib.hid (HX1.out.trans (hb2.mono HX1.out.size)); have HO2 := Lib.hid (own_weak ho2 HX1.out.size); clear ho2 hb2)
    | (at_builtin; refine wpList_append_by _ rfl (.tmp 15) (.tmp 16) 22 rfl w.heap.size i0 Tryd.underlying22 hi hz0 hz1 hz2 (.slice A2 4 c2) 4 (vs ([] ++ beB (a16 a) 2 ++ beB (a16 b) 2)) rfl HO2.out Q A n c text rfl (HBy.out.through HX2.out) (by omega) HX2.out.size ?_; intro v3 w3 ho3 hg3 _; rw [vs_append, HF.out] at ho3; obtain ⟨A3, c3, rfl, hc3, hm3, _⟩ := own_form ho3; have HO3 := Lib.hid ho3; have HX3 := Lib.hid (HX2.out.grown hg3 HX2.out.size (fun g hg => (HO2.out.lt g hg).1)); clear ho3 hg3))
  go_ret
  exact ⟨A3, c3, rfl, HO3.out, hc3, hm3, HX3.out⟩

/-- Two numbers, as a key. -/
def two (x y : Nat) : Value := .agg #[.int .u16 (x : Int), .int .u16 (y : Int)]

theorem two_inj {x y x' y' : Nat} : two x y = two x' y' ↔ x = x' ∧ y = y' := by
  constructor
  · intro h
    injection h with h
    have h0 := congrArg (fun a => a[0]?) h
    have h1 := congrArg (fun a => a[1]?) h
    simp at h0 h1
    exact ⟨by omega, by omega⟩
  · rintro ⟨rfl, rfl⟩
    rfl

theorem Tryd.info_u16 : (Tryd.prog.info? 57).isSome = true := by kernel_rfl

theorem Tryd.cells_u16 : Tryd.prog.cellsOf 57 = 1 := by kernel_rfl

theorem run_two_eql (x y x' y' : Nat) (w : World) : (Op.equal 58 (two x y) (two x' y')).run Tryd.prog w = .ok (decide (x = x') && decide (y = y')) w := by
  obtain ⟨i, hi⟩ := Option.isSome_iff_exists.1 Tryd.info_u16
  have hag : (isAgg 57).run Tryd.prog w = .ok false w := by simp [isAgg, Sem.run_bind, run_underlying Tryd.underlying57]
  have e1 : ((x : Int) == (x' : Int)) = decide (x = x') := by rw [Bool.eq_iff_iff]; simp; omega
  have e2 : ((y : Int) == (y' : Int)) = decide (y = y') := by rw [Bool.eq_iff_iff]; simp; omega
  unfold two
  show (Op.equalIn 10000 58 _ _).run Tryd.prog w = _
  rw [show (10000 : Nat) = 9998 + 1 + 1 from rfl, run_equalIn_array w (9998 + 1) _ _ Tryd.underlying58 hi, Tryd.cells_u16]
  simp [List.range, List.range.loop, Op.eqItems, part, Sem.run_bind, hag, run_equalIn_int w 9998 57 .u16 .u16 _ _ Tryd.underlying57, e1, e2]
  by_cases h : x = x' <;> by_cases h2 : y = y' <;> simp [h, h2]

theorem run_checkKey_u16 (em : Bool) (n : Nat) (v : Int) (w : World) : (Instr.checkKey em (n + 1) 57 (.int .u16 v)).run Tryd.prog w = .ok () w := by
  unfold Instr.checkKey
  simp [run_underlying Tryd.underlying57]

theorem run_checkKey_twoN (em : Bool) (n : Nat) (x y : Nat) (w : World) : (Instr.checkKey em (n + 1 + 1) 58 (two x y)).run Tryd.prog w = .ok () w := by
  obtain ⟨i, hi⟩ := Option.isSome_iff_exists.1 Tryd.info_u16
  unfold two
  rw [Instr.checkKey]
  simp only [Sem.run_bind, run_underlying Tryd.underlying58, Result.andThen_ok, Std.Legacy.Range.forIn_eq_forIn_range', Std.Legacy.Range.size, Nat.sub_zero, Nat.add_one_sub_one, Nat.div_one]
  simp [List.range', run_sizeOf w hi, Tryd.cells_u16, part, run_checkKey_u16]

theorem run_checkKey_two (em : Bool) (x y : Nat) (w : World) : (Instr.checkKey em 10000 58 (two x y)).run Tryd.prog w = .ok () w := run_checkKey_twoN em 9998 x y w

/-- What is found in entries whose keys are two numbers, in whatever world. -/
theorem run_findAsking_two (x y : Nat) : ∀ (es : List MapEntry) (k : Nat), (∀ e ∈ es, ∃ x' y' : Nat, e.key = two x' y') →
    ∃ r, (∀ w, (Instr.findAsking 58 (two x y) es k).run Tryd.prog w = .ok r w) ∧ (r = none ∨ ∃ j e, r = some (k + j, e.val) ∧ es[j]? = some e ∧ e.key = two x y)
  | [], k, _ => ⟨none, fun _ => rfl, .inl rfl⟩
  | e :: es, k, h => by
    obtain ⟨x', y', he⟩ := h e (List.mem_cons_self ..)
    have hq := run_two_eql x y x' y'
    by_cases hxy : x = x' ∧ y = y'
    · obtain ⟨rfl, rfl⟩ := hxy
      exact ⟨some (k, e.val), fun w => by simp [Instr.findAsking, Sem.run_bind, he, hq], .inr ⟨0, e, rfl, rfl, he⟩⟩
    · have hf : (decide (x = x') && decide (y = y')) = false := by simpa using hxy
      obtain ⟨r, hr, h2⟩ := run_findAsking_two x y es (k + 1) fun e' h' => h e' (List.mem_cons_of_mem _ h')
      refine ⟨r, fun w => by simp [Instr.findAsking, Sem.run_bind, he, hq, hf, hr], ?_⟩
      rcases h2 with h2 | ⟨j, e', h3, h4, h5⟩
      · exact .inl h2
      · exact .inr ⟨j + 1, e', by rw [h3]; congr 2; omega, by simpa using h4, h5⟩

theorem run_findKey_two (x y : Nat) (es : List MapEntry) (h : ∀ e ∈ es, ∃ x' y' : Nat, e.key = two x' y') :
    ∃ r, (∀ w, (Instr.findKey 58 (two x y) es).run Tryd.prog w = .ok r w) ∧ (r = none ∨ ∃ j e, r = some (j, e.val) ∧ es[j]? = some e ∧ e.key = two x y) := by
  unfold Instr.findKey
  simp only [Sem.run_bind, run_underlying Tryd.underlying58, Result.andThen_ok]
  cases es with
  | nil => exact ⟨none, fun _ => rfl, .inl rfl⟩
  | cons e es =>
    have hn : Instr.findNow (.array 2 57) (two x y) (e :: es) 0 = none := rfl
    rw [hn]
    obtain ⟨r, hr, h2⟩ := run_findAsking_two x y (e :: es) 0 h
    exact ⟨r, hr, by simpa using h2⟩

/-- The entries of a table: keys of two numbers, each with its value. -/
def MapOk (f : Nat → Nat → List UInt8) (es : Array MapEntry) : Prop := ∀ e ∈ es.toList, ∃ x y : Nat, e.key = two x y ∧ e.val = .agg (vs (f x y)).toArray

/-- What a map is, in a world: none, or entries in a block beyond g. -/
def MapIs (W : World) (g : Nat) (f : Nat → Nat → List UInt8) (m : Option Nat) : Prop := ∀ r, m = some r → g < r ∧ ∃ es ck, W.heap[r]? = some (.map es ck) ∧ MapOk f es

theorem MapOk.keys {f : Nat → Nat → List UInt8} {es : Array MapEntry} (h : MapOk f es) : ∀ e ∈ es.toList, ∃ x y : Nat, e.key = two x y := fun e he => by
  obtain ⟨x, y, h1, _⟩ := h e he
  exact ⟨x, y, h1⟩

theorem run_lookup_two {W : World} {g : Nat} {f : Nat → Nat → List UInt8} {m : Option Nat} (hm : MapIs W g f m) (x y : Nat) :
    ∃ v ok, (∀ W' : World, (∀ r, m = some r → W'.heap[r]? = W.heap[r]?) → (Instr.lookup 42 (.map m) (two x y) true).run Tryd.prog W' = .ok (.tuple #[.agg (vs v).toArray, .bool ok]) W') ∧ v.length = (if ok then (f x y).length else 32) ∧ (ok = true → v = f x y) := by
  have hz : ∀ W : World, (zeroValue 37).run Tryd.prog W = .ok (.agg (vs (List.replicate 32 0)).toArray) W := fun W => by kernel_rfl
  unfold Instr.lookup
  simp only [Sem.run_bind, run_underlying Tryd.underlying42, Result.andThen_ok]
  cases m with
  | none =>
    obtain ⟨r, hr, h2⟩ := run_findKey_two x y [] (fun e h => by cases h)
    refine ⟨List.replicate 32 0, false, fun W' _ => ?_, rfl, by simp⟩
    rcases h2 with rfl | ⟨j, e, _, h3, _⟩
    · simp [Sem.run_bind, run_checkKey_two, hr, hz]
    · simp at h3
  | some r =>
    obtain ⟨_, es, ck, hb, hok⟩ := hm r rfl
    obtain ⟨q, hq, h2⟩ := run_findKey_two x y es.toList hok.keys
    rcases h2 with rfl | ⟨j, e, rfl, h3, h4⟩
    · refine ⟨List.replicate 32 0, false, fun W' hW => ?_, rfl, by simp⟩
      have hget : (getObj r).run Tryd.prog W' = .ok (.map es ck) W' := by simp [getObj, Sem.run, (hW r rfl).trans hb]
      simp [Sem.run_bind, hget, run_checkKey_two, hq, hz]
    · obtain ⟨x', y', h5, h6⟩ := hok e (List.mem_of_getElem? h3)
      obtain ⟨rfl, rfl⟩ := two_inj.1 (h4.symm.trans h5)
      refine ⟨f x y, true, fun W' hW => ?_, rfl, fun _ => rfl⟩
      have hget : (getObj r).run Tryd.prog W' = .ok (.map es ck) W' := by simp [getObj, Sem.run, (hW r rfl).trans hb]
      simp [Sem.run_bind, hget, run_checkKey_two, hq, h6]

theorem MapOk.push {f : Nat → Nat → List UInt8} {es : Array MapEntry} (h : MapOk f es) (x y b : Nat) : MapOk f (es.push { key := two x y, val := .agg (vs (f x y)).toArray, born := b }) := fun e he => by
  simp at he
  rcases he with he | rfl
  · exact h e (by simpa using he)
  · exact ⟨x, y, rfl, rfl⟩

theorem MapOk.modify {f : Nat → Nat → List UInt8} {es : Array MapEntry} (h : MapOk f es) (j x y : Nat) : MapOk f (es.modify j fun e => { e with key := two x y, val := .agg (vs (f x y)).toArray }) := fun e he => by
  obtain ⟨i, hi⟩ := List.getElem?_of_mem he
  rw [Array.getElem?_toList, Array.getElem?_modify] at hi
  split at hi
  · obtain ⟨e0, _, rfl⟩ := Option.map_eq_some_iff.1 hi
    exact ⟨x, y, rfl, rfl⟩
  · exact h e (by
      rw [← Array.getElem?_toList] at hi
      exact List.mem_of_getElem? hi)

theorem MapOk.empty {f : Nat → Nat → List UInt8} : MapOk f #[] := fun e he => by simp at he

theorem sameBits_two (x y : Nat) : Instr.sameBits 10000 (two x y) (two x y) = true := by
  simp [two, Instr.sameBits]

theorem run_update_two {W : World} {g : Nat} {f : Nat → Nat → List UInt8} {r : Nat} (hm : MapIs W g f (some r)) (x y : Nat) :
    ∃ W', (Instr.mapUpdate 42 (.map (some r)) (two x y) (.agg (vs (f x y)).toArray)).run Tryd.prog W = .ok () W' ∧ MapIs W' g f (some r) ∧ W.grownBy W' (some r) := by
  obtain ⟨hg, es, ck, hb, hok⟩ := hm r rfl
  have hlt : r < W.heap.size := (Array.getElem?_eq_some_iff.1 hb).1
  have hgrow : ∀ o : Obj, W.grownBy { W with heap := W.heap.setIfInBounds r o } (some r) := fun o => ⟨rfl, rfl, rfl, by simp, fun k hk hne => by
    show (W.heap.setIfInBounds r o)[k]? = _
    rw [Array.getElem?_setIfInBounds_ne (by intro e; exact hne (by rw [e]))]⟩
  have hat : ∀ o : Obj, ({ W with heap := W.heap.setIfInBounds r o } : World).heap[r]? = some o := fun o => by
    show (W.heap.setIfInBounds r o)[r]? = _
    rw [Array.getElem?_setIfInBounds_self_of_lt hlt]
  have hget : (getObj r).run Tryd.prog W = .ok (.map es ck) W := by simp [getObj, Sem.run, hb]
  have hset : ∀ o : Obj, (setObj r o).run Tryd.prog W = .ok () { W with heap := W.heap.setIfInBounds r o } := fun o => by simp [setObj, Sem.run, hb]
  obtain ⟨q, hq, h2⟩ := run_findKey_two x y es.toList hok.keys
  unfold Instr.mapUpdate
  simp only [Sem.run_bind, run_underlying Tryd.underlying42, Result.andThen_ok, hget, run_checkKey_two, hq]
  rcases h2 with rfl | ⟨j, e, rfl, h3, h4⟩
  · refine ⟨{ W with heap := W.heap.setIfInBounds r (.map (es.push { key := two x y, val := .agg (vs (f x y)).toArray, born := ck }) (ck + 1)) }, hset _, fun r' e => ?_, hgrow _⟩
    obtain rfl := Option.some.inj e
    exact ⟨hg, _, _, hat _, hok.push x y ck⟩
  · have hk : (((es[j]?).map (·.key)).getD (two x y)) = two x y := by
      rw [← Array.getElem?_toList, h3]
      exact h4
    refine ⟨{ W with heap := W.heap.setIfInBounds r (.map (es.modify j fun e => { e with key := two x y, val := .agg (vs (f x y)).toArray }) ck) }, ?_, fun r' e => ?_, hgrow _⟩
    · simp only [hk, Instr.keyThatStays, sameBits_two, if_true, Sem.run_pure, Sem.run_bind, Result.andThen_ok]
      exact hset _
    · obtain rfl := Option.some.inj e
      exact ⟨hg, _, _, hat _, hok.modify j x y⟩

theorem Tryd.alloc_tag (w : World) : (Instr.alloc 37 true (.tuple #[])).run Tryd.prog w = .ok (.pointer (some ⟨w.heap.size, 0, none⟩)) (w.alloc (.cells (vs (List.replicate 32 0)).toArray 37)) := by kernel_rfl

theorem a16_nat (x : Nat) (h : x < 65536) : a16 (x : Int) = x := by unfold a16; omega

set_option maxHeartbeats 2000000 in
set_option maxRecDepth 100000 in
theorem keyOf_any (Q : Nat → Prop) (seed : List UInt8) (x y : Nat) (hx : x < 65536) (hy : y < 65536) (A : Option Addr) (n c : Nat) (w : World) (hby : By w Q A n seed) (hnc : n ≤ c) (hcm : c ≤ maxLen) (ht : Tab w) (hn : n ≤ 1000000) :
    Calls Tryd.prog 21 #[.slice A n c, two x y] w fun e w' => e = .returned (.agg (vs (keyB seed x y)).toArray) ∧ Below w.heap.size w w' := by
  have HBy := Lib.hid hby
  have HT := Lib.hid ht
  obtain ⟨r, hr⟩ : ∃ r, r = vs (keyB seed x y) := ⟨_, rfl⟩
  have hrl : r.length = 32 := by rw [hr, vs_length, keyB_length]
  have hro : r.toArray.all (·.oneCell') = true := by rw [hr]; exact one_u8
  have had : addr (x : Int) (y : Int) [] = pair x y := by simp [addr, a16_nat x hx, a16_nat y hy]
  have hadr : ∀ W, Calls Tryd.prog 18 #[.int .i64 (x : Int), .int .i64 (y : Int), .slice none 0 0] W fun e w' => ∃ A' c', e = .returned (.slice A' 4 c') ∧ w'.ownsRow W.heap.size 5 1 (.slice A' 4 c') 4 (vs (pair x y)) ∧ 4 ≤ c' ∧ c' ≤ maxLen ∧ Below W.heap.size W w' := fun W => by
    have h := addressed_any (fun _ => True) x y [] none 0 0 W By.none_ (by omega)
    rw [had] at h
    exact h
  have hof : ∀ W A' c', By W Q A n seed → By W (fun _ => True) A' 4 (pair x y) → 4 ≤ c' → c' ≤ maxLen → Tab W → Calls Tryd.prog 17 #[.slice A n c, .slice A' 4 c'] W fun e w' => e = .returned (.agg r.toArray) ∧ Below W.heap.size W w' := fun W A' c' h1 h2 h3 h4 h5 => by
    rw [hr]; exact of_any Q _ seed (pair x y) A A' n c 4 c' W h1 hnc hcm h2 h3 h4 h5 (by omega) (by omega)
  have HAdr := Lib.hid hadr
  have HOf := Lib.hid hof
  have HRl := Lib.hid hrl
  have HRo := Lib.hid hro
  rw [← hr]
  clear hby ht hr hrl hro had hadr hof
  unfold two
  go_enter Tryd.func21, Tryd.ntmps21
  go_wp2_with (first
    | (go_at_call 18; (with_reducible refine (HAdr.out _).mono ?_); rintro e w1 ⟨A1, c1, rfl, ho1, hc1, hm1, hb1⟩; have HX1 : Hid (Below w.heap.size w w1) := Lib.hid ((((Below.refl _ w).alloc (Nat.le_refl _) _).alloc (by simp) _).trans (hb1.mono (by simp only [World.size_alloc]; omega))); have HP1 := Lib.hid ((By.of_own ho1).weak (Q' := fun _ => True) fun _ _ => trivial); have HB1 : Hid (Blk w1 (w.heap.size + 1) 37 (vs zero32)) := Lib.hid ((Blk.fresh (by simp) (by kernel_rfl)).through hb1); clear ho1 hb1)
    | (go_at_call 17; (with_reducible refine (HOf.out _ A1 c1 (HBy.out.through HX1.out) HP1.out hc1 hm1 (HT.out.through HX1.out)).mono ?_); rintro e w2 ⟨rfl, hb2⟩; have HX2 := Lib.hid (HX1.out.trans (hb2.mono HX1.out.size)); have HB2 := Lib.hid (HB1.out.through hb2); clear hb2)
    | (refine wpList_store_row rfl 37 (.tmp 4) (.tmp 13) rfl (w.heap.size + 1) r.toArray rfl rfl 37 (vs zero32).toArray HB2.out (by rw [List.size_toArray, HRl.out]; kernel_rfl) (by rw [List.size_toArray, List.size_toArray, HRl.out]; rfl) HRo.out ?_))
  refine bodyPost_ret (v := .agg r.toArray) (results_cell_row rfl _ _ (w.heap.size + 1) 37 _ (0, 0) _ rfl (HB2.out.row _) Tryd.underlying37 rfl ?r1) rfl ⟨rfl, below_row HX2.out _ (Nat.le_succ _) _⟩
  rw [List.size_toArray, HRl.out]; kernel_rfl

/-- Block g is a table of keys out of a seed, with this map. -/
def TM (W : World) (g : Nat) (seed : List UInt8) (m : Option Nat) : Prop :=
  ∃ As ns cs, Blk W g 44 [.slice As ns cs, .map m] ∧ By W (fun k => k < g) As ns seed ∧ ns ≤ cs ∧ cs ≤ maxLen ∧ MapIs W g (keyB seed) m

def TS (W : World) (g : Nat) (seed : List UInt8) : Prop := ∃ m, TM W g seed m

theorem MapIs.keep {w w' : World} {g : Nat} {f : Nat → Nat → List UInt8} {m : Option Nat} (h : MapIs w g f m) (hk : ∀ r, m = some r → w'.heap[r]? = w.heap[r]?) : MapIs w' g f m := fun r e => by
  obtain ⟨hg, es, ck, hb, hok⟩ := h r e
  exact ⟨hg, es, ck, (hk r e).trans hb, hok⟩

theorem MapIs.lt {w : World} {g : Nat} {f : Nat → Nat → List UInt8} {m : Option Nat} (h : MapIs w g f m) : ∀ r, m = some r → r < w.heap.size := fun r e => by
  obtain ⟨_, es, ck, hb, _⟩ := h r e
  exact (Array.getElem?_eq_some_iff.1 hb).1

theorem MapIs.through {w w' : World} {g : Nat} {f : Nat → Nat → List UInt8} {m : Option Nat} (h : MapIs w g f m) (hb : Below w.heap.size w w') : MapIs w' g f m := h.keep fun r e => hb.block r (h.lt r e)

theorem MapIs.none_ {w : World} {g : Nat} {f : Nat → Nat → List UInt8} : MapIs w g f none := fun _ e => by cases e

theorem TM.through {w w' : World} {g : Nat} {seed : List UInt8} {m : Option Nat} (h : TM w g seed m) (hb : Below w.heap.size w w') : TM w' g seed m := by
  obtain ⟨As, ns, cs, hk, hy, h1, h2, hm⟩ := h
  exact ⟨As, ns, cs, hk.through hb, hy.through hb, h1, h2, hm.through hb⟩

theorem TS.through {w w' : World} {g : Nat} {seed : List UInt8} (h : TS w g seed) (hb : Below w.heap.size w w') : TS w' g seed := by
  obtain ⟨m, hm⟩ := h
  exact ⟨m, hm.through hb⟩

theorem TS.lt {w : World} {g : Nat} {seed : List UInt8} (h : TS w g seed) : g < w.heap.size := by
  obtain ⟨m, As, ns, cs, hk, _⟩ := h
  exact hk.lt

/-- A map is in a block of its own: no cells there. -/
theorem Blk.ne_map {W : World} {k r : Nat} {t : TypeId} {cs : List Value} (h : Blk W k t cs) (hm : ∃ es ck, W.heap[r]? = some (.map es ck)) : some k ≠ some r := fun e => by
  have e := Option.some.inj e
  subst e
  obtain ⟨es, ck, hm⟩ := hm
  unfold Blk at h
  rw [hm] at h
  cases h

/-- An update of the map, at a step of a region that draws. -/
theorem step_update_two {ops : Array Oper} {o : Oper} {a : Act} {W : World} {K : Act → World → Prop} {R : Exit → Act → World → Prop} {E : Prop} (hw : Region.wanted o (yielded ops a.tmps) = true) (m x v : Operand)
    (ho : o.op = .mapUpdate 42 m x v) {g : Nat} {f : Nat → Nat → List UInt8} {r : Nat} (hm : MapIs W g f (some r)) (i j : Nat) (hem : a.eval m = .map (some r)) (hex : a.eval x = two i j) (hev : a.eval v = .agg (vs (f i j)).toArray)
    (h : ∀ W', MapIs W' g f (some r) → W.grownBy W' (some r) → K (a.put o.dst undef) W') : if Region.wanted o (yielded ops a.tmps) = true then Oper.wp Tryd.prog o a W K R else E := by
  rw [if_pos hw]
  obtain ⟨W', hrun, h1, h2⟩ := run_update_two hm i j
  unfold Oper.wp execOp
  simp only [ho, hem, hex, hev, Sem.run_bind, hrun, Result.andThen_ok]
  exact h W' h1 h2

theorem load_map {w : World} {p : Addr} {m : Option Nat} (h : w.cell? p = some (.map m)) : (Instr.loadAt 42 (.pointer (some p))).run Tryd.prog w = .ok (.map m) w := by
  have hag : (isAgg 42).run Tryd.prog w = .ok false w := by kernel_rfl
  simp only [Instr.loadAt, Instr.sureAddr, loadVar, Sem.run_bind, Sem.run_pure, hag, Result.andThen_ok, Bool.false_eq_true, if_false]
  simp [h]

theorem load_slice {w : World} {p : Addr} {v : Value} (h : w.cell? p = some v) : (Instr.loadAt 22 (.pointer (some p))).run Tryd.prog w = .ok v w := by
  have hag : (isAgg 22).run Tryd.prog w = .ok false w := by kernel_rfl
  simp only [Instr.loadAt, Instr.sureAddr, loadVar, Sem.run_bind, Sem.run_pure, hag, Result.andThen_ok, Bool.false_eq_true, if_false]
  simp [h]

/-- A store of one cell of a block that is known whole. -/
theorem wpList_store_map {w : World} {ops : Array Oper} {rest : List Oper} {o : Oper} {a : Act} {Q : Exit → Act → World → Prop} (hgd : o.guard = none) (x y : Operand) (ho : o.op = .store 42 x y)
    (g i : Nat) (hx : a.eval x = .pointer (some ⟨g, i, none⟩)) (m : Option Nat) (hy : a.eval y = .map m) (t : TypeId) (cs : List Value) (hb : Blk w g t cs) (hi : i < cs.length)
    (h : ∀ w', Blk w' g t (cs.set i (.map m)) → w.grownBy w' (some g) → wpList Tryd.prog ops Q rest (a.put o.dst undef) w') : wpList Tryd.prog ops Q (o :: rest) a w :=
  wpList_plain hgd fun K hK => by
    have hc := hb.cellAt (List.getElem?_eq_getElem hi)
    have hf := hb.frozen i
    have hcs : (Value.map m).cells = #[.map m] := rfl
    have hrun : (Instr.storeAt 42 (.pointer (some ⟨g, i, none⟩)) (.map m)).run Tryd.prog w = .ok () (w.setCell ⟨g, i, none⟩ (.map m)) := by
      simp only [Instr.storeAt, Instr.sureAddr, storeVar, Sem.run_bind, Sem.run_pure, Result.andThen_ok]
      have ha : (⟨g, i, none⟩ : Addr).add 0 = ⟨g, i, none⟩ := by simp [Addr.add]
      simp [hcs, storeCells, ha, store, Sem.run, hc, hf]
    unfold Oper.wp execOp
    simp only [ho, hx, hy, Sem.run_bind, hrun, Result.andThen_ok]
    exact hK _ _ (h _ (hb.set_ i (.map m)) (only_set w g i (.map m)))

theorem Tryd.make_map (w : World) : (Instr.makeMap 42 none).run Tryd.prog w = .ok (.map (some w.heap.size)) (w.alloc (.map #[] 0)) := by kernel_rfl

abbrev pairC (x y : Nat) : List Value := [.int .u16 (x : Int), .int .u16 (y : Int)]

theorem MapIs.drew_ {W : World} {g : Nat} {f : Nat → Nat → List UInt8} {m : Option Nat} (h : MapIs W g f m) : MapIs W.drew g f m := h

theorem map_at {W : World} {g r : Nat} {f : Nat → Nat → List UInt8} (h : MapIs W g f (some r)) : ∃ es ck, W.heap[r]? = some (.map es ck) := by
  obtain ⟨_, es, ck, hb, _⟩ := h r rfl
  exact ⟨es, ck, hb⟩

theorem keep_new {w wz : World} {g x y : Nat} {kq : List Value} {cs0 : List Value} (f : Nat → Nat → List UInt8) (hb : Blk w g 44 cs0)
    (hbz : Blk wz g 44 (cs0.set 1 (.map (some (w.heap.size + 1 + 1)))))
    (hgz : (((w.alloc (.cells (pairC x y).toArray 58)).alloc (.cells kq.toArray 37)).alloc (.map #[] 0)).grownBy wz (some g)) :
    Blk wz w.heap.size 58 (pairC x y) ∧ Blk wz (w.heap.size + 1) 37 kq ∧ MapIs wz g f (some (w.heap.size + 1 + 1)) ∧ KF g w wz := by
  have hg := hb.lt
  have e4 : (some w.heap.size : Option Nat) ≠ some g := fun e => by have := Option.some.inj e; omega
  have e5 : (some (w.heap.size + 1) : Option Nat) ≠ some g := fun e => by have := Option.some.inj e; omega
  have er : (some (w.heap.size + 1 + 1) : Option Nat) ≠ some g := fun e => by have := Option.some.inj e; omega
  refine ⟨(((Blk.fresh rfl rfl).alloc _).alloc _).grown hgz e4, ((Blk.fresh (by simp) rfl).alloc _).grown hgz e5, fun r hr => ?_, ?_⟩
  · obtain rfl := Option.some.inj hr
    refine ⟨by omega, #[], 0, ?_, MapOk.empty⟩
    rw [hgz.block (w.heap.size + 1 + 1) (by simp) er]
    have h := heap_alloc_new ((w.alloc (.cells (pairC x y).toArray 58)).alloc (.cells kq.toArray 37)) (.map #[] 0)
    simpa using h
  · have e : ((w.alloc (.cells (pairC x y).toArray 58)).alloc (.cells kq.toArray 37)).heap.size = w.heap.size + 1 + 1 := by simp
    have hbz' : Blk wz g 44 (cs0.set 1 (Value.map (some ((w.alloc (.cells (pairC x y).toArray 58)).alloc (.cells kq.toArray 37)).heap.size))) := by rw [e]; exact hbz
    exact (KF.of_below hg (((Below.refl w.heap.size w).alloc (Nat.le_refl _) (.cells (pairC x y).toArray 58)).alloc (by simp) (.cells kq.toArray 37))).trans (KF.newMap (i := 1) ((hb.alloc (.cells (pairC x y).toArray 58)).alloc (.cells kq.toArray 37)) hbz' hgz)

theorem keep_old {w : World} {g x y : Nat} {kq : List Value} {cs0 : List Value} {m : Option Nat} (f : Nat → Nat → List UInt8) (hb : Blk w g 44 cs0) (hm : MapIs w g f m) :
    Blk ((w.alloc (.cells (pairC x y).toArray 58)).alloc (.cells kq.toArray 37)) w.heap.size 58 (pairC x y) ∧ Blk ((w.alloc (.cells (pairC x y).toArray 58)).alloc (.cells kq.toArray 37)) (w.heap.size + 1) 37 kq ∧
    MapIs ((w.alloc (.cells (pairC x y).toArray 58)).alloc (.cells kq.toArray 37)) g f m ∧ KF g w ((w.alloc (.cells (pairC x y).toArray 58)).alloc (.cells kq.toArray 37)) := by
  have hg := hb.lt
  have hx : Below w.heap.size w ((w.alloc (.cells (pairC x y).toArray 58)).alloc (.cells kq.toArray 37)) := ((Below.refl _ w).alloc (Nat.le_refl _) _).alloc (by simp) _
  exact ⟨(Blk.fresh rfl rfl).alloc _, Blk.fresh (by simp) rfl, hm.through hx, KF.of_below hg hx⟩

set_option maxHeartbeats 4000000 in
set_option maxRecDepth 100000 in
theorem keep_none (g : Nat) (seed : List UInt8) (x y : Nat) (w : World) (h : TM w g seed none) :
    Calls Tryd.prog 22 #[.pointer (some ⟨g, 0, none⟩), two x y, .agg (vs (keyB seed x y)).toArray] w fun e w' => e = .returned (.tuple #[]) ∧ TS w' g seed ∧ KF g w w' := by
  obtain ⟨As, ns, cs, hb, hsd, hnc, hcm, hm⟩ := h
  have hg := hb.lt
  obtain ⟨kq, hkq⟩ : ∃ kq, kq = vs (keyB seed x y) := ⟨_, rfl⟩
  have hkl : kq.length = 32 := by rw [hkq, vs_length, keyB_length]
  have HKl := Lib.hid hkl
  have HKe : Hid (kq = vs (keyB seed x y)) := Lib.hid hkq
  have HB0 := Lib.hid hb
  have HSd := Lib.hid hsd
  have HM0 := Lib.hid hm
  have hq := fun (W : World) (m : Option Nat) => run_eql_map_nil (P := Tryd.prog) W 42 58 37 m Tryd.underlying42
  have hmk := Tryd.make_map
  have c1 : w.cell? ⟨g, 1, none⟩ = some (.map none) := hb.cellAt rfl
  rw [← hkq]
  clear hb hsd hkq hkl hm
  unfold two
  go_enter Tryd.func22, Tryd.ntmps22
  go_wp2_with (refine wpList_store_map rfl (.tmp 22) (.tmp 20) rfl g 1 rfl (some (w.heap.size + 1 + 1)) rfl 44 [.slice As ns cs, .map none] (((HB0.out.alloc _).alloc _).alloc _) (by simp) ?_; intro wz hbz hgz; obtain ⟨h4, h5, hmz, hfz⟩ := keep_new (keyB seed) HB0.out hbz hgz; clear hgz)
  obtain ⟨r, hr⟩ : ∃ r, r = w.heap.size + 1 + 1 := ⟨_, rfl⟩
  rw [← hr] at hbz hmz
  rw [← hr]
  obtain ⟨b5, hb5⟩ : ∃ b5, b5 = w.heap.size + 1 := ⟨_, rfl⟩
  rw [← hb5] at h5
  rw [← hb5]
  obtain ⟨b4, hb4⟩ : ∃ b4, b4 = w.heap.size := ⟨_, rfl⟩
  rw [← hb4] at h4
  rw [← hb4]
  clear hr hb5 hb4
  have HB := Lib.hid hbz
  have H4 := Lib.hid h4
  have H5 := Lib.hid h5
  have HM := Lib.hid hmz
  have HFz := Lib.hid hfz
  clear hbz h4 h5 hmz hfz
  try dsimp only [Act.put]
  refine wp_region_held_drew (S := fun W => Blk W g 44 [.slice As ns cs, .map (some r)] ∧ Blk W b4 58 [.int .u16 (x : Int), .int .u16 (y : Int)] ∧ Blk W b5 37 kq) (by kernel_rfl) ⟨HB.out.drew, H4.out.drew, H5.out.drew⟩ (fun hHeld => ?_)
  change wpAnyH _ _ _ _ _ _ #[false, false, false, false, false, false, false] _ _
  refine wpAnyH_take (i := 0) (v := (.pointer (some ⟨g, 0, none⟩))) rfl (by kernel_rfl) (by kernel_rfl) (by kernel_rfl) (fun _ _ _ h => h) (Or.inl ⟨by kernel_rfl, fun w hSw => ?_⟩) (by assumption) ?_
  · (try dsimp only at hSw); go_simp <;> (try rfl)
  change wpAnyH _ _ _ _ _ _ _ (Act.put _ (some (23 : Nat)) (.pointer (some ⟨g, 0, none⟩))) _
  simp only [Act.put, List.setIfInBounds_toArray, List.set_cons_zero, List.set_cons_succ]
  refine wpAnyH_take (i := 1) (v := (.pointer (some ⟨g, 0, none⟩))) rfl (by kernel_rfl) (by kernel_rfl) (by kernel_rfl) (fun _ _ _ h => h) (Or.inl ⟨by kernel_rfl, fun w hSw => ?_⟩) (by assumption) ?_
  · (try dsimp only at hSw); go_simp <;> (try rfl)
  change wpAnyH _ _ _ _ _ _ _ (Act.put _ (some (24 : Nat)) (.pointer (some ⟨g, 0, none⟩))) _
  simp only [Act.put, List.setIfInBounds_toArray, List.set_cons_zero, List.set_cons_succ]
  refine wpAnyH_take (i := 2) (v := (.pointer (some ⟨g, 1, none⟩))) rfl (by kernel_rfl) (by kernel_rfl) (by kernel_rfl) (fun _ _ _ h => h) (Or.inl ⟨by kernel_rfl, fun w hSw => ?_⟩) (by assumption) ?_
  · (try dsimp only at hSw); go_simp <;> (try rfl)
  change wpAnyH _ _ _ _ _ _ _ (Act.put _ (some (25 : Nat)) (.pointer (some ⟨g, 1, none⟩))) _
  simp only [Act.put, List.setIfInBounds_toArray, List.set_cons_zero, List.set_cons_succ]
  refine wpAnyH_take (i := 3) (v := (.map (some r))) rfl (by kernel_rfl) (by kernel_rfl) (by kernel_rfl) (fun _ _ _ h => h) (yields_load_at (by kernel_rfl) 42 (.tmp 25) rfl (.pointer (some ⟨g, 1, none⟩)) (by simp [Act.eval]) (.map (some r)) (fun W hW => load_map (hW.1.cellAt rfl))) (by assumption) ?_
  change wpAnyH _ _ _ _ _ _ _ (Act.put _ (some (26 : Nat)) (.map (some r))) _
  simp only [Act.put, List.setIfInBounds_toArray, List.set_cons_zero, List.set_cons_succ]
  refine wpAnyH_take (i := 4) (v := (.agg #[.int .u16 (x : Int), .int .u16 (y : Int)])) rfl (by kernel_rfl) (by kernel_rfl) (by kernel_rfl) (fun _ _ _ h => h) (yields_load_at (by kernel_rfl) 58 (.tmp 4) rfl (.pointer (some ⟨b4, 0, none⟩)) (by simp [Act.eval]) (.agg #[.int .u16 (x : Int), .int .u16 (y : Int)]) (fun W hW => hW.2.1.loadAt 58 _ Tryd.underlying58 rfl (by kernel_rfl))) (by assumption) ?_
  change wpAnyH _ _ _ _ _ _ _ (Act.put _ (some (27 : Nat)) (.agg #[.int .u16 (x : Int), .int .u16 (y : Int)])) _
  simp only [Act.put, List.setIfInBounds_toArray, List.set_cons_zero, List.set_cons_succ]
  refine wpAnyH_take (i := 5) (v := (.agg kq.toArray)) rfl (by kernel_rfl) (by kernel_rfl) (by kernel_rfl) (fun _ _ _ h => h) (yields_load_at (by kernel_rfl) 37 (.tmp 5) rfl (.pointer (some ⟨b5, 0, none⟩)) (by simp [Act.eval]) (.agg kq.toArray) (fun W hW => hW.2.2.loadAt 37 _ Tryd.underlying37 rfl (by rw [HKl.out]; kernel_rfl))) (by assumption) ?_
  change wpAnyH _ _ _ _ _ _ _ (Act.put _ (some (28 : Nat)) (.agg kq.toArray)) _
  simp only [Act.put, List.setIfInBounds_toArray, List.set_cons_zero, List.set_cons_succ]
  refine wpAnyH_ready (rs := [6]) (by kernel_rfl) (by simp) ?_
  refine AllReadyH.cons (o := ⟨none, .mapUpdate 42 (.tmp 26) (.tmp 27) (.tmp 28), _, _, _, none⟩) rfl (fun K hK => ?_) AllReadyH.nil
  refine step_update_two (by kernel_rfl) (.tmp 26) (.tmp 27) (.tmp 28) rfl HM.out.drew_ x y (by simp [Act.eval]) (by simp [Act.eval, two]) (by simp [Act.eval]; exact HKe.out) ?_; intro wu hmu hgu; have HMu := Lib.hid hmu; have hmap := map_at HM.out; have HBu := Lib.hid (HB.out.drew.grown hgu (HB.out.drew.ne_map hmap)); have H4u := Lib.hid (H4.out.drew.grown hgu (H4.out.drew.ne_map hmap)); have H5u := Lib.hid (H5.out.drew.grown hgu (H5.out.drew.ne_map hmap)); have HFu := Lib.hid (HFz.out.drew.trans (KF.turn hgu (HM.out r rfl).1 ⟨_, _, _, 1, HB.out.drew, rfl⟩ hmap)); clear hmu hgu hmap
  refine hK.out _ _ ⟨HBu.out, H4u.out, H5u.out⟩ (fun hHeld1 => ?_)
  clear hHeld hK K
  have hHeld := hHeld1
  clear hHeld1
  change wpAnyH _ _ _ _ _ _ _ (Act.put _ none undef) _
  simp only [Act.put]
  refine wpAnyH_done (by kernel_rfl) ?_ _
  go_wp2
  exact bodyPost_end (v := .tuple #[]) (by kernel_rfl) rfl ⟨rfl, ⟨some r, As, ns, cs, HBu.out, HSd.out.kfLow HFu.out, hnc, hcm, HMu.out⟩, HFu.out⟩

set_option maxHeartbeats 4000000 in
set_option maxRecDepth 100000 in
theorem keep_full (g : Nat) (seed : List UInt8) (x y : Nat) (w : World) (r0 : Nat) (h : TM w g seed (some r0)) (hfull : ∀ es ck, w.heap[r0]? = some (.map es ck) → 121 ≤ es.size) :
    Calls Tryd.prog 22 #[.pointer (some ⟨g, 0, none⟩), two x y, .agg (vs (keyB seed x y)).toArray] w fun e w' => e = .returned (.tuple #[]) ∧ TS w' g seed ∧ KF g w w' := by
  obtain ⟨As, ns, cs, hb, hsd, hnc, hcm, hm⟩ := h
  have hg := hb.lt
  obtain ⟨kq, hkq⟩ : ∃ kq, kq = vs (keyB seed x y) := ⟨_, rfl⟩
  have hkl : kq.length = 32 := by rw [hkq, vs_length, keyB_length]
  have HKl := Lib.hid hkl
  have HKe : Hid (kq = vs (keyB seed x y)) := Lib.hid hkq
  have HB0 := Lib.hid hb
  have HSd := Lib.hid hsd
  have HM0 := Lib.hid hm
  have hq := fun (W : World) (m : Option Nat) => run_eql_map_nil (P := Tryd.prog) W 42 58 37 m Tryd.underlying42
  have hmk := Tryd.make_map
  have c1 : w.cell? ⟨g, 1, none⟩ = some (.map (some r0)) := hb.cellAt rfl
  obtain ⟨hgr, es, ck, hes, hok⟩ := hm r0 rfl
  have hr0 := (Array.getElem?_eq_some_iff.1 hes).1
  have hes2 : ((w.alloc (.cells (pairC x y).toArray 58)).alloc (.cells kq.toArray 37)).heap[r0]? = some (.map es ck) := (Below.heap_alloc _ _ r0 (by simp; omega)).trans ((Below.heap_alloc w _ r0 hr0).trans hes)
  have hlen := fun (ty : TypeId) => run_len_map (P := Tryd.prog) ((w.alloc (.cells (pairC x y).toArray 58)).alloc (.cells kq.toArray 37)) 42 ty r0 es ck (by kernel_rfl) hes2
  have hsz := hfull es ck hes
  simp only [pairC] at hlen
  have hsz2 : decide ((121 : Int) ≤ (es.size : Int)) = true := by simp; omega
  clear hes2 hes hok hfull hgr hr0
  rw [← hkq]
  clear hb hsd hkq hkl hm
  unfold two
  go_enter Tryd.func22, Tryd.ntmps22
  go_wp2_with (refine wpList_store_map rfl (.tmp 22) (.tmp 20) rfl g 1 rfl (some (w.heap.size + 1 + 1)) rfl 44 [.slice As ns cs, .map (some r0)] (((HB0.out.alloc _).alloc _).alloc _) (by simp) ?_; intro wz hbz hgz; obtain ⟨h4, h5, hmz, hfz⟩ := keep_new (keyB seed) HB0.out hbz hgz; clear hgz)
  obtain ⟨r, hr⟩ : ∃ r, r = w.heap.size + 1 + 1 := ⟨_, rfl⟩
  rw [← hr] at hbz hmz
  rw [← hr]
  obtain ⟨b5, hb5⟩ : ∃ b5, b5 = w.heap.size + 1 := ⟨_, rfl⟩
  rw [← hb5] at h5
  rw [← hb5]
  obtain ⟨b4, hb4⟩ : ∃ b4, b4 = w.heap.size := ⟨_, rfl⟩
  rw [← hb4] at h4
  rw [← hb4]
  clear hr hb5 hb4
  have HB := Lib.hid hbz
  have H4 := Lib.hid h4
  have H5 := Lib.hid h5
  have HM := Lib.hid hmz
  have HFz := Lib.hid hfz
  clear hbz h4 h5 hmz hfz
  try dsimp only [Act.put]
  refine wp_region_held_drew (S := fun W => Blk W g 44 [.slice As ns cs, .map (some r)] ∧ Blk W b4 58 [.int .u16 (x : Int), .int .u16 (y : Int)] ∧ Blk W b5 37 kq) (by kernel_rfl) ⟨HB.out.drew, H4.out.drew, H5.out.drew⟩ (fun hHeld => ?_)
  change wpAnyH _ _ _ _ _ _ #[false, false, false, false, false, false, false] _ _
  refine wpAnyH_take (i := 0) (v := (.pointer (some ⟨g, 0, none⟩))) rfl (by kernel_rfl) (by kernel_rfl) (by kernel_rfl) (fun _ _ _ h => h) (Or.inl ⟨by kernel_rfl, fun w hSw => ?_⟩) (by assumption) ?_
  · (try dsimp only at hSw); go_simp <;> (try rfl)
  change wpAnyH _ _ _ _ _ _ _ (Act.put _ (some (23 : Nat)) (.pointer (some ⟨g, 0, none⟩))) _
  simp only [Act.put, List.setIfInBounds_toArray, List.set_cons_zero, List.set_cons_succ]
  refine wpAnyH_take (i := 1) (v := (.pointer (some ⟨g, 0, none⟩))) rfl (by kernel_rfl) (by kernel_rfl) (by kernel_rfl) (fun _ _ _ h => h) (Or.inl ⟨by kernel_rfl, fun w hSw => ?_⟩) (by assumption) ?_
  · (try dsimp only at hSw); go_simp <;> (try rfl)
  change wpAnyH _ _ _ _ _ _ _ (Act.put _ (some (24 : Nat)) (.pointer (some ⟨g, 0, none⟩))) _
  simp only [Act.put, List.setIfInBounds_toArray, List.set_cons_zero, List.set_cons_succ]
  refine wpAnyH_take (i := 2) (v := (.pointer (some ⟨g, 1, none⟩))) rfl (by kernel_rfl) (by kernel_rfl) (by kernel_rfl) (fun _ _ _ h => h) (Or.inl ⟨by kernel_rfl, fun w hSw => ?_⟩) (by assumption) ?_
  · (try dsimp only at hSw); go_simp <;> (try rfl)
  change wpAnyH _ _ _ _ _ _ _ (Act.put _ (some (25 : Nat)) (.pointer (some ⟨g, 1, none⟩))) _
  simp only [Act.put, List.setIfInBounds_toArray, List.set_cons_zero, List.set_cons_succ]
  refine wpAnyH_take (i := 3) (v := (.map (some r))) rfl (by kernel_rfl) (by kernel_rfl) (by kernel_rfl) (fun _ _ _ h => h) (yields_load_at (by kernel_rfl) 42 (.tmp 25) rfl (.pointer (some ⟨g, 1, none⟩)) (by simp [Act.eval]) (.map (some r)) (fun W hW => load_map (hW.1.cellAt rfl))) (by assumption) ?_
  change wpAnyH _ _ _ _ _ _ _ (Act.put _ (some (26 : Nat)) (.map (some r))) _
  simp only [Act.put, List.setIfInBounds_toArray, List.set_cons_zero, List.set_cons_succ]
  refine wpAnyH_take (i := 4) (v := (.agg #[.int .u16 (x : Int), .int .u16 (y : Int)])) rfl (by kernel_rfl) (by kernel_rfl) (by kernel_rfl) (fun _ _ _ h => h) (yields_load_at (by kernel_rfl) 58 (.tmp 4) rfl (.pointer (some ⟨b4, 0, none⟩)) (by simp [Act.eval]) (.agg #[.int .u16 (x : Int), .int .u16 (y : Int)]) (fun W hW => hW.2.1.loadAt 58 _ Tryd.underlying58 rfl (by kernel_rfl))) (by assumption) ?_
  change wpAnyH _ _ _ _ _ _ _ (Act.put _ (some (27 : Nat)) (.agg #[.int .u16 (x : Int), .int .u16 (y : Int)])) _
  simp only [Act.put, List.setIfInBounds_toArray, List.set_cons_zero, List.set_cons_succ]
  refine wpAnyH_take (i := 5) (v := (.agg kq.toArray)) rfl (by kernel_rfl) (by kernel_rfl) (by kernel_rfl) (fun _ _ _ h => h) (yields_load_at (by kernel_rfl) 37 (.tmp 5) rfl (.pointer (some ⟨b5, 0, none⟩)) (by simp [Act.eval]) (.agg kq.toArray) (fun W hW => hW.2.2.loadAt 37 _ Tryd.underlying37 rfl (by rw [HKl.out]; kernel_rfl))) (by assumption) ?_
  change wpAnyH _ _ _ _ _ _ _ (Act.put _ (some (28 : Nat)) (.agg kq.toArray)) _
  simp only [Act.put, List.setIfInBounds_toArray, List.set_cons_zero, List.set_cons_succ]
  refine wpAnyH_ready (rs := [6]) (by kernel_rfl) (by simp) ?_
  refine AllReadyH.cons (o := ⟨none, .mapUpdate 42 (.tmp 26) (.tmp 27) (.tmp 28), _, _, _, none⟩) rfl (fun K hK => ?_) AllReadyH.nil
  refine step_update_two (by kernel_rfl) (.tmp 26) (.tmp 27) (.tmp 28) rfl HM.out.drew_ x y (by simp [Act.eval]) (by simp [Act.eval, two]) (by simp [Act.eval]; exact HKe.out) ?_; intro wu hmu hgu; have HMu := Lib.hid hmu; have hmap := map_at HM.out; have HBu := Lib.hid (HB.out.drew.grown hgu (HB.out.drew.ne_map hmap)); have H4u := Lib.hid (H4.out.drew.grown hgu (H4.out.drew.ne_map hmap)); have H5u := Lib.hid (H5.out.drew.grown hgu (H5.out.drew.ne_map hmap)); have HFu := Lib.hid (HFz.out.drew.trans (KF.turn hgu (HM.out r rfl).1 ⟨_, _, _, 1, HB.out.drew, rfl⟩ hmap)); clear hmu hgu hmap
  refine hK.out _ _ ⟨HBu.out, H4u.out, H5u.out⟩ (fun hHeld1 => ?_)
  clear hHeld hK K
  have hHeld := hHeld1
  clear hHeld1
  change wpAnyH _ _ _ _ _ _ _ (Act.put _ none undef) _
  simp only [Act.put]
  refine wpAnyH_done (by kernel_rfl) ?_ _
  go_wp2
  exact bodyPost_end (v := .tuple #[]) (by kernel_rfl) rfl ⟨rfl, ⟨some r, As, ns, cs, HBu.out, HSd.out.kfLow HFu.out, hnc, hcm, HMu.out⟩, HFu.out⟩

set_option maxHeartbeats 4000000 in
set_option maxRecDepth 100000 in
theorem keep_room (g : Nat) (seed : List UInt8) (x y : Nat) (w : World) (r : Nat) (h : TM w g seed (some r)) (hfull : ∀ es ck, w.heap[r]? = some (.map es ck) → es.size < 121) :
    Calls Tryd.prog 22 #[.pointer (some ⟨g, 0, none⟩), two x y, .agg (vs (keyB seed x y)).toArray] w fun e w' => e = .returned (.tuple #[]) ∧ TS w' g seed ∧ KF g w w' := by
  obtain ⟨As, ns, cs, hb, hsd, hnc, hcm, hm⟩ := h
  have hg := hb.lt
  obtain ⟨kq, hkq⟩ : ∃ kq, kq = vs (keyB seed x y) := ⟨_, rfl⟩
  have hkl : kq.length = 32 := by rw [hkq, vs_length, keyB_length]
  have HKl := Lib.hid hkl
  have HKe : Hid (kq = vs (keyB seed x y)) := Lib.hid hkq
  have HB0 := Lib.hid hb
  have HSd := Lib.hid hsd
  have HM0 := Lib.hid hm
  have hq := fun (W : World) (m : Option Nat) => run_eql_map_nil (P := Tryd.prog) W 42 58 37 m Tryd.underlying42
  have hmk := Tryd.make_map
  have c1 : w.cell? ⟨g, 1, none⟩ = some (.map (some r)) := hb.cellAt rfl
  obtain ⟨hgr, es, ck, hes, hok⟩ := hm r rfl
  have hr := (Array.getElem?_eq_some_iff.1 hes).1
  have hes2 : ((w.alloc (.cells (pairC x y).toArray 58)).alloc (.cells kq.toArray 37)).heap[r]? = some (.map es ck) := (Below.heap_alloc _ _ r (by simp; omega)).trans ((Below.heap_alloc w _ r hr).trans hes)
  have hlen := fun (ty : TypeId) => run_len_map (P := Tryd.prog) ((w.alloc (.cells (pairC x y).toArray 58)).alloc (.cells kq.toArray 37)) 42 ty r es ck (by kernel_rfl) hes2
  have hsz := hfull es ck hes
  simp only [pairC] at hlen
  have hsz2 : decide ((121 : Int) ≤ (es.size : Int)) = false := by simp; omega
  obtain ⟨h4, h5, hmz, hfz⟩ := keep_old (x := x) (y := y) (kq := kq) (keyB seed) hb hm
  have hbz := (hb.alloc (.cells (pairC x y).toArray 58)).alloc (.cells kq.toArray 37)
  have H4' := Lib.hid h4
  have H5' := Lib.hid h5
  have HM' := Lib.hid hmz
  have HFz' := Lib.hid hfz
  have HB' := Lib.hid hbz
  clear hes2 hes hok hfull hgr hr h4 h5 hmz hfz hbz
  rw [← hkq]
  clear hb hsd hkq hkl hm
  unfold two
  go_enter Tryd.func22, Tryd.ntmps22
  go_wp2
  obtain ⟨wz, hwz⟩ : ∃ wz, wz = ((w.alloc (.cells (pairC x y).toArray 58)).alloc (.cells kq.toArray 37)) := ⟨_, rfl⟩
  have h4 := H4'.out
  have h5 := H5'.out
  have hmz := HM'.out
  have hfz := HFz'.out
  have hbz := HB'.out
  rw [← hwz] at h4 h5 hmz hfz hbz
  simp only [pairC] at hwz
  rw [← hwz]
  clear H4' H5' HM' HFz' HB' hwz
  obtain ⟨b5, hb5⟩ : ∃ b5, b5 = w.heap.size + 1 := ⟨_, rfl⟩
  rw [← hb5] at h5
  rw [← hb5]
  obtain ⟨b4, hb4⟩ : ∃ b4, b4 = w.heap.size := ⟨_, rfl⟩
  rw [← hb4] at h4
  rw [← hb4]
  clear hb5 hb4
  have HB := Lib.hid hbz
  have H4 := Lib.hid h4
  have H5 := Lib.hid h5
  have HM := Lib.hid hmz
  have HFz := Lib.hid hfz
  clear hbz h4 h5 hmz hfz
  try dsimp only [Act.put]
  refine wp_region_held_drew (S := fun W => Blk W g 44 [.slice As ns cs, .map (some r)] ∧ Blk W b4 58 [.int .u16 (x : Int), .int .u16 (y : Int)] ∧ Blk W b5 37 kq) (by kernel_rfl) ⟨HB.out.drew, H4.out.drew, H5.out.drew⟩ (fun hHeld => ?_)
  change wpAnyH _ _ _ _ _ _ #[false, false, false, false, false, false, false] _ _
  refine wpAnyH_take (i := 0) (v := (.pointer (some ⟨g, 0, none⟩))) rfl (by kernel_rfl) (by kernel_rfl) (by kernel_rfl) (fun _ _ _ h => h) (Or.inl ⟨by kernel_rfl, fun w hSw => ?_⟩) (by assumption) ?_
  · (try dsimp only at hSw); go_simp <;> (try rfl)
  change wpAnyH _ _ _ _ _ _ _ (Act.put _ (some (23 : Nat)) (.pointer (some ⟨g, 0, none⟩))) _
  simp only [Act.put, List.setIfInBounds_toArray, List.set_cons_zero, List.set_cons_succ]
  refine wpAnyH_take (i := 1) (v := (.pointer (some ⟨g, 0, none⟩))) rfl (by kernel_rfl) (by kernel_rfl) (by kernel_rfl) (fun _ _ _ h => h) (Or.inl ⟨by kernel_rfl, fun w hSw => ?_⟩) (by assumption) ?_
  · (try dsimp only at hSw); go_simp <;> (try rfl)
  change wpAnyH _ _ _ _ _ _ _ (Act.put _ (some (24 : Nat)) (.pointer (some ⟨g, 0, none⟩))) _
  simp only [Act.put, List.setIfInBounds_toArray, List.set_cons_zero, List.set_cons_succ]
  refine wpAnyH_take (i := 2) (v := (.pointer (some ⟨g, 1, none⟩))) rfl (by kernel_rfl) (by kernel_rfl) (by kernel_rfl) (fun _ _ _ h => h) (Or.inl ⟨by kernel_rfl, fun w hSw => ?_⟩) (by assumption) ?_
  · (try dsimp only at hSw); go_simp <;> (try rfl)
  change wpAnyH _ _ _ _ _ _ _ (Act.put _ (some (25 : Nat)) (.pointer (some ⟨g, 1, none⟩))) _
  simp only [Act.put, List.setIfInBounds_toArray, List.set_cons_zero, List.set_cons_succ]
  refine wpAnyH_take (i := 3) (v := (.map (some r))) rfl (by kernel_rfl) (by kernel_rfl) (by kernel_rfl) (fun _ _ _ h => h) (yields_load_at (by kernel_rfl) 42 (.tmp 25) rfl (.pointer (some ⟨g, 1, none⟩)) (by simp [Act.eval]) (.map (some r)) (fun W hW => load_map (hW.1.cellAt rfl))) (by assumption) ?_
  change wpAnyH _ _ _ _ _ _ _ (Act.put _ (some (26 : Nat)) (.map (some r))) _
  simp only [Act.put, List.setIfInBounds_toArray, List.set_cons_zero, List.set_cons_succ]
  refine wpAnyH_take (i := 4) (v := (.agg #[.int .u16 (x : Int), .int .u16 (y : Int)])) rfl (by kernel_rfl) (by kernel_rfl) (by kernel_rfl) (fun _ _ _ h => h) (yields_load_at (by kernel_rfl) 58 (.tmp 4) rfl (.pointer (some ⟨b4, 0, none⟩)) (by simp [Act.eval]) (.agg #[.int .u16 (x : Int), .int .u16 (y : Int)]) (fun W hW => hW.2.1.loadAt 58 _ Tryd.underlying58 rfl (by kernel_rfl))) (by assumption) ?_
  change wpAnyH _ _ _ _ _ _ _ (Act.put _ (some (27 : Nat)) (.agg #[.int .u16 (x : Int), .int .u16 (y : Int)])) _
  simp only [Act.put, List.setIfInBounds_toArray, List.set_cons_zero, List.set_cons_succ]
  refine wpAnyH_take (i := 5) (v := (.agg kq.toArray)) rfl (by kernel_rfl) (by kernel_rfl) (by kernel_rfl) (fun _ _ _ h => h) (yields_load_at (by kernel_rfl) 37 (.tmp 5) rfl (.pointer (some ⟨b5, 0, none⟩)) (by simp [Act.eval]) (.agg kq.toArray) (fun W hW => hW.2.2.loadAt 37 _ Tryd.underlying37 rfl (by rw [HKl.out]; kernel_rfl))) (by assumption) ?_
  change wpAnyH _ _ _ _ _ _ _ (Act.put _ (some (28 : Nat)) (.agg kq.toArray)) _
  simp only [Act.put, List.setIfInBounds_toArray, List.set_cons_zero, List.set_cons_succ]
  refine wpAnyH_ready (rs := [6]) (by kernel_rfl) (by simp) ?_
  refine AllReadyH.cons (o := ⟨none, .mapUpdate 42 (.tmp 26) (.tmp 27) (.tmp 28), _, _, _, none⟩) rfl (fun K hK => ?_) AllReadyH.nil
  refine step_update_two (by kernel_rfl) (.tmp 26) (.tmp 27) (.tmp 28) rfl HM.out.drew_ x y (by simp [Act.eval]) (by simp [Act.eval, two]) (by simp [Act.eval]; exact HKe.out) ?_; intro wu hmu hgu; have HMu := Lib.hid hmu; have hmap := map_at HM.out; have HBu := Lib.hid (HB.out.drew.grown hgu (HB.out.drew.ne_map hmap)); have H4u := Lib.hid (H4.out.drew.grown hgu (H4.out.drew.ne_map hmap)); have H5u := Lib.hid (H5.out.drew.grown hgu (H5.out.drew.ne_map hmap)); have HFu := Lib.hid (HFz.out.drew.trans (KF.turn hgu (HM.out r rfl).1 ⟨_, _, _, 1, HB.out.drew, rfl⟩ hmap)); clear hmu hgu hmap
  refine hK.out _ _ ⟨HBu.out, H4u.out, H5u.out⟩ (fun hHeld1 => ?_)
  clear hHeld hK K
  have hHeld := hHeld1
  clear hHeld1
  change wpAnyH _ _ _ _ _ _ _ (Act.put _ none undef) _
  simp only [Act.put]
  refine wpAnyH_done (by kernel_rfl) ?_ _
  go_wp2
  exact bodyPost_end (v := .tuple #[]) (by kernel_rfl) rfl ⟨rfl, ⟨some r, As, ns, cs, HBu.out, HSd.out.kfLow HFu.out, hnc, hcm, HMu.out⟩, HFu.out⟩

theorem keep_any (g : Nat) (seed : List UInt8) (x y : Nat) (w : World) (h : TS w g seed) :
    Calls Tryd.prog 22 #[.pointer (some ⟨g, 0, none⟩), two x y, .agg (vs (keyB seed x y)).toArray] w fun e w' => e = .returned (.tuple #[]) ∧ TS w' g seed ∧ KF g w w' := by
  obtain ⟨m, hm⟩ := h
  cases m with
  | none => exact keep_none g seed x y w hm
  | some r =>
    obtain ⟨es, ck, hes⟩ : ∃ es ck, w.heap[r]? = some (.map es ck) := by
      obtain ⟨_, _, _, _, _, _, _, hm⟩ := hm
      exact map_at hm
    by_cases hs : es.size < 121
    · exact keep_room g seed x y w r hm (fun es' ck' h' => by rw [hes] at h'; injection h' with h'; injection h' with h1 _; rw [← h1]; exact hs)
    · exact keep_full g seed x y w r hm (fun es' ck' h' => by rw [hes] at h'; injection h' with h'; injection h' with h1 _; rw [← h1]; omega)

theorem u16_wrap (a : Int) : IntKind.u16.wrap a = (a16 a : Int) := by
  simp only [IntKind.wrap, IntKind.bits, IntKind.signed]
  unfold a16
  simp
  omega

theorem TM.parts {W : World} {g : Nat} {seed : List UInt8} {m : Option Nat} (h : TM W g seed m) : ∃ As ns cs, Blk W g 44 [.slice As ns cs, .map m] ∧ By W (fun k => k < g) As ns seed ∧ ns ≤ cs ∧ cs ≤ maxLen ∧ MapIs W g (keyB seed) m := h

theorem map_keep {wz W : World} {m : Option Nat} {g : Nat} {f : Nat → Nat → List UInt8} (hm : MapIs wz g f m) (hb : Below wz.heap.size wz W) : ∀ r, m = some r → W.heap[r]? = wz.heap[r]? := fun r e => hb.block r (hm.lt r e)

theorem map_row {w : World} {g b : Nat} {f : Nat → Nat → List UInt8} {m : Option Nat} {t : TypeId} {cs : List Value} {cs' : Array Value} (h : MapIs w g f m) (hb : Blk w b t cs) : MapIs (w.setRow b cs') g f m :=
  h.keep fun r e => setRow_other w b r cs' (fun e' => by
    obtain ⟨_, es, ck, hm, _⟩ := h r e
    exact absurd (congrArg some e'.symm) (hb.ne_map ⟨es, ck, hm⟩))

theorem map_grown {w w' : World} {g b : Nat} {f : Nat → Nat → List UInt8} {m : Option Nat} {t : TypeId} {cs : List Value} (h : MapIs w g f m) (hb : Blk w b t cs) (ho : w.grownBy w' (some b)) : MapIs w' g f m :=
  h.keep fun r e => ho.block r (h.lt r e) (fun e' => by
    obtain ⟨_, es, ck, hm, _⟩ := h r e
    exact absurd e'.symm (hb.ne_map ⟨es, ck, hm⟩))

theorem TS.row {w : World} {g b : Nat} {seed : List UInt8} {t : TypeId} {cs : List Value} {cs' : Array Value} (h : TS w g seed) (hb : Blk w b t cs) (hg : g < b) : TS (w.setRow b cs') g seed := by
  obtain ⟨m, As, ns, c, hk, hy, h1, h2, hm⟩ := h
  exact ⟨m, As, ns, c, hk.rowFar (Nat.ne_of_lt hg) _, hy.rowBy (fun k hk => Nat.ne_of_lt (Nat.lt_trans hk hg)), h1, h2, map_row hm hb⟩

set_option maxHeartbeats 8000000 in
set_option maxRecDepth 100000 in
theorem key_tab_lt (g : Nat) (seed : List UInt8) (a b : Int) (x y : Nat) (hwa : IntKind.u16.wrap a = (x : Int)) (hwb : IntKind.u16.wrap b = (y : Int)) (hx : x < 65536) (hy : y < 65536) (hlt : x < y) (w : World) (ht : Tab w) (h : TS w g seed) (hs : seed.length ≤ 1000000) :
    Calls Tryd.prog 16 #[.pointer (some ⟨g, 0, none⟩), .int .i64 a, .int .i64 b] w fun e w' => e = .returned (.agg (vs (keyB seed x y)).toArray) ∧ TS w' g seed ∧ KF g w w' := by
  obtain ⟨m, As, ns, cs, hb, hsd, hnc, hcm, hm⟩ := h
  have hgw := hb.lt
  have HT := Lib.hid ht
  have hlt1 : (x : Int) < (y : Int) := by omega
  have hlt2 : ¬ (y : Int) < (x : Int) := by omega
  have hlt3 : ¬ y < x := by omega
  have hlt4 : x ≤ y := by omega
  have hlt5 : ¬ y ≤ x := by omega
  obtain ⟨r, hr⟩ : ∃ r, r = vs (keyB seed x y) := ⟨_, rfl⟩
  have hrl : r.length = 32 := by rw [hr, vs_length, keyB_length]
  have hro : r.toArray.all (·.oneCell') = true := by rw [hr]; exact one_u8
  have hko : ∀ W, By W (fun k => k < g) As ns seed → Tab W → Calls Tryd.prog 21 #[.slice As ns cs, .agg #[.int .u16 (x : Int), .int .u16 (y : Int)]] W fun e w' => e = .returned (.agg r.toArray) ∧ Below W.heap.size W w' := fun W h1 h2 => by
    rw [hr]; exact keyOf_any _ seed x y hx hy As ns cs W h1 hnc hcm h2 (by rw [← hsd.len]; exact hs)
  have hkeep : ∀ W, TS W g seed → Calls Tryd.prog 22 #[.pointer (some ⟨g, 0, none⟩), .agg #[.int .u16 (x : Int), .int .u16 (y : Int)], .agg r.toArray] W fun e w' => e = .returned (.tuple #[]) ∧ TS w' g seed ∧ KF g W w' := fun W h => by
    rw [hr]; exact keep_any g seed x y W h
  have HKo := Lib.hid hko
  have HKeep := Lib.hid hkeep
  have HRl := Lib.hid hrl
  have HRo := Lib.hid hro
  have HB0 := Lib.hid hb
  have HSd := Lib.hid hsd
  have HM0 := Lib.hid hm
  have HRe := Lib.hid hr
  rw [← hr]
  clear hr hko hkeep hrl hro ht hb hsd hm
  go_enter Tryd.func16, Tryd.ntmps16
  go_wp2
  obtain ⟨wz, hwz⟩ : ∃ wz, wz = ((w.alloc (.cells (vs zero32).toArray 37)).alloc (.cells #[.int .u16 (x : Int), .int .u16 (y : Int)] 58)) := ⟨_, rfl⟩
  have hxz : Below w.heap.size w wz := by rw [hwz]; exact ((Below.refl _ w).alloc (Nat.le_refl _) _).alloc (by simp) _
  have hbz : Blk wz g 44 [.slice As ns cs, .map m] := HB0.out.through hxz
  have h6 : Blk wz w.heap.size 37 (vs zero32) := by rw [hwz]; exact (Blk.fresh rfl rfl).alloc _
  have h9 : Blk wz (w.heap.size + 1) 58 [.int .u16 (x : Int), .int .u16 (y : Int)] := by rw [hwz]; exact Blk.fresh (by simp) rfl
  have hmz := HM0.out.through hxz
  obtain ⟨v, ok, hlk, hvl, hok⟩ := run_lookup_two hmz x y
  obtain ⟨q, hq⟩ : ∃ q, q = vs v := ⟨_, rfl⟩
  have hql : q.length = 32 := by rw [hq, vs_length, hvl]; cases ok <;> simp [keyB_length]
  have hqo : q.toArray.all (·.oneCell') = true := by rw [hq]; exact one_u8
  have HLk : Hid (∀ W, Below wz.heap.size wz W → (Instr.lookup 42 (.map m) (.agg #[.int .u16 (x : Int), .int .u16 (y : Int)]) true).run Tryd.prog W = .ok (.tuple #[.agg q.toArray, .bool ok]) W) := Lib.hid (fun W hW => by rw [hq]; exact hlk W (map_keep hmz hW))
  have HOk : Hid (ok = true → q = r) := Lib.hid (fun e => by rw [hq, hok e, HRe.out])
  have HQl := Lib.hid hql
  have HQo := Lib.hid hqo
  have HXz := Lib.hid hxz
  have HB := Lib.hid hbz
  have HM := Lib.hid hmz
  have hgz := hbz.lt
  have h6z := h6.lt
  have h9z := h9.lt
  change Code.wp _ _ _ _ ((w.alloc (.cells (vs zero32).toArray 37)).alloc (.cells #[.int .u16 (x : Int), .int .u16 (y : Int)] 58))
  rw [← hwz]
  obtain ⟨b6, hb6⟩ : ∃ b6, b6 = w.heap.size := ⟨_, rfl⟩
  obtain ⟨b9, hb9⟩ : ∃ b9, b9 = w.heap.size + 1 := ⟨_, rfl⟩
  rw [← hb9] at h9 h9z
  rw [← hb9]
  rw [← hb6] at h6 h6z
  have hg6 : g < b6 := by rw [hb6]; exact hgw
  have h6w : w.heap.size ≤ b6 := by rw [hb6]; exact Nat.le_refl _
  have H6 := Lib.hid h6
  have H9 := Lib.hid h9
  clear hwz hxz hbz h6 h9 hmz hlk hvl hok hq hql hqo hb9
  rw [← hb6]
  clear hb6
  refine wp_region_held_drew (S := fun W => Blk W g 44 [.slice As ns cs, .map m] ∧ Blk W b9 58 [.int .u16 (x : Int), .int .u16 (y : Int)] ∧ Below wz.heap.size wz W) (by kernel_rfl) ⟨HB.out.drew, H9.out.drew, (Below.refl _ wz).drew⟩ (fun hHeld => ?_)
  change wpAnyH _ _ _ _ _ _ #[false, false, false, false, false, false, false, false, false, false, false, false] _ _
  refine wpAnyH_take (i := 0) (v := (.pointer (some ⟨g, 0, none⟩))) rfl (by kernel_rfl) (by kernel_rfl) (by kernel_rfl) (fun _ _ _ h => h) (Or.inl ⟨by kernel_rfl, fun w hSw => ?_⟩) (by assumption) ?_
  · (try dsimp only at hSw); go_simp <;> (try rfl)
  change wpAnyH _ _ _ _ _ _ _ (Act.put _ (some (28 : Nat)) (.pointer (some ⟨g, 0, none⟩))) _
  simp only [Act.put, List.setIfInBounds_toArray, List.set_cons_zero, List.set_cons_succ]
  refine wpAnyH_take (i := 1) (v := (.pointer (some ⟨g, 0, none⟩))) rfl (by kernel_rfl) (by kernel_rfl) (by kernel_rfl) (fun _ _ _ h => h) (Or.inl ⟨by kernel_rfl, fun w hSw => ?_⟩) (by assumption) ?_
  · (try dsimp only at hSw); go_simp <;> (try rfl)
  change wpAnyH _ _ _ _ _ _ _ (Act.put _ (some (29 : Nat)) (.pointer (some ⟨g, 0, none⟩))) _
  simp only [Act.put, List.setIfInBounds_toArray, List.set_cons_zero, List.set_cons_succ]
  refine wpAnyH_take (i := 2) (v := (.pointer (some ⟨g, 1, none⟩))) rfl (by kernel_rfl) (by kernel_rfl) (by kernel_rfl) (fun _ _ _ h => h) (Or.inl ⟨by kernel_rfl, fun w hSw => ?_⟩) (by assumption) ?_
  · (try dsimp only at hSw); go_simp <;> (try rfl)
  change wpAnyH _ _ _ _ _ _ _ (Act.put _ (some (30 : Nat)) (.pointer (some ⟨g, 1, none⟩))) _
  simp only [Act.put, List.setIfInBounds_toArray, List.set_cons_zero, List.set_cons_succ]
  refine wpAnyH_take (i := 3) (v := (.map m)) rfl (by kernel_rfl) (by kernel_rfl) (by kernel_rfl) (fun _ _ _ h => h) (yields_load_at (by kernel_rfl) 42 (.tmp 30) rfl (.pointer (some ⟨g, 1, none⟩)) (by simp [Act.eval]) (.map m) (fun W hW => load_map (hW.1.cellAt rfl))) (by assumption) ?_
  change wpAnyH _ _ _ _ _ _ _ (Act.put _ (some (31 : Nat)) (.map m)) _
  simp only [Act.put, List.setIfInBounds_toArray, List.set_cons_zero, List.set_cons_succ]
  refine wpAnyH_take (i := 4) (v := (.agg #[.int .u16 (x : Int), .int .u16 (y : Int)])) rfl (by kernel_rfl) (by kernel_rfl) (by kernel_rfl) (fun _ _ _ h => h) (yields_load_at (by kernel_rfl) 58 (.tmp 9) rfl (.pointer (some ⟨b9, 0, none⟩)) (by simp [Act.eval]) (.agg #[.int .u16 (x : Int), .int .u16 (y : Int)]) (fun W hW => hW.2.1.loadAt 58 _ Tryd.underlying58 rfl (by kernel_rfl))) (by assumption) ?_
  change wpAnyH _ _ _ _ _ _ _ (Act.put _ (some (32 : Nat)) (.agg #[.int .u16 (x : Int), .int .u16 (y : Int)])) _
  simp only [Act.put, List.setIfInBounds_toArray, List.set_cons_zero, List.set_cons_succ]
  refine wpAnyH_take (i := 5) (v := (.tuple #[.agg q.toArray, .bool ok])) rfl (by kernel_rfl) (by kernel_rfl) (by kernel_rfl) (fun _ _ _ h => h) (yields_lookup (by kernel_rfl) 42 (.tmp 31) (.tmp 32) rfl (.map m) (.agg #[.int .u16 (x : Int), .int .u16 (y : Int)]) (by simp [Act.eval]) (by simp [Act.eval]) (.tuple #[.agg q.toArray, .bool ok]) (fun W hW => HLk.out W hW.2.2)) (by assumption) ?_
  change wpAnyH _ _ _ _ _ _ _ (Act.put _ (some (33 : Nat)) (.tuple #[.agg q.toArray, .bool ok])) _
  simp only [Act.put, List.setIfInBounds_toArray, List.set_cons_zero, List.set_cons_succ]
  refine wpAnyH_take (i := 6) (v := (.tuple #[.agg q.toArray, .bool ok])) rfl (by kernel_rfl) (by kernel_rfl) (by kernel_rfl) (fun _ _ _ h => h) (Or.inl ⟨by kernel_rfl, fun w hSw => ?_⟩) (by assumption) ?_
  · (try dsimp only at hSw); go_simp <;> (try rfl)
  change wpAnyH _ _ _ _ _ _ _ (Act.put _ (some (27 : Nat)) (.tuple #[.agg q.toArray, .bool ok])) _
  simp only [Act.put, List.setIfInBounds_toArray, List.set_cons_zero, List.set_cons_succ]
  refine wpAnyH_take (i := 7) (v := (.agg q.toArray)) rfl (by kernel_rfl) (by kernel_rfl) (by kernel_rfl) (fun _ _ _ h => h) (Or.inl ⟨by kernel_rfl, fun w hSw => ?_⟩) (by assumption) ?_
  · (try dsimp only at hSw); go_simp <;> (try rfl)
  change wpAnyH _ _ _ _ _ _ _ (Act.put _ (some (34 : Nat)) (.agg q.toArray)) _
  simp only [Act.put, List.setIfInBounds_toArray, List.set_cons_zero, List.set_cons_succ]
  refine wpAnyH_take (i := 8) (v := (.bool ok)) rfl (by kernel_rfl) (by kernel_rfl) (by kernel_rfl) (fun _ _ _ h => h) (Or.inl ⟨by kernel_rfl, fun w hSw => ?_⟩) (by assumption) ?_
  · (try dsimp only at hSw); go_simp <;> (try rfl)
  change wpAnyH _ _ _ _ _ _ _ (Act.put _ (some (35 : Nat)) (.bool ok)) _
  simp only [Act.put, List.setIfInBounds_toArray, List.set_cons_zero, List.set_cons_succ]
  refine wpAnyH_ready (rs := [9]) (by kernel_rfl) (by simp) ?_
  refine AllReadyH.cons (o := ⟨some 10, .alloc 37, _, _, _, none⟩) rfl (fun K hK => ?_) AllReadyH.nil
  refine step_alloc (by kernel_rfl) 37 rfl _ _ (Tryd.alloc_tag _) ?_; have HB1 := Lib.hid (hHeld.1.alloc (.cells (vs (List.replicate 32 0)).toArray 37)); have H91 := Lib.hid (hHeld.2.1.alloc (.cells (vs (List.replicate 32 0)).toArray 37)); have HX1 := Lib.hid (hHeld.2.2.alloc hHeld.2.2.size (.cells (vs (List.replicate 32 0)).toArray 37))
  refine hK.out _ _ ⟨HB1.out, H91.out, HX1.out⟩ (fun hHeld1 => ?_)
  clear hHeld hK K
  have hHeld := hHeld1
  clear hHeld1
  change wpAnyH _ _ _ _ _ _ _ (Act.put _ (some (10 : Nat)) (.pointer (some ⟨_, 0, none⟩))) _
  simp only [Act.put, List.setIfInBounds_toArray, List.set_cons_zero, List.set_cons_succ]
  refine wpAnyH_ready (rs := [10]) (by kernel_rfl) (by simp) ?_
  refine AllReadyH.cons (o := ⟨none, .store 37 (.tmp 10) (.tmp 34), _, _, _, none⟩) rfl (fun K hK => ?_) AllReadyH.nil
  refine step_store_blk rfl 37 (.tmp 10) (.tmp 34) rfl wz.drew.heap.size q (by simp [Act.eval]) (by simp [Act.eval]) 37 (vs (List.replicate 32 0)) (Blk.fresh rfl rfl) (by rw [HQl.out]; kernel_rfl) (by rw [HQl.out]; rfl) HQo.out ?_; intro wa hba hoa; have HBa := Lib.hid (HB1.out.grown hoa (fun e => absurd (Option.some.inj e) (Nat.ne_of_lt hgz))); have H9a := Lib.hid (H91.out.grown hoa (fun e => absurd (Option.some.inj e) (Nat.ne_of_lt h9z))); have HXa := Lib.hid (HX1.out.grown hoa HX1.out.size (fun k hk => Option.some.inj hk ▸ Nat.le_refl _)); have HTa := Lib.hid hba; clear hba hoa
  refine hK.out _ _ ⟨HBa.out, H9a.out, HXa.out⟩ (fun hHeld1 => ?_)
  clear hHeld hK K
  have hHeld := hHeld1
  clear hHeld1
  change wpAnyH _ _ _ _ _ _ _ (Act.put _ none undef) _
  simp only [Act.put]
  refine wpAnyH_take (i := 11) (v := (.bool ok)) rfl (by kernel_rfl) (by kernel_rfl) (by kernel_rfl) (fun _ _ _ h => h) (Or.inl ⟨by kernel_rfl, fun w hSw => ?_⟩) (by assumption) ?_
  · (try dsimp only at hSw); go_simp <;> (try rfl)
  change wpAnyH _ _ _ _ _ _ _ (Act.put _ (some (11 : Nat)) (.bool ok)) _
  simp only [Act.put, List.setIfInBounds_toArray, List.set_cons_zero, List.set_cons_succ]
  refine wpAnyH_done (by kernel_rfl) ?_ _
  obtain ⟨b10, hb10⟩ : ∃ b10, b10 = wz.drew.heap.size := ⟨_, rfl⟩
  rw [← hb10] at HTa
  rw [← hb10]
  have hz10 : wz.heap.size = b10 := by rw [hb10]; rfl
  have h610 : b6 < b10 := by rw [← hz10]; exact h6z
  have hg10 : g < b10 := by rw [← hz10]; exact hgz
  have h910 : b9 < b10 := by rw [← hz10]; exact h9z
  have H6a := Lib.hid (H6.out.through HXa.out)
  have HMa := Lib.hid (HM.out.through HXa.out)
  have HXw := Lib.hid (HXz.out.trans (HXa.out.mono HXz.out.size))
  have HSda := Lib.hid (HSd.out.through HXw.out)
  have HTab := Lib.hid (HT.out.through HXw.out)
  clear hb10 hHeld HB1 H91 HX1
  cases ok with
  | true =>
    have hqv := HOk.out rfl
    have HQv := Lib.hid hqv
    clear hqv
    go_wp2_with (first
      | (refine wpList_load_blk rfl 37 (.tmp 10) rfl b10 rfl 37 q _ HTa.out Tryd.underlying37 rfl (by rw [HQl.out]; kernel_rfl) ?_)
      | (refine wpList_store_row rfl 37 (.tmp 6) (.tmp 48) rfl b6 q.toArray rfl rfl 37 (vs zero32).toArray H6a.out (by rw [List.size_toArray, HQl.out]; kernel_rfl) (by rw [List.size_toArray, List.size_toArray, HQl.out]; rfl) HQo.out ?_))
    refine bodyPost_ret (v := .agg q.toArray) (results_cell_row rfl _ _ b6 37 _ (0, 0) _ rfl (H6a.out.row _) Tryd.underlying37 rfl ?r1) rfl ⟨by rw [HQv.out], ⟨m, As, ns, cs, HBa.out.rowFar (Nat.ne_of_lt hg6) _, HSda.out.rowBy (fun k hk => Nat.ne_of_lt (Nat.lt_trans hk hg6)), hnc, hcm, map_row HMa.out H6a.out⟩, KF.row (KF.of_below hgw HXw.out) h6w hgw⟩
    rw [List.size_toArray, HQl.out]; kernel_rfl
  | false =>
    clear HOk
    go_wp2
    refine wp_region_held_drew (S := fun W => Blk W g 44 [.slice As ns cs, .map m] ∧ Blk W b9 58 [.int .u16 (x : Int), .int .u16 (y : Int)]) (by kernel_rfl) ⟨HBa.out.drew, H9a.out.drew⟩ (fun hHeld => ?_)
    change wpAnyH _ _ _ _ _ _ #[false, false, false, false, false, false, false] _ _
    refine wpAnyH_take (i := 0) (v := (.pointer (some ⟨g, 0, none⟩))) rfl (by kernel_rfl) (by kernel_rfl) (by kernel_rfl) (fun _ _ _ h => h) (Or.inl ⟨by kernel_rfl, fun w hSw => ?_⟩) (by assumption) ?_
    · (try dsimp only at hSw); go_simp <;> (try rfl)
    change wpAnyH _ _ _ _ _ _ _ (Act.put _ (some (38 : Nat)) (.pointer (some ⟨g, 0, none⟩))) _
    simp only [Act.put, List.setIfInBounds_toArray, List.set_cons_zero, List.set_cons_succ]
    refine wpAnyH_take (i := 1) (v := (.pointer (some ⟨g, 0, none⟩))) rfl (by kernel_rfl) (by kernel_rfl) (by kernel_rfl) (fun _ _ _ h => h) (Or.inl ⟨by kernel_rfl, fun w hSw => ?_⟩) (by assumption) ?_
    · (try dsimp only at hSw); go_simp <;> (try rfl)
    change wpAnyH _ _ _ _ _ _ _ (Act.put _ (some (39 : Nat)) (.pointer (some ⟨g, 0, none⟩))) _
    simp only [Act.put, List.setIfInBounds_toArray, List.set_cons_zero, List.set_cons_succ]
    refine wpAnyH_take (i := 2) (v := (.pointer (some ⟨g, 0, none⟩))) rfl (by kernel_rfl) (by kernel_rfl) (by kernel_rfl) (fun _ _ _ h => h) (Or.inl ⟨by kernel_rfl, fun w hSw => ?_⟩) (by assumption) ?_
    · (try dsimp only at hSw); go_simp <;> (try rfl)
    change wpAnyH _ _ _ _ _ _ _ (Act.put _ (some (40 : Nat)) (.pointer (some ⟨g, 0, none⟩))) _
    simp only [Act.put, List.setIfInBounds_toArray, List.set_cons_zero, List.set_cons_succ]
    refine wpAnyH_take (i := 3) (v := (.slice As ns cs)) rfl (by kernel_rfl) (by kernel_rfl) (by kernel_rfl) (fun _ _ _ h => h) (yields_load_at (by kernel_rfl) 22 (.tmp 40) rfl (.pointer (some ⟨g, 0, none⟩)) (by simp [Act.eval]) (.slice As ns cs) (fun W hW => load_slice (hW.1.cellAt rfl))) (by assumption) ?_
    change wpAnyH _ _ _ _ _ _ _ (Act.put _ (some (41 : Nat)) (.slice As ns cs)) _
    simp only [Act.put, List.setIfInBounds_toArray, List.set_cons_zero, List.set_cons_succ]
    refine wpAnyH_take (i := 4) (v := (.agg #[.int .u16 (x : Int), .int .u16 (y : Int)])) rfl (by kernel_rfl) (by kernel_rfl) (by kernel_rfl) (fun _ _ _ h => h) (yields_load_at (by kernel_rfl) 58 (.tmp 9) rfl (.pointer (some ⟨b9, 0, none⟩)) (by simp [Act.eval]) (.agg #[.int .u16 (x : Int), .int .u16 (y : Int)]) (fun W hW => hW.2.loadAt 58 _ Tryd.underlying58 rfl (by kernel_rfl))) (by assumption) ?_
    change wpAnyH _ _ _ _ _ _ _ (Act.put _ (some (42 : Nat)) (.agg #[.int .u16 (x : Int), .int .u16 (y : Int)])) _
    simp only [Act.put, List.setIfInBounds_toArray, List.set_cons_zero, List.set_cons_succ]
    refine wpAnyH_ready (rs := [5]) (by kernel_rfl) (by simp) ?_
    refine AllReadyH.cons rfl (fun K hK => ?_) AllReadyH.nil
    go_simp
    refine (HKo.out _ HSda.out.drew HTab.out.drew_).mono ?_
    rintro e wb ⟨rfl, hbb⟩; have HBb := Lib.hid (HBa.out.drew.through hbb); have H9b := Lib.hid (H9a.out.drew.through hbb); have HTb := Lib.hid (HTa.out.drew.through hbb); have H6b := Lib.hid (H6a.out.drew.through hbb); have HMb := Lib.hid (HMa.out.drew_.through hbb); have HXb := Lib.hid (HXw.out.drew.trans (hbb.mono HXw.out.size)); clear hbb
    go_wp2_with fail
    refine hK.out _ _ ⟨HBb.out, H9b.out⟩ (fun hHeld1 => ?_)
    clear hHeld hK K
    have hHeld := hHeld1
    clear hHeld1
    refine wpAnyH_ready (rs := [6]) (by kernel_rfl) (by simp) ?_
    refine AllReadyH.cons (o := ⟨none, .store 37 (.tmp 10) (.tmp 43), _, _, _, none⟩) rfl (fun K hK => ?_) AllReadyH.nil
    refine step_store_blk rfl 37 (.tmp 10) (.tmp 43) rfl b10 r (by simp [Act.eval]) (by simp [Act.eval]) 37 q HTb.out (by rw [HRl.out]; kernel_rfl) (by rw [HQl.out, HRl.out]) HRo.out ?_; intro wc hbc hoc; have HBc := Lib.hid (HBb.out.grown hoc (fun e => absurd (Option.some.inj e) (Nat.ne_of_lt hg10))); have H9c := Lib.hid (H9b.out.grown hoc (fun e => absurd (Option.some.inj e) (Nat.ne_of_lt h910))); have H6c := Lib.hid (H6b.out.grown hoc (fun e => absurd (Option.some.inj e) (Nat.ne_of_lt h610))); have HMc := Lib.hid (map_grown HMb.out HTb.out hoc); have HXc := Lib.hid (HXb.out.grown hoc HXb.out.size (fun k hk => Option.some.inj hk ▸ Nat.le_of_lt (Nat.lt_of_le_of_lt h6w h610))); have HTc := Lib.hid hbc; clear hbc hoc
    refine hK.out _ _ ⟨HBc.out, H9c.out⟩ (fun hHeld1 => ?_)
    clear hHeld hK K
    have hHeld := hHeld1
    clear hHeld1
    change wpAnyH _ _ _ _ _ _ _ (Act.put _ none undef) _
    simp only [Act.put]
    refine wpAnyH_done (by kernel_rfl) ?_ _
    have HTS : Hid (TS wc g seed) := Lib.hid ⟨m, As, ns, cs, HBc.out, HSd.out.through HXc.out, hnc, hcm, HMc.out⟩
    clear hHeld
    go_wp2_with (first
          | (refine wpList_load_blk rfl 58 (.tmp 9) rfl b9 rfl 58 [.int .u16 (x : Int), .int .u16 (y : Int)] _ H9c.out Tryd.underlying58 rfl (by kernel_rfl) ?_)
          | (refine wpList_load_blk rfl 37 (.tmp 10) rfl b10 rfl 37 r _ HTc.out Tryd.underlying37 rfl (by rw [HRl.out]; kernel_rfl) ?_)
          | (go_at_call 22; (with_reducible refine (HKeep.out _ HTS.out).mono ?_); rintro e wd ⟨rfl, hts, hkf⟩; have HTd := Lib.hid (hkf.blk HTc.out (Nat.ne_of_gt hg10)); have H6d := Lib.hid (hkf.blk H6c.out (Nat.ne_of_gt hg6)); have HTSd := Lib.hid hts; have HKF := Lib.hid ((KF.of_below hgw HXc.out).trans hkf); clear hts hkf)
          | (refine wpList_load_blk rfl 37 (.tmp 10) rfl b10 rfl 37 r _ HTd.out Tryd.underlying37 rfl (by rw [HRl.out]; kernel_rfl) ?_)
          | (refine wpList_store_row rfl 37 (.tmp 6) (.tmp 48) rfl b6 r.toArray rfl rfl 37 (vs zero32).toArray H6d.out (by rw [List.size_toArray, HRl.out]; kernel_rfl) (by rw [List.size_toArray, List.size_toArray, HRl.out]; rfl) HRo.out ?_))
    refine bodyPost_ret (v := .agg r.toArray) (results_cell_row rfl _ _ b6 37 _ (0, 0) _ rfl (H6d.out.row _) Tryd.underlying37 rfl ?r2) rfl ⟨rfl, TS.row HTSd.out H6d.out hg6, KF.row HKF.out h6w hgw⟩
    rw [List.size_toArray, HRl.out]; kernel_rfl

set_option maxHeartbeats 8000000 in
set_option maxRecDepth 100000 in
theorem key_tab_gt (g : Nat) (seed : List UInt8) (a b : Int) (x y : Nat) (hwa : IntKind.u16.wrap a = (x : Int)) (hwb : IntKind.u16.wrap b = (y : Int)) (hx : x < 65536) (hy : y < 65536) (hlt : y < x) (w : World) (ht : Tab w) (h : TS w g seed) (hs : seed.length ≤ 1000000) :
    Calls Tryd.prog 16 #[.pointer (some ⟨g, 0, none⟩), .int .i64 a, .int .i64 b] w fun e w' => e = .returned (.agg (vs (keyB seed y x)).toArray) ∧ TS w' g seed ∧ KF g w w' := by
  obtain ⟨m, As, ns, cs, hb, hsd, hnc, hcm, hm⟩ := h
  have hgw := hb.lt
  have HT := Lib.hid ht
  have hlt1 : (y : Int) < (x : Int) := by omega
  have hlt2 : ¬ (x : Int) < (y : Int) := by omega
  have hlt3 : ¬ x < y := by omega
  have hlt4 : y ≤ x := by omega
  have hlt5 : ¬ x ≤ y := by omega
  obtain ⟨r, hr⟩ : ∃ r, r = vs (keyB seed y x) := ⟨_, rfl⟩
  have hrl : r.length = 32 := by rw [hr, vs_length, keyB_length]
  have hro : r.toArray.all (·.oneCell') = true := by rw [hr]; exact one_u8
  have hko : ∀ W, By W (fun k => k < g) As ns seed → Tab W → Calls Tryd.prog 21 #[.slice As ns cs, .agg #[.int .u16 (y : Int), .int .u16 (x : Int)]] W fun e w' => e = .returned (.agg r.toArray) ∧ Below W.heap.size W w' := fun W h1 h2 => by
    rw [hr]; exact keyOf_any _ seed y x hy hx As ns cs W h1 hnc hcm h2 (by rw [← hsd.len]; exact hs)
  have hkeep : ∀ W, TS W g seed → Calls Tryd.prog 22 #[.pointer (some ⟨g, 0, none⟩), .agg #[.int .u16 (y : Int), .int .u16 (x : Int)], .agg r.toArray] W fun e w' => e = .returned (.tuple #[]) ∧ TS w' g seed ∧ KF g W w' := fun W h => by
    rw [hr]; exact keep_any g seed y x W h
  have HKo := Lib.hid hko
  have HKeep := Lib.hid hkeep
  have HRl := Lib.hid hrl
  have HRo := Lib.hid hro
  have HB0 := Lib.hid hb
  have HSd := Lib.hid hsd
  have HM0 := Lib.hid hm
  have HRe := Lib.hid hr
  rw [← hr]
  clear hr hko hkeep hrl hro ht hb hsd hm
  go_enter Tryd.func16, Tryd.ntmps16
  go_wp2
  obtain ⟨wz, hwz⟩ : ∃ wz, wz = ((w.alloc (.cells (vs zero32).toArray 37)).alloc (.cells #[.int .u16 (y : Int), .int .u16 (x : Int)] 58)) := ⟨_, rfl⟩
  have hxz : Below w.heap.size w wz := by rw [hwz]; exact ((Below.refl _ w).alloc (Nat.le_refl _) _).alloc (by simp) _
  have hbz : Blk wz g 44 [.slice As ns cs, .map m] := HB0.out.through hxz
  have h6 : Blk wz w.heap.size 37 (vs zero32) := by rw [hwz]; exact (Blk.fresh rfl rfl).alloc _
  have h9 : Blk wz (w.heap.size + 1) 58 [.int .u16 (y : Int), .int .u16 (x : Int)] := by rw [hwz]; exact Blk.fresh (by simp) rfl
  have hmz := HM0.out.through hxz
  obtain ⟨v, ok, hlk, hvl, hok⟩ := run_lookup_two hmz y x
  obtain ⟨q, hq⟩ : ∃ q, q = vs v := ⟨_, rfl⟩
  have hql : q.length = 32 := by rw [hq, vs_length, hvl]; cases ok <;> simp [keyB_length]
  have hqo : q.toArray.all (·.oneCell') = true := by rw [hq]; exact one_u8
  have HLk : Hid (∀ W, Below wz.heap.size wz W → (Instr.lookup 42 (.map m) (.agg #[.int .u16 (y : Int), .int .u16 (x : Int)]) true).run Tryd.prog W = .ok (.tuple #[.agg q.toArray, .bool ok]) W) := Lib.hid (fun W hW => by rw [hq]; exact hlk W (map_keep hmz hW))
  have HOk : Hid (ok = true → q = r) := Lib.hid (fun e => by rw [hq, hok e, HRe.out])
  have HQl := Lib.hid hql
  have HQo := Lib.hid hqo
  have HXz := Lib.hid hxz
  have HB := Lib.hid hbz
  have HM := Lib.hid hmz
  have hgz := hbz.lt
  have h6z := h6.lt
  have h9z := h9.lt
  change Code.wp _ _ _ _ ((w.alloc (.cells (vs zero32).toArray 37)).alloc (.cells #[.int .u16 (y : Int), .int .u16 (x : Int)] 58))
  rw [← hwz]
  obtain ⟨b6, hb6⟩ : ∃ b6, b6 = w.heap.size := ⟨_, rfl⟩
  obtain ⟨b9, hb9⟩ : ∃ b9, b9 = w.heap.size + 1 := ⟨_, rfl⟩
  rw [← hb9] at h9 h9z
  rw [← hb9]
  rw [← hb6] at h6 h6z
  have hg6 : g < b6 := by rw [hb6]; exact hgw
  have h6w : w.heap.size ≤ b6 := by rw [hb6]; exact Nat.le_refl _
  have H6 := Lib.hid h6
  have H9 := Lib.hid h9
  clear hwz hxz hbz h6 h9 hmz hlk hvl hok hq hql hqo hb9
  rw [← hb6]
  clear hb6
  refine wp_region_held_drew (S := fun W => Blk W g 44 [.slice As ns cs, .map m] ∧ Blk W b9 58 [.int .u16 (y : Int), .int .u16 (x : Int)] ∧ Below wz.heap.size wz W) (by kernel_rfl) ⟨HB.out.drew, H9.out.drew, (Below.refl _ wz).drew⟩ (fun hHeld => ?_)
  change wpAnyH _ _ _ _ _ _ #[false, false, false, false, false, false, false, false, false, false, false, false] _ _
  refine wpAnyH_take (i := 0) (v := (.pointer (some ⟨g, 0, none⟩))) rfl (by kernel_rfl) (by kernel_rfl) (by kernel_rfl) (fun _ _ _ h => h) (Or.inl ⟨by kernel_rfl, fun w hSw => ?_⟩) (by assumption) ?_
  · (try dsimp only at hSw); go_simp <;> (try rfl)
  change wpAnyH _ _ _ _ _ _ _ (Act.put _ (some (28 : Nat)) (.pointer (some ⟨g, 0, none⟩))) _
  simp only [Act.put, List.setIfInBounds_toArray, List.set_cons_zero, List.set_cons_succ]
  refine wpAnyH_take (i := 1) (v := (.pointer (some ⟨g, 0, none⟩))) rfl (by kernel_rfl) (by kernel_rfl) (by kernel_rfl) (fun _ _ _ h => h) (Or.inl ⟨by kernel_rfl, fun w hSw => ?_⟩) (by assumption) ?_
  · (try dsimp only at hSw); go_simp <;> (try rfl)
  change wpAnyH _ _ _ _ _ _ _ (Act.put _ (some (29 : Nat)) (.pointer (some ⟨g, 0, none⟩))) _
  simp only [Act.put, List.setIfInBounds_toArray, List.set_cons_zero, List.set_cons_succ]
  refine wpAnyH_take (i := 2) (v := (.pointer (some ⟨g, 1, none⟩))) rfl (by kernel_rfl) (by kernel_rfl) (by kernel_rfl) (fun _ _ _ h => h) (Or.inl ⟨by kernel_rfl, fun w hSw => ?_⟩) (by assumption) ?_
  · (try dsimp only at hSw); go_simp <;> (try rfl)
  change wpAnyH _ _ _ _ _ _ _ (Act.put _ (some (30 : Nat)) (.pointer (some ⟨g, 1, none⟩))) _
  simp only [Act.put, List.setIfInBounds_toArray, List.set_cons_zero, List.set_cons_succ]
  refine wpAnyH_take (i := 3) (v := (.map m)) rfl (by kernel_rfl) (by kernel_rfl) (by kernel_rfl) (fun _ _ _ h => h) (yields_load_at (by kernel_rfl) 42 (.tmp 30) rfl (.pointer (some ⟨g, 1, none⟩)) (by simp [Act.eval]) (.map m) (fun W hW => load_map (hW.1.cellAt rfl))) (by assumption) ?_
  change wpAnyH _ _ _ _ _ _ _ (Act.put _ (some (31 : Nat)) (.map m)) _
  simp only [Act.put, List.setIfInBounds_toArray, List.set_cons_zero, List.set_cons_succ]
  refine wpAnyH_take (i := 4) (v := (.agg #[.int .u16 (y : Int), .int .u16 (x : Int)])) rfl (by kernel_rfl) (by kernel_rfl) (by kernel_rfl) (fun _ _ _ h => h) (yields_load_at (by kernel_rfl) 58 (.tmp 9) rfl (.pointer (some ⟨b9, 0, none⟩)) (by simp [Act.eval]) (.agg #[.int .u16 (y : Int), .int .u16 (x : Int)]) (fun W hW => hW.2.1.loadAt 58 _ Tryd.underlying58 rfl (by kernel_rfl))) (by assumption) ?_
  change wpAnyH _ _ _ _ _ _ _ (Act.put _ (some (32 : Nat)) (.agg #[.int .u16 (y : Int), .int .u16 (x : Int)])) _
  simp only [Act.put, List.setIfInBounds_toArray, List.set_cons_zero, List.set_cons_succ]
  refine wpAnyH_take (i := 5) (v := (.tuple #[.agg q.toArray, .bool ok])) rfl (by kernel_rfl) (by kernel_rfl) (by kernel_rfl) (fun _ _ _ h => h) (yields_lookup (by kernel_rfl) 42 (.tmp 31) (.tmp 32) rfl (.map m) (.agg #[.int .u16 (y : Int), .int .u16 (x : Int)]) (by simp [Act.eval]) (by simp [Act.eval]) (.tuple #[.agg q.toArray, .bool ok]) (fun W hW => HLk.out W hW.2.2)) (by assumption) ?_
  change wpAnyH _ _ _ _ _ _ _ (Act.put _ (some (33 : Nat)) (.tuple #[.agg q.toArray, .bool ok])) _
  simp only [Act.put, List.setIfInBounds_toArray, List.set_cons_zero, List.set_cons_succ]
  refine wpAnyH_take (i := 6) (v := (.tuple #[.agg q.toArray, .bool ok])) rfl (by kernel_rfl) (by kernel_rfl) (by kernel_rfl) (fun _ _ _ h => h) (Or.inl ⟨by kernel_rfl, fun w hSw => ?_⟩) (by assumption) ?_
  · (try dsimp only at hSw); go_simp <;> (try rfl)
  change wpAnyH _ _ _ _ _ _ _ (Act.put _ (some (27 : Nat)) (.tuple #[.agg q.toArray, .bool ok])) _
  simp only [Act.put, List.setIfInBounds_toArray, List.set_cons_zero, List.set_cons_succ]
  refine wpAnyH_take (i := 7) (v := (.agg q.toArray)) rfl (by kernel_rfl) (by kernel_rfl) (by kernel_rfl) (fun _ _ _ h => h) (Or.inl ⟨by kernel_rfl, fun w hSw => ?_⟩) (by assumption) ?_
  · (try dsimp only at hSw); go_simp <;> (try rfl)
  change wpAnyH _ _ _ _ _ _ _ (Act.put _ (some (34 : Nat)) (.agg q.toArray)) _
  simp only [Act.put, List.setIfInBounds_toArray, List.set_cons_zero, List.set_cons_succ]
  refine wpAnyH_take (i := 8) (v := (.bool ok)) rfl (by kernel_rfl) (by kernel_rfl) (by kernel_rfl) (fun _ _ _ h => h) (Or.inl ⟨by kernel_rfl, fun w hSw => ?_⟩) (by assumption) ?_
  · (try dsimp only at hSw); go_simp <;> (try rfl)
  change wpAnyH _ _ _ _ _ _ _ (Act.put _ (some (35 : Nat)) (.bool ok)) _
  simp only [Act.put, List.setIfInBounds_toArray, List.set_cons_zero, List.set_cons_succ]
  refine wpAnyH_ready (rs := [9]) (by kernel_rfl) (by simp) ?_
  refine AllReadyH.cons (o := ⟨some 10, .alloc 37, _, _, _, none⟩) rfl (fun K hK => ?_) AllReadyH.nil
  refine step_alloc (by kernel_rfl) 37 rfl _ _ (Tryd.alloc_tag _) ?_; have HB1 := Lib.hid (hHeld.1.alloc (.cells (vs (List.replicate 32 0)).toArray 37)); have H91 := Lib.hid (hHeld.2.1.alloc (.cells (vs (List.replicate 32 0)).toArray 37)); have HX1 := Lib.hid (hHeld.2.2.alloc hHeld.2.2.size (.cells (vs (List.replicate 32 0)).toArray 37))
  refine hK.out _ _ ⟨HB1.out, H91.out, HX1.out⟩ (fun hHeld1 => ?_)
  clear hHeld hK K
  have hHeld := hHeld1
  clear hHeld1
  change wpAnyH _ _ _ _ _ _ _ (Act.put _ (some (10 : Nat)) (.pointer (some ⟨_, 0, none⟩))) _
  simp only [Act.put, List.setIfInBounds_toArray, List.set_cons_zero, List.set_cons_succ]
  refine wpAnyH_ready (rs := [10]) (by kernel_rfl) (by simp) ?_
  refine AllReadyH.cons (o := ⟨none, .store 37 (.tmp 10) (.tmp 34), _, _, _, none⟩) rfl (fun K hK => ?_) AllReadyH.nil
  refine step_store_blk rfl 37 (.tmp 10) (.tmp 34) rfl wz.drew.heap.size q (by simp [Act.eval]) (by simp [Act.eval]) 37 (vs (List.replicate 32 0)) (Blk.fresh rfl rfl) (by rw [HQl.out]; kernel_rfl) (by rw [HQl.out]; rfl) HQo.out ?_; intro wa hba hoa; have HBa := Lib.hid (HB1.out.grown hoa (fun e => absurd (Option.some.inj e) (Nat.ne_of_lt hgz))); have H9a := Lib.hid (H91.out.grown hoa (fun e => absurd (Option.some.inj e) (Nat.ne_of_lt h9z))); have HXa := Lib.hid (HX1.out.grown hoa HX1.out.size (fun k hk => Option.some.inj hk ▸ Nat.le_refl _)); have HTa := Lib.hid hba; clear hba hoa
  refine hK.out _ _ ⟨HBa.out, H9a.out, HXa.out⟩ (fun hHeld1 => ?_)
  clear hHeld hK K
  have hHeld := hHeld1
  clear hHeld1
  change wpAnyH _ _ _ _ _ _ _ (Act.put _ none undef) _
  simp only [Act.put]
  refine wpAnyH_take (i := 11) (v := (.bool ok)) rfl (by kernel_rfl) (by kernel_rfl) (by kernel_rfl) (fun _ _ _ h => h) (Or.inl ⟨by kernel_rfl, fun w hSw => ?_⟩) (by assumption) ?_
  · (try dsimp only at hSw); go_simp <;> (try rfl)
  change wpAnyH _ _ _ _ _ _ _ (Act.put _ (some (11 : Nat)) (.bool ok)) _
  simp only [Act.put, List.setIfInBounds_toArray, List.set_cons_zero, List.set_cons_succ]
  refine wpAnyH_done (by kernel_rfl) ?_ _
  obtain ⟨b10, hb10⟩ : ∃ b10, b10 = wz.drew.heap.size := ⟨_, rfl⟩
  rw [← hb10] at HTa
  rw [← hb10]
  have hz10 : wz.heap.size = b10 := by rw [hb10]; rfl
  have h610 : b6 < b10 := by rw [← hz10]; exact h6z
  have hg10 : g < b10 := by rw [← hz10]; exact hgz
  have h910 : b9 < b10 := by rw [← hz10]; exact h9z
  have H6a := Lib.hid (H6.out.through HXa.out)
  have HMa := Lib.hid (HM.out.through HXa.out)
  have HXw := Lib.hid (HXz.out.trans (HXa.out.mono HXz.out.size))
  have HSda := Lib.hid (HSd.out.through HXw.out)
  have HTab := Lib.hid (HT.out.through HXw.out)
  clear hb10 hHeld HB1 H91 HX1
  cases ok with
  | true =>
    have hqv := HOk.out rfl
    have HQv := Lib.hid hqv
    clear hqv
    go_wp2_with (first
      | (refine wpList_load_blk rfl 37 (.tmp 10) rfl b10 rfl 37 q _ HTa.out Tryd.underlying37 rfl (by rw [HQl.out]; kernel_rfl) ?_)
      | (refine wpList_store_row rfl 37 (.tmp 6) (.tmp 48) rfl b6 q.toArray rfl rfl 37 (vs zero32).toArray H6a.out (by rw [List.size_toArray, HQl.out]; kernel_rfl) (by rw [List.size_toArray, List.size_toArray, HQl.out]; rfl) HQo.out ?_))
    refine bodyPost_ret (v := .agg q.toArray) (results_cell_row rfl _ _ b6 37 _ (0, 0) _ rfl (H6a.out.row _) Tryd.underlying37 rfl ?r1) rfl ⟨by rw [HQv.out], ⟨m, As, ns, cs, HBa.out.rowFar (Nat.ne_of_lt hg6) _, HSda.out.rowBy (fun k hk => Nat.ne_of_lt (Nat.lt_trans hk hg6)), hnc, hcm, map_row HMa.out H6a.out⟩, KF.row (KF.of_below hgw HXw.out) h6w hgw⟩
    rw [List.size_toArray, HQl.out]; kernel_rfl
  | false =>
    clear HOk
    go_wp2
    refine wp_region_held_drew (S := fun W => Blk W g 44 [.slice As ns cs, .map m] ∧ Blk W b9 58 [.int .u16 (y : Int), .int .u16 (x : Int)]) (by kernel_rfl) ⟨HBa.out.drew, H9a.out.drew⟩ (fun hHeld => ?_)
    change wpAnyH _ _ _ _ _ _ #[false, false, false, false, false, false, false] _ _
    refine wpAnyH_take (i := 0) (v := (.pointer (some ⟨g, 0, none⟩))) rfl (by kernel_rfl) (by kernel_rfl) (by kernel_rfl) (fun _ _ _ h => h) (Or.inl ⟨by kernel_rfl, fun w hSw => ?_⟩) (by assumption) ?_
    · (try dsimp only at hSw); go_simp <;> (try rfl)
    change wpAnyH _ _ _ _ _ _ _ (Act.put _ (some (38 : Nat)) (.pointer (some ⟨g, 0, none⟩))) _
    simp only [Act.put, List.setIfInBounds_toArray, List.set_cons_zero, List.set_cons_succ]
    refine wpAnyH_take (i := 1) (v := (.pointer (some ⟨g, 0, none⟩))) rfl (by kernel_rfl) (by kernel_rfl) (by kernel_rfl) (fun _ _ _ h => h) (Or.inl ⟨by kernel_rfl, fun w hSw => ?_⟩) (by assumption) ?_
    · (try dsimp only at hSw); go_simp <;> (try rfl)
    change wpAnyH _ _ _ _ _ _ _ (Act.put _ (some (39 : Nat)) (.pointer (some ⟨g, 0, none⟩))) _
    simp only [Act.put, List.setIfInBounds_toArray, List.set_cons_zero, List.set_cons_succ]
    refine wpAnyH_take (i := 2) (v := (.pointer (some ⟨g, 0, none⟩))) rfl (by kernel_rfl) (by kernel_rfl) (by kernel_rfl) (fun _ _ _ h => h) (Or.inl ⟨by kernel_rfl, fun w hSw => ?_⟩) (by assumption) ?_
    · (try dsimp only at hSw); go_simp <;> (try rfl)
    change wpAnyH _ _ _ _ _ _ _ (Act.put _ (some (40 : Nat)) (.pointer (some ⟨g, 0, none⟩))) _
    simp only [Act.put, List.setIfInBounds_toArray, List.set_cons_zero, List.set_cons_succ]
    refine wpAnyH_take (i := 3) (v := (.slice As ns cs)) rfl (by kernel_rfl) (by kernel_rfl) (by kernel_rfl) (fun _ _ _ h => h) (yields_load_at (by kernel_rfl) 22 (.tmp 40) rfl (.pointer (some ⟨g, 0, none⟩)) (by simp [Act.eval]) (.slice As ns cs) (fun W hW => load_slice (hW.1.cellAt rfl))) (by assumption) ?_
    change wpAnyH _ _ _ _ _ _ _ (Act.put _ (some (41 : Nat)) (.slice As ns cs)) _
    simp only [Act.put, List.setIfInBounds_toArray, List.set_cons_zero, List.set_cons_succ]
    refine wpAnyH_take (i := 4) (v := (.agg #[.int .u16 (y : Int), .int .u16 (x : Int)])) rfl (by kernel_rfl) (by kernel_rfl) (by kernel_rfl) (fun _ _ _ h => h) (yields_load_at (by kernel_rfl) 58 (.tmp 9) rfl (.pointer (some ⟨b9, 0, none⟩)) (by simp [Act.eval]) (.agg #[.int .u16 (y : Int), .int .u16 (x : Int)]) (fun W hW => hW.2.loadAt 58 _ Tryd.underlying58 rfl (by kernel_rfl))) (by assumption) ?_
    change wpAnyH _ _ _ _ _ _ _ (Act.put _ (some (42 : Nat)) (.agg #[.int .u16 (y : Int), .int .u16 (x : Int)])) _
    simp only [Act.put, List.setIfInBounds_toArray, List.set_cons_zero, List.set_cons_succ]
    refine wpAnyH_ready (rs := [5]) (by kernel_rfl) (by simp) ?_
    refine AllReadyH.cons rfl (fun K hK => ?_) AllReadyH.nil
    go_simp
    refine (HKo.out _ HSda.out.drew HTab.out.drew_).mono ?_
    rintro e wb ⟨rfl, hbb⟩; have HBb := Lib.hid (HBa.out.drew.through hbb); have H9b := Lib.hid (H9a.out.drew.through hbb); have HTb := Lib.hid (HTa.out.drew.through hbb); have H6b := Lib.hid (H6a.out.drew.through hbb); have HMb := Lib.hid (HMa.out.drew_.through hbb); have HXb := Lib.hid (HXw.out.drew.trans (hbb.mono HXw.out.size)); clear hbb
    go_wp2_with fail
    refine hK.out _ _ ⟨HBb.out, H9b.out⟩ (fun hHeld1 => ?_)
    clear hHeld hK K
    have hHeld := hHeld1
    clear hHeld1
    refine wpAnyH_ready (rs := [6]) (by kernel_rfl) (by simp) ?_
    refine AllReadyH.cons (o := ⟨none, .store 37 (.tmp 10) (.tmp 43), _, _, _, none⟩) rfl (fun K hK => ?_) AllReadyH.nil
    refine step_store_blk rfl 37 (.tmp 10) (.tmp 43) rfl b10 r (by simp [Act.eval]) (by simp [Act.eval]) 37 q HTb.out (by rw [HRl.out]; kernel_rfl) (by rw [HQl.out, HRl.out]) HRo.out ?_; intro wc hbc hoc; have HBc := Lib.hid (HBb.out.grown hoc (fun e => absurd (Option.some.inj e) (Nat.ne_of_lt hg10))); have H9c := Lib.hid (H9b.out.grown hoc (fun e => absurd (Option.some.inj e) (Nat.ne_of_lt h910))); have H6c := Lib.hid (H6b.out.grown hoc (fun e => absurd (Option.some.inj e) (Nat.ne_of_lt h610))); have HMc := Lib.hid (map_grown HMb.out HTb.out hoc); have HXc := Lib.hid (HXb.out.grown hoc HXb.out.size (fun k hk => Option.some.inj hk ▸ Nat.le_of_lt (Nat.lt_of_le_of_lt h6w h610))); have HTc := Lib.hid hbc; clear hbc hoc
    refine hK.out _ _ ⟨HBc.out, H9c.out⟩ (fun hHeld1 => ?_)
    clear hHeld hK K
    have hHeld := hHeld1
    clear hHeld1
    change wpAnyH _ _ _ _ _ _ _ (Act.put _ none undef) _
    simp only [Act.put]
    refine wpAnyH_done (by kernel_rfl) ?_ _
    have HTS : Hid (TS wc g seed) := Lib.hid ⟨m, As, ns, cs, HBc.out, HSd.out.through HXc.out, hnc, hcm, HMc.out⟩
    clear hHeld
    go_wp2_with (first
          | (refine wpList_load_blk rfl 58 (.tmp 9) rfl b9 rfl 58 [.int .u16 (y : Int), .int .u16 (x : Int)] _ H9c.out Tryd.underlying58 rfl (by kernel_rfl) ?_)
          | (refine wpList_load_blk rfl 37 (.tmp 10) rfl b10 rfl 37 r _ HTc.out Tryd.underlying37 rfl (by rw [HRl.out]; kernel_rfl) ?_)
          | (go_at_call 22; (with_reducible refine (HKeep.out _ HTS.out).mono ?_); rintro e wd ⟨rfl, hts, hkf⟩; have HTd := Lib.hid (hkf.blk HTc.out (Nat.ne_of_gt hg10)); have H6d := Lib.hid (hkf.blk H6c.out (Nat.ne_of_gt hg6)); have HTSd := Lib.hid hts; have HKF := Lib.hid ((KF.of_below hgw HXc.out).trans hkf); clear hts hkf)
          | (refine wpList_load_blk rfl 37 (.tmp 10) rfl b10 rfl 37 r _ HTd.out Tryd.underlying37 rfl (by rw [HRl.out]; kernel_rfl) ?_)
          | (refine wpList_store_row rfl 37 (.tmp 6) (.tmp 48) rfl b6 r.toArray rfl rfl 37 (vs zero32).toArray H6d.out (by rw [List.size_toArray, HRl.out]; kernel_rfl) (by rw [List.size_toArray, List.size_toArray, HRl.out]; rfl) HRo.out ?_))
    refine bodyPost_ret (v := .agg r.toArray) (results_cell_row rfl _ _ b6 37 _ (0, 0) _ rfl (H6d.out.row _) Tryd.underlying37 rfl ?r2) rfl ⟨rfl, TS.row HTSd.out H6d.out hg6, KF.row HKF.out h6w hgw⟩
    rw [List.size_toArray, HRl.out]; kernel_rfl

set_option maxHeartbeats 8000000 in
set_option maxRecDepth 100000 in
theorem key_tab_eq (g : Nat) (seed : List UInt8) (a b : Int) (x : Nat) (hwa : IntKind.u16.wrap a = (x : Int)) (hwb : IntKind.u16.wrap b = (x : Int)) (hx : x < 65536) (w : World) (ht : Tab w) (h : TS w g seed) (hs : seed.length ≤ 1000000) :
    Calls Tryd.prog 16 #[.pointer (some ⟨g, 0, none⟩), .int .i64 a, .int .i64 b] w fun e w' => e = .returned (.agg (vs (keyB seed x x)).toArray) ∧ TS w' g seed ∧ KF g w w' := by
  obtain ⟨m, As, ns, cs, hb, hsd, hnc, hcm, hm⟩ := h
  have hgw := hb.lt
  have HT := Lib.hid ht
  obtain ⟨r, hr⟩ : ∃ r, r = vs (keyB seed x x) := ⟨_, rfl⟩
  have hrl : r.length = 32 := by rw [hr, vs_length, keyB_length]
  have hro : r.toArray.all (·.oneCell') = true := by rw [hr]; exact one_u8
  have hko : ∀ W, By W (fun k => k < g) As ns seed → Tab W → Calls Tryd.prog 21 #[.slice As ns cs, .agg #[.int .u16 (x : Int), .int .u16 (x : Int)]] W fun e w' => e = .returned (.agg r.toArray) ∧ Below W.heap.size W w' := fun W h1 h2 => by
    rw [hr]; exact keyOf_any _ seed x x hx hx As ns cs W h1 hnc hcm h2 (by rw [← hsd.len]; exact hs)
  have hkeep : ∀ W, TS W g seed → Calls Tryd.prog 22 #[.pointer (some ⟨g, 0, none⟩), .agg #[.int .u16 (x : Int), .int .u16 (x : Int)], .agg r.toArray] W fun e w' => e = .returned (.tuple #[]) ∧ TS w' g seed ∧ KF g W w' := fun W h => by
    rw [hr]; exact keep_any g seed x x W h
  have HKo := Lib.hid hko
  have HKeep := Lib.hid hkeep
  have HRl := Lib.hid hrl
  have HRo := Lib.hid hro
  have HB0 := Lib.hid hb
  have HSd := Lib.hid hsd
  have HM0 := Lib.hid hm
  have HRe := Lib.hid hr
  rw [← hr]
  clear hr hko hkeep hrl hro ht hb hsd hm
  go_enter Tryd.func16, Tryd.ntmps16
  go_wp2
  obtain ⟨wz, hwz⟩ : ∃ wz, wz = ((w.alloc (.cells (vs zero32).toArray 37)).alloc (.cells #[.int .u16 (x : Int), .int .u16 (x : Int)] 58)) := ⟨_, rfl⟩
  have hxz : Below w.heap.size w wz := by rw [hwz]; exact ((Below.refl _ w).alloc (Nat.le_refl _) _).alloc (by simp) _
  have hbz : Blk wz g 44 [.slice As ns cs, .map m] := HB0.out.through hxz
  have h6 : Blk wz w.heap.size 37 (vs zero32) := by rw [hwz]; exact (Blk.fresh rfl rfl).alloc _
  have h9 : Blk wz (w.heap.size + 1) 58 [.int .u16 (x : Int), .int .u16 (x : Int)] := by rw [hwz]; exact Blk.fresh (by simp) rfl
  have hmz := HM0.out.through hxz
  obtain ⟨v, ok, hlk, hvl, hok⟩ := run_lookup_two hmz x x
  obtain ⟨q, hq⟩ : ∃ q, q = vs v := ⟨_, rfl⟩
  have hql : q.length = 32 := by rw [hq, vs_length, hvl]; cases ok <;> simp [keyB_length]
  have hqo : q.toArray.all (·.oneCell') = true := by rw [hq]; exact one_u8
  have HLk : Hid (∀ W, Below wz.heap.size wz W → (Instr.lookup 42 (.map m) (.agg #[.int .u16 (x : Int), .int .u16 (x : Int)]) true).run Tryd.prog W = .ok (.tuple #[.agg q.toArray, .bool ok]) W) := Lib.hid (fun W hW => by rw [hq]; exact hlk W (map_keep hmz hW))
  have HOk : Hid (ok = true → q = r) := Lib.hid (fun e => by rw [hq, hok e, HRe.out])
  have HQl := Lib.hid hql
  have HQo := Lib.hid hqo
  have HXz := Lib.hid hxz
  have HB := Lib.hid hbz
  have HM := Lib.hid hmz
  have hgz := hbz.lt
  have h6z := h6.lt
  have h9z := h9.lt
  change Code.wp _ _ _ _ ((w.alloc (.cells (vs zero32).toArray 37)).alloc (.cells #[.int .u16 (x : Int), .int .u16 (x : Int)] 58))
  rw [← hwz]
  obtain ⟨b6, hb6⟩ : ∃ b6, b6 = w.heap.size := ⟨_, rfl⟩
  obtain ⟨b9, hb9⟩ : ∃ b9, b9 = w.heap.size + 1 := ⟨_, rfl⟩
  rw [← hb9] at h9 h9z
  rw [← hb9]
  rw [← hb6] at h6 h6z
  have hg6 : g < b6 := by rw [hb6]; exact hgw
  have h6w : w.heap.size ≤ b6 := by rw [hb6]; exact Nat.le_refl _
  have H6 := Lib.hid h6
  have H9 := Lib.hid h9
  clear hwz hxz hbz h6 h9 hmz hlk hvl hok hq hql hqo hb9
  rw [← hb6]
  clear hb6
  refine wp_region_held_drew (S := fun W => Blk W g 44 [.slice As ns cs, .map m] ∧ Blk W b9 58 [.int .u16 (x : Int), .int .u16 (x : Int)] ∧ Below wz.heap.size wz W) (by kernel_rfl) ⟨HB.out.drew, H9.out.drew, (Below.refl _ wz).drew⟩ (fun hHeld => ?_)
  change wpAnyH _ _ _ _ _ _ #[false, false, false, false, false, false, false, false, false, false, false, false] _ _
  refine wpAnyH_take (i := 0) (v := (.pointer (some ⟨g, 0, none⟩))) rfl (by kernel_rfl) (by kernel_rfl) (by kernel_rfl) (fun _ _ _ h => h) (Or.inl ⟨by kernel_rfl, fun w hSw => ?_⟩) (by assumption) ?_
  · (try dsimp only at hSw); go_simp <;> (try rfl)
  change wpAnyH _ _ _ _ _ _ _ (Act.put _ (some (28 : Nat)) (.pointer (some ⟨g, 0, none⟩))) _
  simp only [Act.put, List.setIfInBounds_toArray, List.set_cons_zero, List.set_cons_succ]
  refine wpAnyH_take (i := 1) (v := (.pointer (some ⟨g, 0, none⟩))) rfl (by kernel_rfl) (by kernel_rfl) (by kernel_rfl) (fun _ _ _ h => h) (Or.inl ⟨by kernel_rfl, fun w hSw => ?_⟩) (by assumption) ?_
  · (try dsimp only at hSw); go_simp <;> (try rfl)
  change wpAnyH _ _ _ _ _ _ _ (Act.put _ (some (29 : Nat)) (.pointer (some ⟨g, 0, none⟩))) _
  simp only [Act.put, List.setIfInBounds_toArray, List.set_cons_zero, List.set_cons_succ]
  refine wpAnyH_take (i := 2) (v := (.pointer (some ⟨g, 1, none⟩))) rfl (by kernel_rfl) (by kernel_rfl) (by kernel_rfl) (fun _ _ _ h => h) (Or.inl ⟨by kernel_rfl, fun w hSw => ?_⟩) (by assumption) ?_
  · (try dsimp only at hSw); go_simp <;> (try rfl)
  change wpAnyH _ _ _ _ _ _ _ (Act.put _ (some (30 : Nat)) (.pointer (some ⟨g, 1, none⟩))) _
  simp only [Act.put, List.setIfInBounds_toArray, List.set_cons_zero, List.set_cons_succ]
  refine wpAnyH_take (i := 3) (v := (.map m)) rfl (by kernel_rfl) (by kernel_rfl) (by kernel_rfl) (fun _ _ _ h => h) (yields_load_at (by kernel_rfl) 42 (.tmp 30) rfl (.pointer (some ⟨g, 1, none⟩)) (by simp [Act.eval]) (.map m) (fun W hW => load_map (hW.1.cellAt rfl))) (by assumption) ?_
  change wpAnyH _ _ _ _ _ _ _ (Act.put _ (some (31 : Nat)) (.map m)) _
  simp only [Act.put, List.setIfInBounds_toArray, List.set_cons_zero, List.set_cons_succ]
  refine wpAnyH_take (i := 4) (v := (.agg #[.int .u16 (x : Int), .int .u16 (x : Int)])) rfl (by kernel_rfl) (by kernel_rfl) (by kernel_rfl) (fun _ _ _ h => h) (yields_load_at (by kernel_rfl) 58 (.tmp 9) rfl (.pointer (some ⟨b9, 0, none⟩)) (by simp [Act.eval]) (.agg #[.int .u16 (x : Int), .int .u16 (x : Int)]) (fun W hW => hW.2.1.loadAt 58 _ Tryd.underlying58 rfl (by kernel_rfl))) (by assumption) ?_
  change wpAnyH _ _ _ _ _ _ _ (Act.put _ (some (32 : Nat)) (.agg #[.int .u16 (x : Int), .int .u16 (x : Int)])) _
  simp only [Act.put, List.setIfInBounds_toArray, List.set_cons_zero, List.set_cons_succ]
  refine wpAnyH_take (i := 5) (v := (.tuple #[.agg q.toArray, .bool ok])) rfl (by kernel_rfl) (by kernel_rfl) (by kernel_rfl) (fun _ _ _ h => h) (yields_lookup (by kernel_rfl) 42 (.tmp 31) (.tmp 32) rfl (.map m) (.agg #[.int .u16 (x : Int), .int .u16 (x : Int)]) (by simp [Act.eval]) (by simp [Act.eval]) (.tuple #[.agg q.toArray, .bool ok]) (fun W hW => HLk.out W hW.2.2)) (by assumption) ?_
  change wpAnyH _ _ _ _ _ _ _ (Act.put _ (some (33 : Nat)) (.tuple #[.agg q.toArray, .bool ok])) _
  simp only [Act.put, List.setIfInBounds_toArray, List.set_cons_zero, List.set_cons_succ]
  refine wpAnyH_take (i := 6) (v := (.tuple #[.agg q.toArray, .bool ok])) rfl (by kernel_rfl) (by kernel_rfl) (by kernel_rfl) (fun _ _ _ h => h) (Or.inl ⟨by kernel_rfl, fun w hSw => ?_⟩) (by assumption) ?_
  · (try dsimp only at hSw); go_simp <;> (try rfl)
  change wpAnyH _ _ _ _ _ _ _ (Act.put _ (some (27 : Nat)) (.tuple #[.agg q.toArray, .bool ok])) _
  simp only [Act.put, List.setIfInBounds_toArray, List.set_cons_zero, List.set_cons_succ]
  refine wpAnyH_take (i := 7) (v := (.agg q.toArray)) rfl (by kernel_rfl) (by kernel_rfl) (by kernel_rfl) (fun _ _ _ h => h) (Or.inl ⟨by kernel_rfl, fun w hSw => ?_⟩) (by assumption) ?_
  · (try dsimp only at hSw); go_simp <;> (try rfl)
  change wpAnyH _ _ _ _ _ _ _ (Act.put _ (some (34 : Nat)) (.agg q.toArray)) _
  simp only [Act.put, List.setIfInBounds_toArray, List.set_cons_zero, List.set_cons_succ]
  refine wpAnyH_take (i := 8) (v := (.bool ok)) rfl (by kernel_rfl) (by kernel_rfl) (by kernel_rfl) (fun _ _ _ h => h) (Or.inl ⟨by kernel_rfl, fun w hSw => ?_⟩) (by assumption) ?_
  · (try dsimp only at hSw); go_simp <;> (try rfl)
  change wpAnyH _ _ _ _ _ _ _ (Act.put _ (some (35 : Nat)) (.bool ok)) _
  simp only [Act.put, List.setIfInBounds_toArray, List.set_cons_zero, List.set_cons_succ]
  refine wpAnyH_ready (rs := [9]) (by kernel_rfl) (by simp) ?_
  refine AllReadyH.cons (o := ⟨some 10, .alloc 37, _, _, _, none⟩) rfl (fun K hK => ?_) AllReadyH.nil
  refine step_alloc (by kernel_rfl) 37 rfl _ _ (Tryd.alloc_tag _) ?_; have HB1 := Lib.hid (hHeld.1.alloc (.cells (vs (List.replicate 32 0)).toArray 37)); have H91 := Lib.hid (hHeld.2.1.alloc (.cells (vs (List.replicate 32 0)).toArray 37)); have HX1 := Lib.hid (hHeld.2.2.alloc hHeld.2.2.size (.cells (vs (List.replicate 32 0)).toArray 37))
  refine hK.out _ _ ⟨HB1.out, H91.out, HX1.out⟩ (fun hHeld1 => ?_)
  clear hHeld hK K
  have hHeld := hHeld1
  clear hHeld1
  change wpAnyH _ _ _ _ _ _ _ (Act.put _ (some (10 : Nat)) (.pointer (some ⟨_, 0, none⟩))) _
  simp only [Act.put, List.setIfInBounds_toArray, List.set_cons_zero, List.set_cons_succ]
  refine wpAnyH_ready (rs := [10]) (by kernel_rfl) (by simp) ?_
  refine AllReadyH.cons (o := ⟨none, .store 37 (.tmp 10) (.tmp 34), _, _, _, none⟩) rfl (fun K hK => ?_) AllReadyH.nil
  refine step_store_blk rfl 37 (.tmp 10) (.tmp 34) rfl wz.drew.heap.size q (by simp [Act.eval]) (by simp [Act.eval]) 37 (vs (List.replicate 32 0)) (Blk.fresh rfl rfl) (by rw [HQl.out]; kernel_rfl) (by rw [HQl.out]; rfl) HQo.out ?_; intro wa hba hoa; have HBa := Lib.hid (HB1.out.grown hoa (fun e => absurd (Option.some.inj e) (Nat.ne_of_lt hgz))); have H9a := Lib.hid (H91.out.grown hoa (fun e => absurd (Option.some.inj e) (Nat.ne_of_lt h9z))); have HXa := Lib.hid (HX1.out.grown hoa HX1.out.size (fun k hk => Option.some.inj hk ▸ Nat.le_refl _)); have HTa := Lib.hid hba; clear hba hoa
  refine hK.out _ _ ⟨HBa.out, H9a.out, HXa.out⟩ (fun hHeld1 => ?_)
  clear hHeld hK K
  have hHeld := hHeld1
  clear hHeld1
  change wpAnyH _ _ _ _ _ _ _ (Act.put _ none undef) _
  simp only [Act.put]
  refine wpAnyH_take (i := 11) (v := (.bool ok)) rfl (by kernel_rfl) (by kernel_rfl) (by kernel_rfl) (fun _ _ _ h => h) (Or.inl ⟨by kernel_rfl, fun w hSw => ?_⟩) (by assumption) ?_
  · (try dsimp only at hSw); go_simp <;> (try rfl)
  change wpAnyH _ _ _ _ _ _ _ (Act.put _ (some (11 : Nat)) (.bool ok)) _
  simp only [Act.put, List.setIfInBounds_toArray, List.set_cons_zero, List.set_cons_succ]
  refine wpAnyH_done (by kernel_rfl) ?_ _
  obtain ⟨b10, hb10⟩ : ∃ b10, b10 = wz.drew.heap.size := ⟨_, rfl⟩
  rw [← hb10] at HTa
  rw [← hb10]
  have hz10 : wz.heap.size = b10 := by rw [hb10]; rfl
  have h610 : b6 < b10 := by rw [← hz10]; exact h6z
  have hg10 : g < b10 := by rw [← hz10]; exact hgz
  have h910 : b9 < b10 := by rw [← hz10]; exact h9z
  have H6a := Lib.hid (H6.out.through HXa.out)
  have HMa := Lib.hid (HM.out.through HXa.out)
  have HXw := Lib.hid (HXz.out.trans (HXa.out.mono HXz.out.size))
  have HSda := Lib.hid (HSd.out.through HXw.out)
  have HTab := Lib.hid (HT.out.through HXw.out)
  clear hb10 hHeld HB1 H91 HX1
  cases ok with
  | true =>
    have hqv := HOk.out rfl
    have HQv := Lib.hid hqv
    clear hqv
    go_wp2_with (first
      | (refine wpList_load_blk rfl 37 (.tmp 10) rfl b10 rfl 37 q _ HTa.out Tryd.underlying37 rfl (by rw [HQl.out]; kernel_rfl) ?_)
      | (refine wpList_store_row rfl 37 (.tmp 6) (.tmp 48) rfl b6 q.toArray rfl rfl 37 (vs zero32).toArray H6a.out (by rw [List.size_toArray, HQl.out]; kernel_rfl) (by rw [List.size_toArray, List.size_toArray, HQl.out]; rfl) HQo.out ?_))
    refine bodyPost_ret (v := .agg q.toArray) (results_cell_row rfl _ _ b6 37 _ (0, 0) _ rfl (H6a.out.row _) Tryd.underlying37 rfl ?r1) rfl ⟨by rw [HQv.out], ⟨m, As, ns, cs, HBa.out.rowFar (Nat.ne_of_lt hg6) _, HSda.out.rowBy (fun k hk => Nat.ne_of_lt (Nat.lt_trans hk hg6)), hnc, hcm, map_row HMa.out H6a.out⟩, KF.row (KF.of_below hgw HXw.out) h6w hgw⟩
    rw [List.size_toArray, HQl.out]; kernel_rfl
  | false =>
    clear HOk
    go_wp2
    refine wp_region_held_drew (S := fun W => Blk W g 44 [.slice As ns cs, .map m] ∧ Blk W b9 58 [.int .u16 (x : Int), .int .u16 (x : Int)]) (by kernel_rfl) ⟨HBa.out.drew, H9a.out.drew⟩ (fun hHeld => ?_)
    change wpAnyH _ _ _ _ _ _ #[false, false, false, false, false, false, false] _ _
    refine wpAnyH_take (i := 0) (v := (.pointer (some ⟨g, 0, none⟩))) rfl (by kernel_rfl) (by kernel_rfl) (by kernel_rfl) (fun _ _ _ h => h) (Or.inl ⟨by kernel_rfl, fun w hSw => ?_⟩) (by assumption) ?_
    · (try dsimp only at hSw); go_simp <;> (try rfl)
    change wpAnyH _ _ _ _ _ _ _ (Act.put _ (some (38 : Nat)) (.pointer (some ⟨g, 0, none⟩))) _
    simp only [Act.put, List.setIfInBounds_toArray, List.set_cons_zero, List.set_cons_succ]
    refine wpAnyH_take (i := 1) (v := (.pointer (some ⟨g, 0, none⟩))) rfl (by kernel_rfl) (by kernel_rfl) (by kernel_rfl) (fun _ _ _ h => h) (Or.inl ⟨by kernel_rfl, fun w hSw => ?_⟩) (by assumption) ?_
    · (try dsimp only at hSw); go_simp <;> (try rfl)
    change wpAnyH _ _ _ _ _ _ _ (Act.put _ (some (39 : Nat)) (.pointer (some ⟨g, 0, none⟩))) _
    simp only [Act.put, List.setIfInBounds_toArray, List.set_cons_zero, List.set_cons_succ]
    refine wpAnyH_take (i := 2) (v := (.pointer (some ⟨g, 0, none⟩))) rfl (by kernel_rfl) (by kernel_rfl) (by kernel_rfl) (fun _ _ _ h => h) (Or.inl ⟨by kernel_rfl, fun w hSw => ?_⟩) (by assumption) ?_
    · (try dsimp only at hSw); go_simp <;> (try rfl)
    change wpAnyH _ _ _ _ _ _ _ (Act.put _ (some (40 : Nat)) (.pointer (some ⟨g, 0, none⟩))) _
    simp only [Act.put, List.setIfInBounds_toArray, List.set_cons_zero, List.set_cons_succ]
    refine wpAnyH_take (i := 3) (v := (.slice As ns cs)) rfl (by kernel_rfl) (by kernel_rfl) (by kernel_rfl) (fun _ _ _ h => h) (yields_load_at (by kernel_rfl) 22 (.tmp 40) rfl (.pointer (some ⟨g, 0, none⟩)) (by simp [Act.eval]) (.slice As ns cs) (fun W hW => load_slice (hW.1.cellAt rfl))) (by assumption) ?_
    change wpAnyH _ _ _ _ _ _ _ (Act.put _ (some (41 : Nat)) (.slice As ns cs)) _
    simp only [Act.put, List.setIfInBounds_toArray, List.set_cons_zero, List.set_cons_succ]
    refine wpAnyH_take (i := 4) (v := (.agg #[.int .u16 (x : Int), .int .u16 (x : Int)])) rfl (by kernel_rfl) (by kernel_rfl) (by kernel_rfl) (fun _ _ _ h => h) (yields_load_at (by kernel_rfl) 58 (.tmp 9) rfl (.pointer (some ⟨b9, 0, none⟩)) (by simp [Act.eval]) (.agg #[.int .u16 (x : Int), .int .u16 (x : Int)]) (fun W hW => hW.2.loadAt 58 _ Tryd.underlying58 rfl (by kernel_rfl))) (by assumption) ?_
    change wpAnyH _ _ _ _ _ _ _ (Act.put _ (some (42 : Nat)) (.agg #[.int .u16 (x : Int), .int .u16 (x : Int)])) _
    simp only [Act.put, List.setIfInBounds_toArray, List.set_cons_zero, List.set_cons_succ]
    refine wpAnyH_ready (rs := [5]) (by kernel_rfl) (by simp) ?_
    refine AllReadyH.cons rfl (fun K hK => ?_) AllReadyH.nil
    go_simp
    refine (HKo.out _ HSda.out.drew HTab.out.drew_).mono ?_
    rintro e wb ⟨rfl, hbb⟩; have HBb := Lib.hid (HBa.out.drew.through hbb); have H9b := Lib.hid (H9a.out.drew.through hbb); have HTb := Lib.hid (HTa.out.drew.through hbb); have H6b := Lib.hid (H6a.out.drew.through hbb); have HMb := Lib.hid (HMa.out.drew_.through hbb); have HXb := Lib.hid (HXw.out.drew.trans (hbb.mono HXw.out.size)); clear hbb
    go_wp2_with fail
    refine hK.out _ _ ⟨HBb.out, H9b.out⟩ (fun hHeld1 => ?_)
    clear hHeld hK K
    have hHeld := hHeld1
    clear hHeld1
    refine wpAnyH_ready (rs := [6]) (by kernel_rfl) (by simp) ?_
    refine AllReadyH.cons (o := ⟨none, .store 37 (.tmp 10) (.tmp 43), _, _, _, none⟩) rfl (fun K hK => ?_) AllReadyH.nil
    refine step_store_blk rfl 37 (.tmp 10) (.tmp 43) rfl b10 r (by simp [Act.eval]) (by simp [Act.eval]) 37 q HTb.out (by rw [HRl.out]; kernel_rfl) (by rw [HQl.out, HRl.out]) HRo.out ?_; intro wc hbc hoc; have HBc := Lib.hid (HBb.out.grown hoc (fun e => absurd (Option.some.inj e) (Nat.ne_of_lt hg10))); have H9c := Lib.hid (H9b.out.grown hoc (fun e => absurd (Option.some.inj e) (Nat.ne_of_lt h910))); have H6c := Lib.hid (H6b.out.grown hoc (fun e => absurd (Option.some.inj e) (Nat.ne_of_lt h610))); have HMc := Lib.hid (map_grown HMb.out HTb.out hoc); have HXc := Lib.hid (HXb.out.grown hoc HXb.out.size (fun k hk => Option.some.inj hk ▸ Nat.le_of_lt (Nat.lt_of_le_of_lt h6w h610))); have HTc := Lib.hid hbc; clear hbc hoc
    refine hK.out _ _ ⟨HBc.out, H9c.out⟩ (fun hHeld1 => ?_)
    clear hHeld hK K
    have hHeld := hHeld1
    clear hHeld1
    change wpAnyH _ _ _ _ _ _ _ (Act.put _ none undef) _
    simp only [Act.put]
    refine wpAnyH_done (by kernel_rfl) ?_ _
    have HTS : Hid (TS wc g seed) := Lib.hid ⟨m, As, ns, cs, HBc.out, HSd.out.through HXc.out, hnc, hcm, HMc.out⟩
    clear hHeld
    go_wp2_with (first
          | (refine wpList_load_blk rfl 58 (.tmp 9) rfl b9 rfl 58 [.int .u16 (x : Int), .int .u16 (x : Int)] _ H9c.out Tryd.underlying58 rfl (by kernel_rfl) ?_)
          | (refine wpList_load_blk rfl 37 (.tmp 10) rfl b10 rfl 37 r _ HTc.out Tryd.underlying37 rfl (by rw [HRl.out]; kernel_rfl) ?_)
          | (go_at_call 22; (with_reducible refine (HKeep.out _ HTS.out).mono ?_); rintro e wd ⟨rfl, hts, hkf⟩; have HTd := Lib.hid (hkf.blk HTc.out (Nat.ne_of_gt hg10)); have H6d := Lib.hid (hkf.blk H6c.out (Nat.ne_of_gt hg6)); have HTSd := Lib.hid hts; have HKF := Lib.hid ((KF.of_below hgw HXc.out).trans hkf); clear hts hkf)
          | (refine wpList_load_blk rfl 37 (.tmp 10) rfl b10 rfl 37 r _ HTd.out Tryd.underlying37 rfl (by rw [HRl.out]; kernel_rfl) ?_)
          | (refine wpList_store_row rfl 37 (.tmp 6) (.tmp 48) rfl b6 r.toArray rfl rfl 37 (vs zero32).toArray H6d.out (by rw [List.size_toArray, HRl.out]; kernel_rfl) (by rw [List.size_toArray, List.size_toArray, HRl.out]; rfl) HRo.out ?_))
    refine bodyPost_ret (v := .agg r.toArray) (results_cell_row rfl _ _ b6 37 _ (0, 0) _ rfl (H6d.out.row _) Tryd.underlying37 rfl ?r2) rfl ⟨rfl, TS.row HTSd.out H6d.out hg6, KF.row HKF.out h6w hgw⟩
    rw [List.size_toArray, HRl.out]; kernel_rfl

theorem key_tab (g : Nat) (seed : List UInt8) (a b : Int) (w : World) (ht : Tab w) (h : TS w g seed) (hs : seed.length ≤ 1000000) :
    Calls Tryd.prog 16 #[.pointer (some ⟨g, 0, none⟩), .int .i64 a, .int .i64 b] w fun e w' => e = .returned (.agg (vs (keyAB seed a b)).toArray) ∧ TS w' g seed ∧ KF g w w' := by
  have hx := a16_lt a
  have hy := a16_lt b
  have hwa := u16_wrap a
  have hwb := u16_wrap b
  unfold keyAB
  rcases Nat.lt_trichotomy (a16 a) (a16 b) with h1 | h1 | h1
  · rw [Nat.min_eq_left (by omega), Nat.max_eq_right (by omega)]
    exact key_tab_lt g seed a b _ _ hwa hwb hx hy h1 w ht h hs
  · rw [← h1] at hwb ⊢
    rw [Nat.min_self, Nat.max_self]
    exact key_tab_eq g seed a b _ hwa hwb hx w ht h hs
  · rw [Nat.min_eq_right (by omega), Nat.max_eq_left (by omega)]
    exact key_tab_gt g seed a b _ _ hwa hwb hx hy h1 w ht h hs

theorem Tab.kf {w w' : World} {g : Nat} (h : Tab w) (hf : KF g w w') (h0 : 0 < g) (h1 : 1 < g) : Tab w' := by
  refine ⟨fun i hi => ?_, fun i hi => ?_⟩
  · rw [World.cell?_of_block (a := ⟨0, i, none⟩) (hf.1.block _ h0)]
    exact h.1 i hi
  · rw [World.cell?_of_block (a := ⟨1, i, none⟩) (hf.1.block _ h1)]
    exact h.2 i hi

theorem TS.grown {w w' : World} {g b : Nat} {seed : List UInt8} {t : TypeId} {cs : List Value} (h : TS w g seed) (hb : Blk w b t cs) (ho : w.grownBy w' (some b)) (hg : g < b) : TS w' g seed := by
  obtain ⟨m, As, ns, c, hk, hy, h1, h2, hm⟩ := h
  exact ⟨m, As, ns, c, hk.grown ho (fun e => absurd (Option.some.inj e) (Nat.ne_of_lt hg)), hy.lt.keep (fun k hk => ho.block k hk.2 (fun e => by have := Option.some.inj e; omega)) |>.weak (fun _ h => h.1), h1, h2, map_grown hm hb ho⟩

set_option maxHeartbeats 8000000 in
set_option maxRecDepth 100000 in
theorem tag_tab (g : Nat) (Q : Nat → Prop) (hQ : ∀ k, Q k → k ≠ g) (seed : List UInt8) (a b : Int) (text : List UInt8) (A : Option Addr) (n c : Nat) (w : World) (hts : TS w g seed) (hs : seed.length ≤ 1000000) (hgl0 : 0 < g) (hgl1 : 1 < g) (hby : By w Q A n text) (ht : Tab w) (hn : n ≤ 1000000) :
    Calls Tryd.prog 11 #[.pointer (some ⟨g, 0, none⟩), .int .i64 a, .int .i64 b, .slice A n c] w fun e w' => e = .returned (.agg (vs (tagAB seed a b text)).toArray) ∧ TS w' g seed ∧ KF g w w' := by
  have hgw' := hts.lt
  have hgw := Nat.le_of_lt hgw'
  have HTS := Lib.hid hts
  have hg0 := hgl0
  have hg1' := hgl1
  have HBy := Lib.hid hby
  have HT := Lib.hid ht
  obtain ⟨r, hr⟩ : ∃ r, r = vs (tagAB seed a b text) := ⟨_, rfl⟩
  have hrl : r.length = 32 := by rw [hr, vs_length, tagAB_length]
  have hro : r.toArray.all (·.oneCell') = true := by rw [hr]; exact one_u8
  obtain ⟨q, hq⟩ : ∃ q, q = vs (keyAB seed a b) := ⟨_, rfl⟩
  have hql : q.length = 32 := by rw [hq, vs_length, keyAB_length]
  have hqo : q.toArray.all (·.oneCell') = true := by rw [hq]; exact one_u8
  have hqb : ∀ W k, Blk W k 37 q → By W (fun _ => True) (some ⟨k, 0, none⟩) 32 (keyAB seed a b) := fun W k h => by rw [hq] at h; exact By.of_blk_n h (keyAB_length _ _ _) trivial
  have hadr : ∀ W, By W Q A n text → Calls Tryd.prog 18 #[.int .i64 a, .int .i64 b, .slice A n c] W fun e w' => ∃ A' c', e = .returned (.slice A' (4 + n) c') ∧ w'.ownsRow W.heap.size 5 1 (.slice A' (4 + n) c') (4 + n) (vs (addr a b text)) ∧ 4 + n ≤ c' ∧ c' ≤ maxLen ∧ Below W.heap.size W w' := fun W h => addressed_any Q a b text A n c W h hn
  have hkey : ∀ W, Tab W → TS W g seed → Calls Tryd.prog 16 #[.pointer (some ⟨g, 0, none⟩), .int .i64 a, .int .i64 b] W fun e w' => e = .returned (.agg q.toArray) ∧ TS w' g seed ∧ KF g W w' := fun W h1 h2 => by rw [hq]; exact key_tab g seed a b W h1 h2 hs
  have hof : ∀ W k A' c', By W (fun _ => True) (some ⟨k, 0, none⟩) 32 (keyAB seed a b) → By W (fun _ => True) A' (4 + n) (addr a b text) → 4 + n ≤ c' → c' ≤ maxLen → Tab W → Calls Tryd.prog 17 #[.slice (some ⟨k, 0, none⟩) 32 32, .slice A' (4 + n) c'] W fun e w' => e = .returned (.agg r.toArray) ∧ Below W.heap.size W w' := fun W k A' c' h1 h2 h3 h4 h5 => by
    rw [hr]; exact of_any _ _ (keyAB seed a b) (addr a b text) _ A' 32 32 _ c' W h1 (Nat.le_refl _) (by unfold maxLen; omega) h2 h3 h4 h5 (by omega) (by omega)
  have HKey := Lib.hid hkey
  have HAdr := Lib.hid hadr
  have HOf := Lib.hid hof
  have HQl := Lib.hid hql
  have HQo := Lib.hid hqo
  have HQb := Lib.hid hqb
  have HRl := Lib.hid hrl
  have HRo := Lib.hid hro
  rw [← hr]
  clear hby ht hr hrl hro hq hql hqo hqb hkey hadr hof
  go_enter Tryd.func11, Tryd.ntmps11
  go_wp2_with (first
    | (go_at_call 16; (with_reducible refine (HKey.out _ (HT.out.through ((Below.refl _ w).alloc (Nat.le_refl _) _)) (HTS.out.through ((Below.refl _ w).alloc (Nat.le_refl _) _))).mono ?_); rintro e w1 ⟨rfl, hts1, hkf1⟩; have HX1 : Hid (KF g w w1) := Lib.hid ((KF.of_below hgw' ((Below.refl _ w).alloc (Nat.le_refl _) _)).trans hkf1); have HB1 : Hid (Blk w1 w.heap.size 37 (vs zero32)) := Lib.hid (hkf1.blk (Blk.fresh rfl (by kernel_rfl)) (Nat.ne_of_gt hgw')); have hg1 : w.heap.size < w1.heap.size := Nat.lt_of_lt_of_le (by simp) hkf1.size; have HS1 := Lib.hid hts1; have HY1 := Lib.hid ((HBy.out.alloc _).kf hkf1 hQ); have HTb1 := Lib.hid ((HT.out.through ((Below.refl _ w).alloc (Nat.le_refl _) _)).kf hkf1 hg0 hg1'); clear hts1 hkf1)
    | (refine wpList_store_blk rfl 37 (.tmp 9) (.tmp 13) rfl w1.heap.size q rfl rfl 37 (vs zero32) (Blk.fresh rfl (by kernel_rfl)) (by rw [HQl.out]; kernel_rfl) (by rw [HQl.out]; rfl) HQo.out ?_; intro w2 hb2 ho2; have hx2 := below_new ho2; have HB2 := Lib.hid (HB1.out.through hx2); have HQ2 := Lib.hid hb2; have HY2 := Lib.hid (HY1.out.through hx2); have HTb2 := Lib.hid (HTb1.out.through hx2); have HX2 := Lib.hid (HX1.out.trans (KF.of_below HS1.out.lt hx2)); have HS2 := Lib.hid (HS1.out.through hx2); clear hb2 ho2 hx2))
  obtain ⟨b9, hb9⟩ : ∃ b9, b9 = w1.heap.size := ⟨_, rfl⟩
  rw [← hb9] at HQ2
  rw [← hb9]
  obtain ⟨b8, hb8⟩ : ∃ b8, b8 = w.heap.size := ⟨_, rfl⟩
  rw [← hb8] at HB2
  have h89 : b8 < b9 := by rw [hb8, hb9]; exact hg1
  have h8w : w.heap.size ≤ b8 := by rw [hb8]; exact Nat.le_refl _
  have hg8 : g < b8 := by rw [hb8]; exact hgw'
  rw [← hb8]
  clear hb8 hb9 hg1
  try dsimp only [Act.put]
  refine wp_region_held_drew (S := fun W => Blk W b9 37 q) (by kernel_rfl) HQ2.out.drew (fun hHeld => ?_)
  change wpAnyH _ _ _ _ _ _ #[false, false, false, false, false, false, false] _ _
  refine wpAnyH_take (i := 0) (v := (.slice (some ⟨b9, 0, none⟩) 32 32)) rfl (by kernel_rfl) (by kernel_rfl) (by kernel_rfl) (fun _ _ _ h => h) (Or.inl ⟨by kernel_rfl, fun w hSw => ?_⟩) (by assumption) ?_
  · (try dsimp only at hSw); go_simp <;> (try rfl)
  change wpAnyH _ _ _ _ _ _ _ (Act.put _ (some (14 : Nat)) (.slice (some ⟨b9, 0, none⟩) 32 32)) _
  simp only [Act.put, List.setIfInBounds_toArray, List.set_cons_zero, List.set_cons_succ]
  refine wpAnyH_take (i := 1) (v := (.int .i64 a)) rfl (by kernel_rfl) (by kernel_rfl) (by kernel_rfl) (fun _ _ _ h => h) (Or.inl ⟨by kernel_rfl, fun w hSw => ?_⟩) (by assumption) ?_
  · (try dsimp only at hSw); go_simp <;> (try rfl)
  change wpAnyH _ _ _ _ _ _ _ (Act.put _ (some (15 : Nat)) (.int .i64 a)) _
  simp only [Act.put, List.setIfInBounds_toArray, List.set_cons_zero, List.set_cons_succ]
  refine wpAnyH_take (i := 2) (v := (.int .i64 b)) rfl (by kernel_rfl) (by kernel_rfl) (by kernel_rfl) (fun _ _ _ h => h) (Or.inl ⟨by kernel_rfl, fun w hSw => ?_⟩) (by assumption) ?_
  · (try dsimp only at hSw); go_simp <;> (try rfl)
  change wpAnyH _ _ _ _ _ _ _ (Act.put _ (some (16 : Nat)) (.int .i64 b)) _
  simp only [Act.put, List.setIfInBounds_toArray, List.set_cons_zero, List.set_cons_succ]
  refine wpAnyH_take (i := 3) (v := (.slice A n c)) rfl (by kernel_rfl) (by kernel_rfl) (by kernel_rfl) (fun _ _ _ h => h) (Or.inl ⟨by kernel_rfl, fun w hSw => ?_⟩) (by assumption) ?_
  · (try dsimp only at hSw); go_simp <;> (try rfl)
  change wpAnyH _ _ _ _ _ _ _ (Act.put _ (some (17 : Nat)) (.slice A n c)) _
  simp only [Act.put, List.setIfInBounds_toArray, List.set_cons_zero, List.set_cons_succ]
  refine wpAnyH_ready (rs := [4]) (by kernel_rfl) (by simp) ?_
  refine AllReadyH.cons rfl (fun K hK => ?_) AllReadyH.nil
  go_simp
  refine (HAdr.out _ HY2.out.drew).mono ?_
  rintro e wa ⟨Aa, ca, rfl, hoa, hca, hma, hb⟩; have HXwa := Lib.hid (HX2.out.drew.trans (KF.of_below HS2.out.lt hb)); have HSwa := Lib.hid (TS.through (w := w2.drew) HS2.out hb); have HBwa := Lib.hid (HB2.out.drew.through hb); have HQwa := Lib.hid (HQ2.out.drew.through hb); have HTbwa := Lib.hid (HTb2.out.drew_.through hb); have HYa := Lib.hid ((By.of_own hoa).weak (Q' := fun _ => True) fun _ _ => trivial); clear hoa hb
  go_wp2_with fail
  refine hK.out _ _ HQwa.out (fun hHeld1 => ?_)
  clear hHeld hK K
  have hHeld := hHeld1
  clear hHeld1
  refine wpAnyH_ready (rs := [5]) (by kernel_rfl) (by simp) ?_
  refine AllReadyH.cons rfl (fun K hK => ?_) AllReadyH.nil
  go_simp
  refine (HOf.out _ b9 Aa ca (HQb.out _ _ HQwa.out) HYa.out hca hma HTbwa.out).mono ?_
  rintro e wb ⟨rfl, hb⟩; have HXwb := Lib.hid (HXwa.out.trans (KF.of_below HSwa.out.lt hb)); have HSwb := Lib.hid (HSwa.out.through hb); have HBwb := Lib.hid (HBwa.out.through hb); have HQwb := Lib.hid (HQwa.out.through hb); have HTbwb := Lib.hid (HTbwa.out.through hb); clear hb
  go_wp2_with fail
  refine hK.out _ _ HQwb.out (fun hHeld1 => ?_)
  clear hHeld hK K
  have hHeld := hHeld1
  clear hHeld1
  refine wpAnyH_ready (rs := [6]) (by kernel_rfl) (by simp) ?_
  refine AllReadyH.cons (o := ⟨none, .store 37 (.tmp 8) (.tmp 19), _, _, _, none⟩) rfl (fun K hK => ?_) AllReadyH.nil
  refine step_store_blk rfl 37 (.tmp 8) (.tmp 19) rfl b8 r (by simp [Act.eval]) (by simp [Act.eval]) 37 (vs zero32) HBwb.out (by rw [HRl.out]; kernel_rfl) (by rw [HRl.out]; rfl) HRo.out ?_; intro wc hbc hoc; have HQc := Lib.hid (HQwb.out.grown hoc (fun e => absurd (Option.some.inj e) (Nat.ne_of_gt h89))); have HBc := Lib.hid hbc; have HGc := Lib.hid hoc; clear hbc hoc
  refine hK.out _ _ HQc.out (fun hHeld1 => ?_)
  clear hHeld hK K
  have hHeld := hHeld1
  clear hHeld1
  change wpAnyH _ _ _ _ _ _ _ (Act.put _ none undef) _
  simp only [Act.put]
  refine wpAnyH_done (by kernel_rfl) ?_ _
  go_wp2
  refine bodyPost_ret (v := .agg r.toArray) (results_cell_row rfl _ _ b8 37 _ (0, 0) _ rfl HBc.out Tryd.underlying37 rfl ?r1) rfl ⟨rfl, TS.grown HSwb.out HBwb.out HGc.out hg8, KF.grownB HXwb.out HGc.out h8w hgw'⟩
  rw [List.size_toArray, HRl.out]; kernel_rfl

set_option maxHeartbeats 8000000 in
set_option maxRecDepth 100000 in
theorem kcheck_tab (g : Nat) (Q : Nat → Prop) (hQ : ∀ k, Q k → k ≠ g) (seed : List UInt8) (a b : Int) (text tg : List UInt8) (htg : tg.length = 32) (A : Option Addr) (n c : Nat) (w : World) (hts : TS w g seed) (hs : seed.length ≤ 1000000) (hgl0 : 0 < g) (hgl1 : 1 < g) (hby : By w Q A n text) (ht : Tab w) (hn : n ≤ 1000000) :
    Calls Tryd.prog 50 #[.pointer (some ⟨g, 0, none⟩), .int .i64 a, .int .i64 b, .slice A n c, .agg (vs tg).toArray] w fun e w' => e = .returned (.bool (tagAB seed a b text == tg)) ∧ TS w' g seed ∧ KF g w w' := by
  have hgw' := hts.lt
  have hgw := Nat.le_of_lt hgw'
  have HTS := Lib.hid hts
  have HBy := Lib.hid hby
  have HT := Lib.hid ht
  obtain ⟨tq, htq⟩ : ∃ tq, tq = vs tg := ⟨_, rfl⟩
  have htl : tq.length = 32 := by rw [htq, vs_length, htg]
  have HTl := Lib.hid htl
  have hgt : Blk (w.alloc (.cells tq.toArray 37)) w.heap.size 37 tq := Blk.fresh rfl rfl
  have HGt := Lib.hid hgt
  obtain ⟨bb, hbb⟩ : ∃ bb, bb = (tagAB seed a b text == tg) := ⟨_, rfl⟩
  obtain ⟨q, hq⟩ : ∃ q, q = vs (keyAB seed a b) := ⟨_, rfl⟩
  have hql : q.length = 32 := by rw [hq, vs_length, keyAB_length]
  have hqo : q.toArray.all (·.oneCell') = true := by rw [hq]; exact one_u8
  have hqb : ∀ W k, Blk W k 37 q → By W (fun _ => True) (some ⟨k, 0, none⟩) 32 (keyAB seed a b) := fun W k h => by rw [hq] at h; exact By.of_blk_n h (keyAB_length _ _ _) trivial
  have hadr : ∀ W, By W Q A n text → Calls Tryd.prog 18 #[.int .i64 a, .int .i64 b, .slice A n c] W fun e w' => ∃ A' c', e = .returned (.slice A' (4 + n) c') ∧ w'.ownsRow W.heap.size 5 1 (.slice A' (4 + n) c') (4 + n) (vs (addr a b text)) ∧ 4 + n ≤ c' ∧ c' ≤ maxLen ∧ Below W.heap.size W w' := fun W h => addressed_any _ a b text A n c W h hn
  have hkey : ∀ W, Tab W → TS W g seed → Calls Tryd.prog 16 #[.pointer (some ⟨g, 0, none⟩), .int .i64 a, .int .i64 b] W fun e w' => e = .returned (.agg q.toArray) ∧ TS w' g seed ∧ KF g W w' := fun W h1 h2 => by rw [hq]; exact key_tab g seed a b W h1 h2 hs
  have hck : ∀ W k A' c', By W (fun _ => True) (some ⟨k, 0, none⟩) 32 (keyAB seed a b) → By W (fun _ => True) A' (4 + n) (addr a b text) → 4 + n ≤ c' → c' ≤ maxLen → Tab W → Calls Tryd.prog 51 #[.slice (some ⟨k, 0, none⟩) 32 32, .slice A' (4 + n) c', .agg tq.toArray] W fun e w' => e = .returned (.bool bb) ∧ Below W.heap.size W w' := fun W k A' c' h1 h2 h3 h4 h5 => by
    rw [hbb, htq]; exact check_any _ _ (keyAB seed a b) (addr a b text) tg htg _ A' 32 32 _ c' W h1 (Nat.le_refl _) (by unfold maxLen; omega) h2 h3 h4 h5 (by omega) (by omega)
  have HKey := Lib.hid hkey
  have HAdr := Lib.hid hadr
  have HCk := Lib.hid hck
  have HQl := Lib.hid hql
  have HQo := Lib.hid hqo
  have HQb := Lib.hid hqb
  rw [← hbb, ← htq]
  clear hby ht hq hql hqo hqb hkey hadr hck hts htq htl hgt hbb
  go_enter Tryd.func50, Tryd.ntmps50
  go_wp2_with (first
    | (go_at_call 16; (with_reducible refine (HKey.out _ (HT.out.through ((Below.refl _ w).alloc (Nat.le_refl _) _)) (HTS.out.through ((Below.refl _ w).alloc (Nat.le_refl _) _))).mono ?_); rintro e w1 ⟨rfl, hts1, hkf1⟩; have HX1 : Hid (KF g w w1) := Lib.hid ((KF.of_below hgw' ((Below.refl _ w).alloc (Nat.le_refl _) _)).trans hkf1); have HG1 : Hid (Blk w1 w.heap.size 37 tq) := Lib.hid (hkf1.blk HGt.out (Nat.ne_of_gt hgw')); have HS1 := Lib.hid hts1; have HY1 := Lib.hid ((HBy.out.alloc _).kf hkf1 hQ); have HTb1 := Lib.hid ((HT.out.through ((Below.refl _ w).alloc (Nat.le_refl _) _)).kf hkf1 hgl0 hgl1); clear hts1 hkf1)
    | (refine wpList_store_blk rfl 37 (.tmp 11) (.tmp 15) rfl w1.heap.size q rfl rfl 37 (vs zero32) (Blk.fresh rfl (by kernel_rfl)) (by rw [HQl.out]; kernel_rfl) (by rw [HQl.out]; rfl) HQo.out ?_; intro w2 hb2 ho2; have hx2 := below_new ho2; have HG2 := Lib.hid (HG1.out.through hx2); have HQ2 := Lib.hid hb2; have HY2 := Lib.hid (HY1.out.through hx2); have HTb2 := Lib.hid (HTb1.out.through hx2); have HX2 := Lib.hid (HX1.out.trans (KF.of_below HS1.out.lt hx2)); have HS2 := Lib.hid (HS1.out.through hx2); clear hb2 ho2 hx2))
  obtain ⟨b11, hb11⟩ : ∃ b11, b11 = w1.heap.size := ⟨_, rfl⟩
  rw [← hb11] at HQ2
  rw [← hb11]
  obtain ⟨b9, hb9⟩ : ∃ b9, b9 = w.heap.size := ⟨_, rfl⟩
  rw [← hb9] at HG2
  rw [← hb9]
  clear hb9 hb11
  try dsimp only [Act.put]
  refine wp_region_held_drew (S := fun W => Blk W b11 37 q ∧ Blk W b9 37 tq) (by kernel_rfl) ⟨HQ2.out.drew, HG2.out.drew⟩ (fun hHeld => ?_)
  change wpAnyH _ _ _ _ _ _ #[false, false, false, false, false, false, false, false] _ _
  refine wpAnyH_take (i := 0) (v := (.slice (some ⟨b11, 0, none⟩) 32 32)) rfl (by kernel_rfl) (by kernel_rfl) (by kernel_rfl) (fun _ _ _ h => h) (Or.inl ⟨by kernel_rfl, fun w hSw => ?_⟩) (by assumption) ?_
  · (try dsimp only at hSw); go_simp <;> (try rfl)
  change wpAnyH _ _ _ _ _ _ _ (Act.put _ (some (16 : Nat)) (.slice (some ⟨b11, 0, none⟩) 32 32)) _
  simp only [Act.put, List.setIfInBounds_toArray, List.set_cons_zero, List.set_cons_succ]
  refine wpAnyH_take (i := 1) (v := (.int .i64 a)) rfl (by kernel_rfl) (by kernel_rfl) (by kernel_rfl) (fun _ _ _ h => h) (Or.inl ⟨by kernel_rfl, fun w hSw => ?_⟩) (by assumption) ?_
  · (try dsimp only at hSw); go_simp <;> (try rfl)
  change wpAnyH _ _ _ _ _ _ _ (Act.put _ (some (17 : Nat)) (.int .i64 a)) _
  simp only [Act.put, List.setIfInBounds_toArray, List.set_cons_zero, List.set_cons_succ]
  refine wpAnyH_take (i := 2) (v := (.int .i64 b)) rfl (by kernel_rfl) (by kernel_rfl) (by kernel_rfl) (fun _ _ _ h => h) (Or.inl ⟨by kernel_rfl, fun w hSw => ?_⟩) (by assumption) ?_
  · (try dsimp only at hSw); go_simp <;> (try rfl)
  change wpAnyH _ _ _ _ _ _ _ (Act.put _ (some (18 : Nat)) (.int .i64 b)) _
  simp only [Act.put, List.setIfInBounds_toArray, List.set_cons_zero, List.set_cons_succ]
  refine wpAnyH_take (i := 3) (v := (.slice A n c)) rfl (by kernel_rfl) (by kernel_rfl) (by kernel_rfl) (fun _ _ _ h => h) (Or.inl ⟨by kernel_rfl, fun w hSw => ?_⟩) (by assumption) ?_
  · (try dsimp only at hSw); go_simp <;> (try rfl)
  change wpAnyH _ _ _ _ _ _ _ (Act.put _ (some (19 : Nat)) (.slice A n c)) _
  simp only [Act.put, List.setIfInBounds_toArray, List.set_cons_zero, List.set_cons_succ]
  refine wpAnyH_take (i := 5) (v := (.agg tq.toArray)) rfl (by kernel_rfl) (by kernel_rfl) (by kernel_rfl) (fun _ _ _ h => h) (yields_load_at (by kernel_rfl) 37 (.tmp 9) rfl (.pointer (some ⟨b9, 0, none⟩)) (by simp [Act.eval]) (.agg tq.toArray) (fun W hW => hW.2.loadAt 37 _ Tryd.underlying37 rfl (by rw [HTl.out]; kernel_rfl))) (by assumption) ?_
  change wpAnyH _ _ _ _ _ _ _ (Act.put _ (some (21 : Nat)) (.agg tq.toArray)) _
  simp only [Act.put, List.setIfInBounds_toArray, List.set_cons_zero, List.set_cons_succ]
  refine wpAnyH_ready (rs := [4]) (by kernel_rfl) (by simp) ?_
  refine AllReadyH.cons rfl (fun K hK => ?_) AllReadyH.nil
  go_simp
  refine (HAdr.out _ HY2.out.drew).mono ?_
  rintro e wa ⟨Aa, ca, rfl, hoa, hca, hma, hb⟩; have HXwa := Lib.hid (HX2.out.drew.trans (KF.of_below HS2.out.lt hb)); have HSwa := Lib.hid (TS.through (w := w2.drew) HS2.out hb); have HQwa := Lib.hid (HQ2.out.drew.through hb); have HGwa := Lib.hid (HG2.out.drew.through hb); have HTbwa := Lib.hid (HTb2.out.drew_.through hb); have HYa := Lib.hid ((By.of_own hoa).weak (Q' := fun _ => True) fun _ _ => trivial); clear hoa hb
  go_wp2_with fail
  refine hK.out _ _ ⟨HQwa.out, HGwa.out⟩ (fun hHeld1 => ?_)
  clear hHeld hK K
  have hHeld := hHeld1
  clear hHeld1
  refine wpAnyH_ready (rs := [6]) (by kernel_rfl) (by simp) ?_
  refine AllReadyH.cons rfl (fun K hK => ?_) AllReadyH.nil
  go_simp
  refine (HCk.out _ b11 Aa ca (HQb.out _ _ HQwa.out) HYa.out hca hma HTbwa.out).mono ?_
  rintro e wb ⟨rfl, hb⟩; have HXwb := Lib.hid (HXwa.out.trans (KF.of_below HSwa.out.lt hb)); have HSwb := Lib.hid (HSwa.out.through hb); have HQwb := Lib.hid (HQwa.out.through hb); have HGwb := Lib.hid (HGwa.out.through hb); have HTbwb := Lib.hid (HTbwa.out.through hb); clear hb
  go_wp2_with fail
  refine hK.out _ _ ⟨HQwb.out, HGwb.out⟩ (fun hHeld1 => ?_)
  clear hHeld hK K
  have hHeld := hHeld1
  clear hHeld1
  refine wpAnyH_take (i := 7) (v := (.bool bb)) rfl (by kernel_rfl) (by kernel_rfl) (by kernel_rfl) (fun _ _ _ h => h) (Or.inl ⟨by kernel_rfl, fun w hSw => ?_⟩) (by assumption) ?_
  · (try dsimp only at hSw); go_simp <;> (try rfl)
  change wpAnyH _ _ _ _ _ _ _ (Act.put _ (some (10 : Nat)) (.bool bb)) _
  simp only [Act.put, List.setIfInBounds_toArray, List.set_cons_zero, List.set_cons_succ]
  refine wpAnyH_done (by kernel_rfl) ?_ _
  go_wp2
  go_ret
  exact ⟨rfl, HSwb.out, HXwb.out⟩

set_option maxHeartbeats 2000000 in
set_option maxRecDepth 100000 in
theorem knew_any (Q : Nat → Prop) (seed : List UInt8) (A : Option Addr) (n c : Nat) (w : World) (hby : By w Q A n seed) (hn : n ≤ 1000000) :
    Calls Tryd.prog 5 #[.slice A n c] w fun e w' => ∃ g, e = .returned (.pointer (some ⟨g, 0, none⟩)) ∧ TS w' g seed ∧ w.heap.size ≤ g ∧ Below w.heap.size w w' := by
  have HBy := Lib.hid hby
  have hclone : ∀ W, By W Q A n seed → Calls Tryd.prog 13 #[.slice A n c] W fun e w' => ∃ A' c', e = .returned (.slice A' n c') ∧ w'.ownsRow W.heap.size 5 1 (.slice A' n c') n (vs seed) ∧ n ≤ c' ∧ c' ≤ maxLen ∧ Below W.heap.size W w' := fun W h => by
    refine (clone_any Q A n c seed W h (by omega)).mono ?_
    rintro e w' ⟨v, rfl, ho, hb⟩
    obtain ⟨A', c', rfl, h1, h2, _⟩ := own_form ho
    exact ⟨A', c', rfl, ho, h1, h2, hb⟩
  have HCl := Lib.hid hclone
  clear hby hclone
  go_enter Tryd.func5, Tryd.ntmps5
  go_wp2_with (first
    | (go_at_call 13; (with_reducible refine (HCl.out _ HBy.out).mono ?_); rintro e w1 ⟨A1, c1, rfl, ho1, hc1, hm1, hb1⟩; have HO1 := Lib.hid ho1; have HX1 := Lib.hid hb1; clear ho1 hb1))
  go_ret
  refine ⟨w1.heap.size, rfl, ⟨none, A1, n, c1, Blk.fresh rfl rfl, ((By.of_own HO1.out).weak (fun k hk => hk.2.1)).alloc _, hc1, hm1, MapIs.none_⟩, HX1.out.size, HX1.out.alloc HX1.out.size _⟩

end Go.Proofs.YtnncfhkgcaoomaaDoor
