/-
  Joined: BookW, Numb, OrdT, BMade, BTag, BAsk, VecW, VAll, VCls, VBTags, VBSign, VBook.
-/
import Derived.Test.YtgbobemhogeeeaaB2
import Derived.WideKeyRuns
import Derived.WideLaws
import Derived.RegionTactic
import Derived.ChangeAlike
import Derived.StillTailTactics
import Derived.Deep.QuietTactic
import Derived.Outline
import Derived.Laws.Cover3
import Derived.Great.BuildSlice
import Derived.Deep.AppendLies
import Derived.Deep.OwnRows
import Derived.Recover
import Derived.Deep.MidRow
namespace Go.Proofs.Ytgbobemhogeeeaa

section
open Go.RowKit
/-- A first byte, and a number of eight bytes at the end. -/
def numB (f : UInt8) (n : Nat) : List UInt8 := f :: (List.replicate 23 0 ++ beB n 8)
theorem numB_length (f : UInt8) (n : Nat) : (numB f n).length = 32 := by simp [numB, beB_length]
theorem beB_inj (k : Nat) : ∀ (n m : Nat), n < 256 ^ k → m < 256 ^ k → beB n k = beB m k → n = m := by
  induction k with
  | zero => intro n m hn hm _; simp at hn hm; omega
  | succ k ih =>
    intro n m hn hm h
    simp only [beB] at h
    obtain ⟨h1, h2⟩ := List.append_inj' h rfl
    have h3 : n / 256 = m / 256 := ih _ _ (by rw [Nat.pow_succ] at hn; omega) (by rw [Nat.pow_succ] at hm; omega) h1
    have h4 : (UInt8.ofNat n).toNat = (UInt8.ofNat m).toNat := by simp at h2; rw [h2]
    rw [UInt8.toNat_ofNat', UInt8.toNat_ofNat'] at h4
    omega
theorem numB_inj {f f' : UInt8} {n m : Nat} (hn : n < 18446744073709551616) (hm : m < 18446744073709551616) : numB f n = numB f' m ↔ f = f' ∧ n = m := by
  constructor
  · intro h
    unfold numB at h
    injection h with h1 h2
    refine ⟨h1, beB_inj 8 n m (by omega) (by omega) ?_⟩
    exact List.append_cancel_left h2
  · rintro ⟨rfl, rfl⟩
    rfl

section
variable {α : Type}
/-- The entries of a map that numbers its keys. -/
def ents (en : α → Value) (xs : List α) (b : Nat) : List (Value × Value) := (xs.zipIdx b).map fun p => (en p.1, .int .u64 (p.2 : Int))
theorem ents_cons (en : α → Value) (x : α) (xs : List α) (b : Nat) : ents en (x :: xs) b = (en x, .int .u64 (b : Int)) :: ents en xs (b + 1) := by simp [ents]
theorem ents_snoc (en : α → Value) (x : α) (xs : List α) (b : Nat) : ents en (xs ++ [x]) b = ents en xs b ++ [(en x, .int .u64 ((b + xs.length : Nat) : Int))] := by simp [ents, List.zipIdx_append]
theorem ents_length (en : α → Value) (xs : List α) (b : Nat) : (ents en xs b).length = xs.length := by simp [ents]
def kv (e : MapEntry) : Value × Value := (e.key, e.val)

variable {en : α → Value}
/-- What a map of an object of block g is: none, or the numbers of the keys xs in a block beyond g. -/
def MIs (W : World) (g : Nat) (en : α → Value) (xs : List α) (m : Option Nat) : Prop :=
  (m = none → xs = []) ∧ ∀ r, m = some r → g < r ∧ ∃ es ck, W.heap[r]? = some (.map es ck) ∧ es.toList.map kv = ents en xs 1
theorem MIs.nil {W : World} {g : Nat} : MIs W g en ([] : List α) none := ⟨fun _ => rfl, fun _ h => by cases h⟩
theorem MIs.keep {W W' : World} {g : Nat} {xs : List α} {m : Option Nat} (h : MIs W g en xs m) (hk : ∀ r, m = some r → W'.heap[r]? = W.heap[r]?) : MIs W' g en xs m := ⟨h.1, fun r e => by
  obtain ⟨hg, es, ck, hb, hok⟩ := h.2 r e
  exact ⟨hg, es, ck, (hk r e).trans hb, hok⟩⟩
theorem MIs.lt {W : World} {g : Nat} {xs : List α} {m : Option Nat} (h : MIs W g en xs m) : ∀ r, m = some r → r < W.heap.size := fun r e => by
  obtain ⟨_, es, ck, hb, _⟩ := h.2 r e
  exact (Array.getElem?_eq_some_iff.1 hb).1
theorem MIs.at {W : World} {g r : Nat} {xs : List α} (h : MIs W g en xs (some r)) : ∃ es ck, W.heap[r]? = some (.map es ck) := by
  obtain ⟨_, es, ck, hb, _⟩ := h.2 r rfl
  exact ⟨es, ck, hb⟩
theorem MIs.through {W W' : World} {g : Nat} {xs : List α} {m : Option Nat} (h : MIs W g en xs m) (hb : Below W.heap.size W W') : MIs W' g en xs m := h.keep fun r e => hb.block r (h.lt r e)
theorem MIs.drew {W : World} {g : Nat} {xs : List α} {m : Option Nat} (h : MIs W g en xs m) : MIs W.drew g en xs m := h
end

section
variable {α : Type} [DecidableEq α]
/-- With this one known too. -/
def also (x : α) (xs : List α) : List α := if x ∈ xs then xs else xs ++ [x]
/-- The how manieth it is. -/
def ord (x : α) (xs : List α) : Nat := xs.idxOf x + 1
theorem also_mem {x : α} {xs : List α} (h : x ∈ xs) : also x xs = xs := if_pos h
theorem also_new {x : α} {xs : List α} (h : x ∉ xs) : also x xs = xs ++ [x] := if_neg h
theorem mem_also (x : α) (xs : List α) : x ∈ also x xs := by
  unfold also
  split
  · assumption
  · simp
theorem mem_also_of {x y : α} {xs : List α} (h : y ∈ xs) : y ∈ also x xs := by
  unfold also
  split
  · exact h
  · simp [h]
theorem mem_also_iff {x y : α} {xs : List α} : y ∈ also x xs ↔ y ∈ xs ∨ y = x := by
  unfold also
  split
  · rename_i h
    constructor
    · exact .inl
    · rintro (h1 | rfl)
      · exact h1
      · exact h
  · simp
theorem ord_also {x y : α} {xs : List α} (h : y ∈ xs) : ord y (also x xs) = ord y xs := by
  unfold also ord
  split
  · rfl
  · rw [List.idxOf_append, if_pos h]
theorem ord_new {x : α} {xs : List α} (h : x ∉ xs) : ord x (also x xs) = xs.length + 1 := by
  rw [also_new h]
  unfold ord
  rw [List.idxOf_append, if_neg h]
  simp [Nat.add_comm]
theorem also_length (x : α) (xs : List α) : (also x xs).length ≤ xs.length + 1 := by
  unfold also
  split <;> simp
theorem also_le (x : α) (xs : List α) : xs.length ≤ (also x xs).length := by
  unfold also
  split <;> simp
theorem ord_le {x : α} {xs : List α} (h : x ∈ xs) : ord x xs ≤ xs.length := List.idxOf_lt_length_of_mem h
theorem ord_inj {x y : α} {xs : List α} (hx : x ∈ xs) (hy : y ∈ xs) : ord x xs = ord y xs ↔ x = y := by
  constructor
  · intro h
    unfold ord at h
    have h' : xs.idxOf x = xs.idxOf y := by omega
    have h1 := List.getElem_idxOf (List.idxOf_lt_length_of_mem hx)
    have h2 := List.getElem_idxOf (List.idxOf_lt_length_of_mem hy)
    rw [← h1, ← h2]
    simp [h']
  · rintro rfl
    rfl

/-- A kind of keys: how they stand in a map, and what the language says of them. -/
structure Keyed (P : Program) (mt kt vt : TypeId) (en : α → Value) : Prop where
  map : P.underlying mt = some (.map kt vt)
  wide : (match P.underlying kt with | some (.array _ _) | some (.struct _) => true | _ => false) = true
  eql : ∀ x y w, (Op.equal kt (en x) (en y)).run P w = .ok (decide (x = y)) w
  chk : ∀ em x w, (Instr.checkKey em 10000 kt (en x)).run P w = .ok () w
  zero : ∀ w, (zeroValue vt).run P w = .ok (.int .u64 0) w

variable {P : Program} {mt kt vt : TypeId} {en : α → Value}
theorem run_findAsking_ord (hk : Keyed P mt kt vt en) (x : α) (w : World) : ∀ (xs : List α) (es : List MapEntry) (k b : Nat), es.map kv = ents en xs b →
    (Instr.findAsking kt (en x) es k).run P w = .ok (if x ∈ xs then some (k + xs.idxOf x, .int .u64 ((b + xs.idxOf x : Nat) : Int)) else none) w
  | [], es, k, b, h => by
    obtain rfl : es = [] := by simpa [ents] using h
    simp [Instr.findAsking]
  | y :: xs, [], k, b, h => by simp [ents] at h
  | y :: xs, e :: es, k, b, h => by
    rw [ents_cons, List.map_cons, List.cons.injEq] at h
    obtain ⟨h1, h2⟩ := h
    have e1 : e.key = en y := congrArg Prod.fst h1
    have e2 : e.val = .int .u64 (b : Int) := congrArg Prod.snd h1
    have ih := run_findAsking_ord hk x w xs es (k + 1) (b + 1) h2
    have hq := hk.eql x y w
    by_cases hxy : x = y
    · subst hxy
      simp [Instr.findAsking, e1, hq, e2]
    · have hne : ¬ y = x := fun e => hxy e.symm
      simp only [Instr.findAsking, Sem.run_bind, e1, hq, Result.andThen_ok, hxy, decide_false, Bool.false_eq_true, if_false, ih, List.mem_cons, false_or]
      by_cases hm : x ∈ xs
      · have hi : (y :: xs).idxOf x = xs.idxOf x + 1 := by rw [List.idxOf_cons, beq_eq_false_iff_ne.2 hne]; rfl
        simp only [hm, if_true, hi, Result.ok.injEq, Option.some.injEq, Prod.mk.injEq, Value.int.injEq, true_and, and_true]
        omega
      · simp [hm]
theorem run_findKey_ord (hk : Keyed P mt kt vt en) (x : α) (w : World) (xs : List α) (es : List MapEntry) (h : es.map kv = ents en xs 1) :
    (Instr.findKey kt (en x) es).run P w = .ok (if x ∈ xs then some (xs.idxOf x, .int .u64 ((ord x xs : Nat) : Int)) else none) w := by
  rw [run_findKey_eq (P := P) (w := w) hk.wide, run_findAsking_ord hk x w xs es 0 1 h]
  unfold ord
  simp [Nat.add_comm]

/-- what a lookup says -/
def look (x : α) (xs : List α) : Int := if x ∈ xs then (ord x xs : Int) else 0
theorem run_lookup_ord (hk : Keyed P mt kt vt en) {W : World} {g : Nat} {xs : List α} {m : Option Nat} (h : MIs W g en xs m) (x : α) (W' : World) (hW : ∀ r, m = some r → W'.heap[r]? = W.heap[r]?) :
    (Instr.lookup mt (.map m) (en x) true).run P W' = .ok (.tuple #[.int .u64 (look x xs), .bool (decide (x ∈ xs))]) W' := by
  unfold Instr.lookup look
  simp only [Sem.run_bind, run_underlying hk.map, Result.andThen_ok]
  cases m with
  | none =>
    obtain rfl := h.1 rfl
    have hf := run_findKey_ord hk x W' [] [] rfl
    simp [Sem.run_bind, hk.chk, hf, hk.zero]
  | some r =>
    obtain ⟨_, es, ck, hb, hok⟩ := h.2 r rfl
    have hget : (getObj r).run P W' = .ok (.map es ck) W' := by simp [getObj, Sem.run, (hW r rfl).trans hb]
    have hf := run_findKey_ord hk x W' xs es.toList hok
    by_cases hm : x ∈ xs
    · simp [Sem.run_bind, hget, hk.chk, hf, hm]
    · simp [Sem.run_bind, hget, hk.chk, hf, hm, hk.zero]
theorem run_lookup_hit (hk : Keyed P mt kt vt en) {W : World} {g : Nat} {xs : List α} {m : Option Nat} (h : MIs W g en xs m) (x : α) (hx : x ∈ xs) (W' : World) (hW : ∀ r, m = some r → W'.heap[r]? = W.heap[r]?) :
    (Instr.lookup mt (.map m) (en x) true).run P W' = .ok (.tuple #[.int .u64 (ord x xs : Int), .bool true]) W' := by
  rw [run_lookup_ord hk h x W' hW, look, if_pos hx, decide_eq_true hx]
theorem run_lookup_miss (hk : Keyed P mt kt vt en) {W : World} {g : Nat} {xs : List α} {m : Option Nat} (h : MIs W g en xs m) (x : α) (hx : x ∉ xs) (W' : World) (hW : ∀ r, m = some r → W'.heap[r]? = W.heap[r]?) :
    (Instr.lookup mt (.map m) (en x) true).run P W' = .ok (.tuple #[.int .u64 0, .bool false]) W' := by
  rw [run_lookup_ord hk h x W' hW, look, if_neg hx, decide_eq_false hx]
/-- A new key is laid in: it is the last one. -/
theorem run_update_ord (hk : Keyed P mt kt vt en) {W : World} {g : Nat} {xs : List α} {r : Nat} (h : MIs W g en xs (some r)) (x : α) (hx : x ∉ xs) :
    ∃ W', (Instr.mapUpdate mt (.map (some r)) (en x) (.int .u64 ((xs.length + 1 : Nat) : Int))).run P W = .ok () W' ∧ MIs W' g en (also x xs) (some r) ∧ W.grownBy W' (some r) := by
  obtain ⟨hg, es, ck, hb, hok⟩ := h.2 r rfl
  have hlt : r < W.heap.size := (Array.getElem?_eq_some_iff.1 hb).1
  have hget : (getObj r).run P W = .ok (.map es ck) W := by simp [getObj, Sem.run, hb]
  have hset : ∀ o : Obj, (setObj r o).run P W = .ok () { W with heap := W.heap.setIfInBounds r o } := fun o => by simp [setObj, Sem.run, hb]
  have hf := run_findKey_ord hk x W xs es.toList hok
  refine ⟨{ W with heap := W.heap.setIfInBounds r (.map (es.push { key := en x, val := .int .u64 ((xs.length + 1 : Nat) : Int), born := ck }) (ck + 1)) }, ?_, ⟨(by simp), fun r' e => ?_⟩, ⟨rfl, rfl, rfl, by simp, fun k _ hne => ?_⟩⟩
  · unfold Instr.mapUpdate
    simp only [Sem.run_bind, run_underlying hk.map, Result.andThen_ok, hget, hk.chk, hf, if_neg hx]
    exact hset _
  · obtain rfl := Option.some.inj e
    refine ⟨hg, _, _, Array.getElem?_setIfInBounds_self_of_lt hlt, ?_⟩
    rw [also_new hx, ents_snoc, Array.toList_push, List.map_append, hok]
    simp [kv, Nat.add_comm]
  · exact Array.getElem?_setIfInBounds_ne (by intro e; exact hne (by rw [e]))
/-- how many they are -/
theorem run_len_ord (hk : Keyed P mt kt vt en) {W : World} {g : Nat} {xs : List α} {m : Option Nat} (h : MIs W g en xs m) (ty : TypeId) (W' : World) (hW : ∀ r, m = some r → W'.heap[r]? = W.heap[r]?) :
    (Builtin.len_ #[mt] ty #[.map m]).run P W' = .ok (.int .i64 (xs.length : Int)) W' := by
  cases m with
  | none =>
    obtain rfl := h.1 rfl
    simp [Builtin.len_, run_underlying hk.map, goInt]
  | some r =>
    obtain ⟨_, es, ck, hb, hok⟩ := h.2 r rfl
    have hget : (getObj r).run P W' = .ok (.map es ck) W' := by simp [getObj, Sem.run, (hW r rfl).trans hb]
    have hl : es.size = xs.length := by
      have := congrArg List.length hok
      simpa [ents_length] using this
    simp [Builtin.len_, run_underlying hk.map, goInt, hget, hl]
/-- An update with a new key, at a step of a region that draws. -/
theorem step_update_ord (hk : Keyed P mt kt vt en) {ops : Array Oper} {o : Oper} {a : Act} {W : World} {K : Act → World → Prop} {R : Exit → Act → World → Prop} {E : Prop} (hw : Region.wanted o (yielded ops a.tmps) = true) (m x v : Operand)
    (ho : o.op = .mapUpdate mt m x v) {g : Nat} {xs : List α} {r : Nat} (hm : MIs W g en xs (some r)) (z : α) (hz : z ∉ xs) (hem : a.eval m = .map (some r)) (hex : a.eval x = en z) (hev : a.eval v = .int .u64 ((xs.length + 1 : Nat) : Int))
    (h : ∀ W', MIs W' g en (also z xs) (some r) → W.grownBy W' (some r) → K (a.put o.dst undef) W') : if Region.wanted o (yielded ops a.tmps) = true then Oper.wp P o a W K R else E := by
  rw [if_pos hw]
  obtain ⟨W', hrun, h1, h2⟩ := run_update_ord hk hm z hz
  unfold Oper.wp execOp
  simp only [ho, hem, hex, hev, Sem.run_bind, hrun, Result.andThen_ok]
  exact h W' h1 h2
end

/- The keys of a book. -/
abbrev DK : Type := UInt8 × List UInt8
abbrev TK : Type := Int × Int × List UInt8
abbrev encD (x : DK) : Value := .agg #[.int .u8 (x.1.toNat : Int), .string ⟨x.2.toArray⟩]
abbrev encT (x : TK) : Value := .agg #[.int .i64 x.1, .int .i64 x.2.1, .string ⟨x.2.2.toArray⟩]
theorem str_beq (a b : List UInt8) : ((⟨a.toArray⟩ : ByteArray).toList == (⟨b.toArray⟩ : ByteArray).toList) = decide (a = b) := by
  rw [ByteArray.toList_eq, ByteArray.toList_eq, Bool.eq_iff_iff]
  simp
theorem run_checkKey_int {P : Program} {t : TypeId} {k : IntKind} (ht : P.underlying t = some (.int k)) (em : Bool) (n : Nat) (v : Int) (w : World) : (Instr.checkKey em (n + 1) t (.int k v)).run P w = .ok () w := by
  unfold Instr.checkKey
  simp [run_underlying ht]
theorem run_checkKey_str {P : Program} {t : TypeId} (ht : P.underlying t = some .string) (em : Bool) (n : Nat) (v : ByteArray) (w : World) : (Instr.checkKey em (n + 1) t (.string v)).run P w = .ok () w := by
  unfold Instr.checkKey
  simp [run_underlying ht]
theorem Try.plain_int : Try.prog.plainKey 3 = true := by kernel_rfl
theorem Try.plain_u8 : Try.prog.plainKey 5 = true := by kernel_rfl
theorem Try.plain_str : Try.prog.plainKey 9 = true := by kernel_rfl
theorem Try.eql_T (x y : TK) (w : World) : (Op.equal 158 (encT x) (encT y)).run Try.prog w = .ok (decide (x = y)) w := by
  obtain ⟨a, b, t⟩ := x
  obtain ⟨a', b', t'⟩ := y
  have hb := str_beq t t'
  have p0 : ∀ w, (part 3 #[.int .i64 a, .int .i64 b, .string ⟨t.toArray⟩] 0).run Try.prog w = .ok (.int .i64 a) w := fun w => run_part_plain w Try.plain_int rfl
  have p1 : ∀ w, (part 3 #[.int .i64 a, .int .i64 b, .string ⟨t.toArray⟩] 1).run Try.prog w = .ok (.int .i64 b) w := fun w => run_part_plain w Try.plain_int rfl
  have p2 : ∀ w, (part 9 #[.int .i64 a, .int .i64 b, .string ⟨t.toArray⟩] 2).run Try.prog w = .ok (.string ⟨t.toArray⟩) w := fun w => run_part_plain w Try.plain_str rfl
  have q0 : ∀ w, (part 3 #[.int .i64 a', .int .i64 b', .string ⟨t'.toArray⟩] 0).run Try.prog w = .ok (.int .i64 a') w := fun w => run_part_plain w Try.plain_int rfl
  have q1 : ∀ w, (part 3 #[.int .i64 a', .int .i64 b', .string ⟨t'.toArray⟩] 1).run Try.prog w = .ok (.int .i64 b') w := fun w => run_part_plain w Try.plain_int rfl
  have q2 : ∀ w, (part 9 #[.int .i64 a', .int .i64 b', .string ⟨t'.toArray⟩] 2).run Try.prog w = .ok (.string ⟨t'.toArray⟩) w := fun w => run_part_plain w Try.plain_str rfl
  have e0 : ∀ w, (Op.equalIn 9999 3 (.int .i64 a) (.int .i64 a')).run Try.prog w = .ok (decide (a = a')) w := fun w => by
    rw [show (9999 : Nat) = 9998 + 1 from rfl, run_equalIn_int w 9998 3 .i64 .i64 _ _ Try.underlying3, show (a == a') = decide (a = a') from by rw [Bool.eq_iff_iff]; simp]
  have e1 : ∀ w, (Op.equalIn 9999 3 (.int .i64 b) (.int .i64 b')).run Try.prog w = .ok (decide (b = b')) w := fun w => by
    rw [show (9999 : Nat) = 9998 + 1 from rfl, run_equalIn_int w 9998 3 .i64 .i64 _ _ Try.underlying3, show (b == b') = decide (b = b') from by rw [Bool.eq_iff_iff]; simp]
  have e2 : ∀ w, (Op.equalIn 9999 9 (.string ⟨t.toArray⟩) (.string ⟨t'.toArray⟩)).run Try.prog w = .ok (decide (t = t')) w := fun w => by
    rw [show (9999 : Nat) = 9998 + 1 from rfl, run_equalIn_string w 9998 9 _ _ Try.underlying9, hb]
  unfold Op.equal Op.maxDepth
  rw [show (10000 : Nat) = 9999 + 1 from rfl, run_equalIn_struct w 9999 158 _ _ (by kernel_rfl) (by kernel_rfl)]
  unfold Program.fieldsOf
  rw [Try.underlying158]
  generalize (9999 : Nat) = N at *
  simp only [Op.eqFields, Sem.run_bind, Sem.run_ite, p0, p1, p2, q0, q1, q2, e0, e1, e2, Result.andThen_ok]
  clear p0 p1 p2 q0 q1 q2 e0 e1 e2 hb
  by_cases h1 : a = a' <;> by_cases h2 : b = b' <;> by_cases h3 : t = t' <;> simp [h1, h2, h3]
theorem Try.chk_T (em : Bool) (x : TK) (w : World) : (Instr.checkKey em 10000 158 (encT x)).run Try.prog w = .ok () w := by
  obtain ⟨a, b, t⟩ := x
  have p0 : ∀ w, (part 3 #[.int .i64 a, .int .i64 b, .string ⟨t.toArray⟩] 0).run Try.prog w = .ok (.int .i64 a) w := fun w => run_part_plain w Try.plain_int rfl
  have c0 : ∀ w, (Instr.checkKey em 9999 3 (.int .i64 a)).run Try.prog w = .ok () w := fun w => run_checkKey_int Try.underlying3 em 9998 _ w
  have p1 : ∀ w, (part 3 #[.int .i64 a, .int .i64 b, .string ⟨t.toArray⟩] 1).run Try.prog w = .ok (.int .i64 b) w := fun w => run_part_plain w Try.plain_int rfl
  have c1 : ∀ w, (Instr.checkKey em 9999 3 (.int .i64 b)).run Try.prog w = .ok () w := fun w => run_checkKey_int Try.underlying3 em 9998 _ w
  have p2 : ∀ w, (part 9 #[.int .i64 a, .int .i64 b, .string ⟨t.toArray⟩] 2).run Try.prog w = .ok (.string ⟨t.toArray⟩) w := fun w => run_part_plain w Try.plain_str rfl
  have c2 : ∀ w, (Instr.checkKey em 9999 9 (.string ⟨t.toArray⟩)).run Try.prog w = .ok () w := fun w => run_checkKey_str Try.underlying9 em 9998 _ w
  rw [show (10000 : Nat) = 9999 + 1 from rfl, Instr.checkKey]
  generalize (9999 : Nat) = N at *
  simp only [Sem.run_bind, run_underlying Try.underlying158, Result.andThen_ok]
  simp [*]
theorem Try.keyedT : Keyed Try.prog 104 158 86 encT :=
  ⟨Try.underlying104, by rw [Try.underlying158], Try.eql_T, Try.chk_T, fun w => by kernel_rfl⟩
theorem Try.eql_D (x y : DK) (w : World) : (Op.equal 154 (encD x) (encD y)).run Try.prog w = .ok (decide (x = y)) w := by
  obtain ⟨a, t⟩ := x
  obtain ⟨a', t'⟩ := y
  have hb := str_beq t t'
  have p0 : ∀ w, (part 5 #[.int .u8 (a.toNat : Int), .string ⟨t.toArray⟩] 0).run Try.prog w = .ok (.int .u8 (a.toNat : Int)) w := fun w => run_part_plain w Try.plain_u8 rfl
  have p1 : ∀ w, (part 9 #[.int .u8 (a.toNat : Int), .string ⟨t.toArray⟩] 1).run Try.prog w = .ok (.string ⟨t.toArray⟩) w := fun w => run_part_plain w Try.plain_str rfl
  have q0 : ∀ w, (part 5 #[.int .u8 (a'.toNat : Int), .string ⟨t'.toArray⟩] 0).run Try.prog w = .ok (.int .u8 (a'.toNat : Int)) w := fun w => run_part_plain w Try.plain_u8 rfl
  have q1 : ∀ w, (part 9 #[.int .u8 (a'.toNat : Int), .string ⟨t'.toArray⟩] 1).run Try.prog w = .ok (.string ⟨t'.toArray⟩) w := fun w => run_part_plain w Try.plain_str rfl
  have e0 : ∀ w, (Op.equalIn 9999 5 (.int .u8 (a.toNat : Int)) (.int .u8 (a'.toNat : Int))).run Try.prog w = .ok (decide (a = a')) w := fun w => by
    rw [show (9999 : Nat) = 9998 + 1 from rfl, run_equalIn_int w 9998 5 .u8 .u8 _ _ Try.underlying5, show (((a.toNat : Int) == (a'.toNat : Int)) = decide (a = a')) from by
      rw [Bool.eq_iff_iff, beq_iff_eq, decide_eq_true_iff, ← UInt8.toNat_inj]
      omega]
  have e1 : ∀ w, (Op.equalIn 9999 9 (.string ⟨t.toArray⟩) (.string ⟨t'.toArray⟩)).run Try.prog w = .ok (decide (t = t')) w := fun w => by
    rw [show (9999 : Nat) = 9998 + 1 from rfl, run_equalIn_string w 9998 9 _ _ Try.underlying9, hb]
  unfold Op.equal Op.maxDepth
  rw [show (10000 : Nat) = 9999 + 1 from rfl, run_equalIn_struct w 9999 154 _ _ (by kernel_rfl) (by kernel_rfl)]
  unfold Program.fieldsOf
  rw [Try.underlying154]
  generalize (9999 : Nat) = N at *
  simp only [Op.eqFields, Sem.run_bind, Sem.run_ite, p0, p1, q0, q1, e0, e1, Result.andThen_ok]
  clear p0 p1 q0 q1 e0 e1 hb
  by_cases h1 : a = a' <;> by_cases h3 : t = t' <;> simp [h1, h3]
theorem Try.chk_D (em : Bool) (x : DK) (w : World) : (Instr.checkKey em 10000 154 (encD x)).run Try.prog w = .ok () w := by
  obtain ⟨a, t⟩ := x
  have p0 : ∀ w, (part 5 #[.int .u8 (a.toNat : Int), .string ⟨t.toArray⟩] 0).run Try.prog w = .ok (.int .u8 (a.toNat : Int)) w := fun w => run_part_plain w Try.plain_u8 rfl
  have c0 : ∀ w, (Instr.checkKey em 9999 5 (.int .u8 (a.toNat : Int))).run Try.prog w = .ok () w := fun w => run_checkKey_int Try.underlying5 em 9998 _ w
  have p1 : ∀ w, (part 9 #[.int .u8 (a.toNat : Int), .string ⟨t.toArray⟩] 1).run Try.prog w = .ok (.string ⟨t.toArray⟩) w := fun w => run_part_plain w Try.plain_str rfl
  have c1 : ∀ w, (Instr.checkKey em 9999 9 (.string ⟨t.toArray⟩)).run Try.prog w = .ok () w := fun w => run_checkKey_str Try.underlying9 em 9998 _ w
  rw [show (10000 : Nat) = 9999 + 1 from rfl, Instr.checkKey]
  generalize (9999 : Nat) = N at *
  simp only [Sem.run_bind, run_underlying Try.underlying154, Result.andThen_ok]
  simp [*]
theorem Try.keyedD : Keyed Try.prog 103 154 86 encD :=
  ⟨Try.underlying103, by rw [Try.underlying154], Try.eql_D, Try.chk_D, fun w => by kernel_rfl⟩

/-- Block g is a book that knows these, with these maps. -/
def BM (W : World) (g : Nat) (m1 m2 : Option Nat) (ds : List DK) (ts : List TK) : Prop :=
  Blk W g 106 [.map m1, .map m2] ∧ MIs W g encD ds m1 ∧ MIs W g encT ts m2 ∧ ∀ r, m1 = some r → m2 = some r → False
def BS (W : World) (g : Nat) (ds : List DK) (ts : List TK) : Prop := ∃ m1 m2, BM W g m1 m2 ds ts
theorem BM.through {W W' : World} {g : Nat} {m1 m2 : Option Nat} {ds : List DK} {ts : List TK} (h : BM W g m1 m2 ds ts) (hb : Below W.heap.size W W') : BM W' g m1 m2 ds ts :=
  ⟨h.1.through hb, h.2.1.through hb, h.2.2.1.through hb, h.2.2.2⟩
theorem BS.through {W W' : World} {g : Nat} {ds : List DK} {ts : List TK} (h : BS W g ds ts) (hb : Below W.heap.size W W') : BS W' g ds ts := by
  obtain ⟨m1, m2, h⟩ := h
  exact ⟨m1, m2, h.through hb⟩
theorem BS.lt {W : World} {g : Nat} {ds : List DK} {ts : List TK} (h : BS W g ds ts) : g < W.heap.size := by
  obtain ⟨m1, m2, h⟩ := h
  exact h.1.lt
theorem BS.drew {W : World} {g : Nat} {ds : List DK} {ts : List TK} (h : BS W g ds ts) : BS W.drew g ds ts := h
theorem BM.own1 {W : World} {g r : Nat} {m2 : Option Nat} {ds : List DK} {ts : List TK} (h : BM W g (some r) m2 ds ts) : Own W g r := ⟨_, _, _, 0, h.1, rfl⟩
theorem BM.own2 {W : World} {g r : Nat} {m1 : Option Nat} {ds : List DK} {ts : List TK} (h : BM W g m1 (some r) ds ts) : Own W g r := ⟨_, _, _, 1, h.1, rfl⟩
/-- Another block of the caller's is written. -/
theorem BS.grown {W W' : World} {g b : Nat} {ds : List DK} {ts : List TK} {t : TypeId} {cs : List Value} (h : BS W g ds ts) (hb : Blk W b t cs) (ho : W.grownBy W' (some b)) (hg : g ≠ b) : BS W' g ds ts := by
  obtain ⟨m1, m2, h1, h2, h3, h4⟩ := h
  refine ⟨m1, m2, h1.grown ho (fun e => hg (Option.some.inj e)), h2.keep fun r e => ho.block r (h2.lt r e) fun e' => ?_, h3.keep fun r e => ho.block r (h3.lt r e) fun e' => ?_, h4⟩
  · obtain rfl := Option.some.inj e'
    subst e
    obtain ⟨es, ck, hm⟩ := h2.at
    rw [show W.heap[_]? = _ from hb] at hm
    cases hm
  · obtain rfl := Option.some.inj e'
    subst e
    obtain ⟨es, ck, hm⟩ := h3.at
    rw [show W.heap[_]? = _ from hb] at hm
    cases hm
end

section
open Go.RowKit
theorem numB_splice (f : UInt8) (n : Nat) : splice ((vs zero32).set 0 (.int .u8 (f.toNat : Int))) 24 (vs (beB n 8)) = vs (numB f n) := by
  have h : splice ((vs zero32).set 0 (.int .u8 (f.toNat : Int))) 24 (vs (beB n 8)) = ((vs zero32).set 0 (.int .u8 (f.toNat : Int))).take 24 ++ (vs (beB n 8) ++ ((vs zero32).set 0 (.int .u8 (f.toNat : Int))).drop (24 + (vs (beB n 8)).length)) := by simp [splice]
  rw [h, vs_length, beB_length]
  simp [zero32, vs, numB, u8, List.replicate]

set_option maxHeartbeats 4000000 in
set_option maxRecDepth 100000 in
theorem numbered_any (f : UInt8) (n : Nat) (hn : n < 18446744073709551616) (w : World) :
    Calls Try.prog 120 #[.int .u8 (f.toNat : Int), .int .u64 (n : Int)] w fun e w' => e = .returned (.agg (vs (numB f n)).toArray) ∧ Below w.heap.size w w' := by
  have hput : ∀ W, Calls Try.prog 41 #[.slice none 0 0, .int .u64 (n : Int), .int .i64 8] W fun e w' => ∃ A' c', e = .returned (.slice A' 8 c') ∧ By w' (fun _ => True) A' 8 (beB n 8) ∧ Below W.heap.size W w' := fun W => by
    refine (put_any (fun _ => True) none 0 0 [] _ 8 (by omega) (by omega) W By.none_ (by omega) (by omega)).mono ?_
    rintro e w' ⟨v, rfl, ho, hb⟩
    have e1 : putN 0 8 = 8 := rfl
    have e2 : putB [] (n : Int).toNat 8 = beB n 8 := by rw [Int.toNat_natCast]; rfl
    rw [e1, e2] at ho
    obtain ⟨A', c', rfl, _⟩ := own_form ho
    exact ⟨A', c', rfl, (By.of_own ho).weak fun _ _ => trivial, hb⟩
  obtain ⟨r, hr⟩ : ∃ r, r = vs (numB f n) := ⟨_, rfl⟩
  have hrl : r.length = 32 := by rw [hr, vs_length, numB_length]
  have hro : r.toArray.all (·.oneCell') = true := by rw [hr]; exact one_u8
  obtain ⟨z, hz⟩ : ∃ z, z = (vs zero32).set 0 (.int .u8 (f.toNat : Int)) := ⟨_, rfl⟩
  have hzl : z.length = 32 := by rw [hz]; simp [vs_length, zero32]
  have hsp : splice z 24 (vs (beB n 8)) = r := by rw [hz, hr]; exact numB_splice f n
  have hsz : ∀ W : World, (sizeOf 5).run Try.prog W = .ok 1 W := fun W => by kernel_rfl
  have hbl : (vs (beB n 8)).length = 8 := by rw [vs_length, beB_length]
  have HPut := Lib.hid hput
  have HRl := Lib.hid hrl
  have HRo := Lib.hid hro
  have HZl := Lib.hid hzl
  have HSp := Lib.hid hsp
  have HBl := Lib.hid hbl
  rw [← hr]
  clear hput hr hrl hro hzl hsp hbl
  go_enter Try.func120, Try.ntmps120
  go_wp2_with (refine wpList_store_cell rfl 5 (.tmp 7) (.tmp 6) rfl (w.heap.size + 1) 0 rfl (.int .u8 (f.toNat : Int)) rfl rfl rfl hsz 72 (vs zero32) (Blk.fresh (by simp) (by kernel_rfl)) (by decide) ?_; intro w1 hb1 ho1; rw [← hz] at hb1; have HB1 := Lib.hid hb1; have HA1 : Hid (Blk w1 w.heap.size 72 (vs zero32)) := Lib.hid (((Blk.fresh rfl (by kernel_rfl)).alloc _).grown ho1 (fun e => absurd (Option.some.inj e) (by omega))); have HX1 : Hid (Below w.heap.size w w1) := Lib.hid ((((Below.refl _ w).alloc (Nat.le_refl _) _).alloc (by simp) _).grown ho1 (by simp only [World.size_alloc]; omega) (fun k hk => Option.some.inj hk ▸ Nat.le_succ _)); clear hb1 ho1)
  obtain ⟨b4, hb4⟩ : ∃ b4, b4 = w.heap.size := ⟨_, rfl⟩
  rw [← hb4] at HB1 HA1
  rw [← hb4]
  obtain ⟨b5, hb5⟩ : ∃ b5, b5 = b4 + 1 := ⟨_, rfl⟩
  rw [← hb5] at HB1
  rw [← hb5]
  have h45 : b4 ≠ b5 := by omega
  have hw4 : w.heap.size ≤ b4 := by omega
  have hw5 : w.heap.size ≤ b5 := by omega
  clear hb4 hb5 hz
  have hsl : ∀ W : World, (Instr.sliceAt 72 (.pointer (some ⟨b5, 0, none⟩)) (some (.int .i64 24)) none none).run Try.prog W = .ok (.slice (some ⟨b5, 24, none⟩) 8 8) W := fun W => by
    have h := run_sliceArr_l (P := Try.prog) W 72 5 32 b5 0 .i64 24 Try.underlying72 (by kernel_rfl) (by omega) (by omega)
    simpa using h
  try dsimp only [Act.put]
  refine wp_region_held_drew (S := fun _ => True) (by kernel_rfl) trivial (fun hHeld => ?_)
  change wpAnyH _ _ _ _ _ _ #[false, false, false, false] _ _
  refine wpAnyH_take (i := 0) (v := (.slice (some ⟨b5, 24, none⟩) 8 8)) rfl (by kernel_rfl) (by kernel_rfl) (by kernel_rfl) (fun _ _ _ h => h) (Or.inl ⟨by kernel_rfl, fun w hSw => ?_⟩) (by assumption) ?_
  · (try dsimp only at hSw); go_simp <;> (try rfl)
  change wpAnyH _ _ _ _ _ _ _ (Act.put _ (some (8 : Nat)) (.slice (some ⟨b5, 24, none⟩) 8 8)) _
  simp only [Act.put, List.setIfInBounds_toArray, List.set_cons_zero, List.set_cons_succ]
  refine wpAnyH_take (i := 1) (v := (.int .u64 (n : Int))) rfl (by kernel_rfl) (by kernel_rfl) (by kernel_rfl) (fun _ _ _ h => h) (Or.inl ⟨by kernel_rfl, fun w hSw => ?_⟩) (by assumption) ?_
  · (try dsimp only at hSw); go_simp <;> (try rfl)
  change wpAnyH _ _ _ _ _ _ _ (Act.put _ (some (9 : Nat)) (.int .u64 (n : Int))) _
  simp only [Act.put, List.setIfInBounds_toArray, List.set_cons_zero, List.set_cons_succ]
  refine wpAnyH_ready (rs := [2]) (by kernel_rfl) (by simp) ?_
  refine AllReadyH.cons rfl (fun K hK => ?_) AllReadyH.nil
  go_simp
  refine (HPut.out _).mono ?_
  rintro e wa ⟨Aa, ca, rfl, hya, hb⟩; have HXa := Lib.hid (HX1.out.drew.trans (hb.mono HX1.out.size)); have HBa := Lib.hid (HB1.out.drew.through hb); have HAa := Lib.hid (HA1.out.drew.through hb); have HYa := Lib.hid hya; clear hb hya
  go_wp2_with fail
  refine hK.out _ _ trivial (fun hHeld1 => ?_)
  clear hHeld hK K
  have hHeld := hHeld1
  clear hHeld1
  refine wpAnyH_ready (rs := [3]) (by kernel_rfl) (by simp) ?_
  refine AllReadyH.cons (o := ⟨some 11, .call { callee := .builtin .copy, args := #[.tmp 8, .tmp 10], argTypes := #[40, 40] }, _, _, _, none⟩) rfl (fun K hK => ?_) AllReadyH.nil
  refine step_copy_blk rfl (.tmp 8) (.tmp 10) 40 40 rfl 5 Try.underlying40 (by kernel_rfl) b5 24 8 8 Aa 8 ca (by simp [Act.eval]) (by simp [Act.eval]) z 72 HBa.out (vs (beB n 8)) 8 HBl.out (by decide) (by omega) (HYa.out.srcAll (by rw [HBl.out]; omega)) (by rw [HZl.out]; omega) vs_one ?_; intro wb hbb hob; rw [HSp.out] at hbb; have HBb := Lib.hid hbb; have HAb := Lib.hid (HAa.out.grown hob (fun e => h45 (Option.some.inj e))); have HXb := Lib.hid (HXa.out.grown hob HXa.out.size (fun k hk => Option.some.inj hk ▸ hw5)); clear hbb hob
  refine hK.out _ _ trivial (fun hHeld1 => ?_)
  clear hHeld hK K
  have hHeld := hHeld1
  clear hHeld1
  change wpAnyH _ _ _ _ _ _ _ (Act.put _ (some (11 : Nat)) (.int .i64 8)) _
  simp only [Act.put, List.setIfInBounds_toArray, List.set_cons_zero, List.set_cons_succ]
  refine wpAnyH_done (by kernel_rfl) ?_ _
  go_wp2_with (first | (refine wpList_load_blk rfl 72 (.tmp 5) rfl b5 rfl 72 r _ HBb.out Try.underlying72 rfl (by rw [HRl.out]; kernel_rfl) ?_) | (refine wpList_store_row rfl 72 (.tmp 4) (.tmp 12) rfl b4 r.toArray rfl rfl 72 (vs zero32).toArray HAb.out (by rw [List.size_toArray, HRl.out]; kernel_rfl) (by rw [List.size_toArray, List.size_toArray, HRl.out]; rfl) HRo.out ?_))
  refine bodyPost_ret (v := .agg r.toArray) (results_cell_row rfl _ _ b4 72 _ (0, 0) _ rfl (HAb.out.row _) Try.underlying72 rfl ?r1) rfl ⟨rfl, below_row HXb.out _ hw4 _⟩
  rw [List.size_toArray, HRl.out]; kernel_rfl
end

section
open Go.RowKit
theorem Try.make_mapT (w : World) : (Instr.makeMap 104 none).run Try.prog w = .ok (.map (some w.heap.size)) (w.alloc (.map #[] 0)) := by kernel_rfl
theorem Try.agg_mapT (w : World) : (isAgg 104).run Try.prog w = .ok false w := by kernel_rfl
theorem Try.size_mapT (w : World) : (sizeOf 104).run Try.prog w = .ok 1 w := by kernel_rfl
theorem boxT (x : TK) : ∃ kcs : List Value, encT x = .agg kcs.toArray ∧ kcs.length = 3 := ⟨_, rfl, rfl⟩

theorem blk_ne_mapT {W : World} {k r : Nat} {t : TypeId} {cs : List Value} (h : Blk W k t cs) (hm : ∃ es ck, W.heap[r]? = some (.map es ck)) : some k ≠ some r := fun e => by
  have e := Option.some.inj e
  subst e
  obtain ⟨es, ck, hm⟩ := hm
  unfold Blk at h
  rw [hm] at h
  cases h
theorem freshT {w wz : World} {g : Nat} {kcs : List Value} {m1 : Option Nat} {ts : List TK} {ds : List DK} (hnil : ts = []) (hb : Blk w g 106 [.map m1, .map none]) (ho : MIs w g encD ds m1)
    (hbz : Blk wz g 106 ([.map m1, .map none].set 1 (.map (some (w.heap.size + 1))))) (hgz : ((w.alloc (.cells kcs.toArray 158)).drew.alloc (.map #[] 0)).grownBy wz (some g)) :
    Blk wz g 106 [.map m1, .map (some (w.heap.size + 1))] ∧ Blk wz w.heap.size 158 kcs ∧ MIs wz g encT ts (some (w.heap.size + 1)) ∧ MIs wz g encD ds m1 ∧ KF g w wz ∧ (∀ k, m1 = some k → k ≠ w.heap.size + 1) ∧
    wz.cell? ⟨g, 1, none⟩ = some (.map (some (w.heap.size + 1))) ∧ ∀ ty, (Builtin.len_ #[104] ty #[.map (some (w.heap.size + 1))]).run Try.prog wz = .ok (.int .i64 0) wz := by
  have hg := hb.lt
  have hsz : (w.alloc (.cells kcs.toArray 158)).drew.heap.size = w.heap.size + 1 := by simp
  have hsz2 : ((w.alloc (.cells kcs.toArray 158)).drew.alloc (.map #[] 0)).heap.size = w.heap.size + 1 + 1 := by simp
  have hx : Below w.heap.size w (w.alloc (.cells kcs.toArray 158)).drew := ((Below.refl _ w).alloc (Nat.le_refl _) _).drew
  have hB : Blk wz g 106 [.map m1, .map (some (w.heap.size + 1))] := hbz
  have hM : MIs wz g encT ts (some (w.heap.size + 1)) := by
    subst hnil
    refine ⟨(fun e => by cases e), fun r hr => ?_⟩
    obtain rfl := Option.some.inj hr
    refine ⟨by omega, #[], 0, ?_, rfl⟩
    rw [hgz.block (w.heap.size + 1) (by omega) (fun e => by have := Option.some.inj e; omega), ← hsz]
    exact heap_alloc_new _ _
  have ho1 : MIs ((w.alloc (.cells kcs.toArray 158)).drew.alloc (.map #[] 0)) g encD ds m1 := (ho.through hx).through ((Below.refl _ _).alloc (Nat.le_refl _) _)
  refine ⟨hB, ?_, hM, ?_, ?_, fun k e => ?_, hB.cellAt rfl, fun ty => ?_⟩
  · exact ((Blk.drew (Blk.fresh rfl rfl)).alloc _).grown hgz (fun e => by have := Option.some.inj e; omega)
  · exact ho1.keep fun k e => hgz.block k (ho1.lt k e) (fun e' => by
      have := Option.some.inj e'
      have := (ho.2 k e).1
      omega)
  · exact (KF.of_below hg hx).trans (KF.newMap (Blk.drew (hb.alloc _)) (by rw [hsz]; exact hbz) hgz)
  · have := ho.lt k e
    omega
  · have h := run_len_ord Try.keyedT hM ty wz (fun _ _ => rfl)
    rw [hnil] at h
    exact h

set_option maxHeartbeats 4000000 in
set_option maxRecDepth 100000 in
theorem ordT_hit (g : Nat) (m1 m2 : Option Nat) (ds : List DK) (ts : List TK) (x : TK) (hx : x ∈ ts) (w : World) (h : BM w g m1 m2 ds ts) :
    Calls Try.prog 122 #[.pointer (some ⟨g, 1, none⟩), encT x] w fun e w' => e = .returned (.int .u64 (ord x ts : Int)) ∧ Below w.heap.size w w' := by
  obtain ⟨kcs, hkv, hkl⟩ := boxT x
  have hb := h.1
  have hml := fun r e => (h.2.2.1).lt r e
  obtain ⟨o, ho⟩ : ∃ o : Int, o = (ord x ts : Int) := ⟨_, rfl⟩
  have hlk : ∀ W', (∀ r, m2 = some r → W'.heap[r]? = w.heap[r]?) → (Instr.lookup 104 (.map m2) (.agg kcs.toArray) true).run Try.prog W' = .ok (.tuple #[.int .u64 o, .bool true]) W' := fun W' hW => by
    have h1 := run_lookup_hit Try.keyedT h.2.2.1 x hx W' hW
    rw [hkv, ← ho] at h1
    exact h1
  have HB0 := Lib.hid hb
  have HMl := Lib.hid hml
  have HKl := Lib.hid hkl
  have HLk := Lib.hid hlk
  rw [← ho, hkv]
  clear h hb hml hkv hkl ho hlk hx
  go_enter Try.func122, Try.ntmps122
  go_wp2
  try dsimp only [Act.put]
  refine wp_region_held_drew (S := fun W => Blk W g 106 [.map m1, .map m2] ∧ Blk W w.heap.size 158 kcs ∧ (∀ r, m2 = some r → W.heap[r]? = w.heap[r]?)) (by kernel_rfl) ⟨(HB0.out.alloc _).drew, Blk.drew (Blk.fresh rfl rfl), fun r e => Below.heap_alloc w _ r (HMl.out r e)⟩ (fun hHeld => ?_)
  change wpAnyH _ _ _ _ _ _ #[false, false, false, false, false, false, false, false, false, false] _ _
  refine wpAnyH_take (i := 0) (v := (.pointer (some ⟨g, 1, none⟩))) rfl (by kernel_rfl) (by kernel_rfl) (by kernel_rfl) (fun _ _ _ h => h) (Or.inl ⟨by kernel_rfl, fun w hSw => ?_⟩) (by assumption) ?_
  · (try dsimp only at hSw); go_simp <;> (try rfl)
  change wpAnyH _ _ _ _ _ _ _ (Act.put _ (some (9 : Nat)) (.pointer (some ⟨g, 1, none⟩))) _
  simp only [Act.put, List.setIfInBounds_toArray, List.set_cons_zero, List.set_cons_succ]
  refine wpAnyH_take (i := 1) (v := (.pointer (some ⟨g, 1, none⟩))) rfl (by kernel_rfl) (by kernel_rfl) (by kernel_rfl) (fun _ _ _ h => h) (Or.inl ⟨by kernel_rfl, fun w hSw => ?_⟩) (by assumption) ?_
  · (try dsimp only at hSw); go_simp <;> (try rfl)
  change wpAnyH _ _ _ _ _ _ _ (Act.put _ (some (10 : Nat)) (.pointer (some ⟨g, 1, none⟩))) _
  simp only [Act.put, List.setIfInBounds_toArray, List.set_cons_zero, List.set_cons_succ]
  refine wpAnyH_take (i := 2) (v := (.map m2)) rfl (by kernel_rfl) (by kernel_rfl) (by kernel_rfl) (fun _ _ _ h => h) (yields_load_at (by kernel_rfl) 104 (.tmp 10) rfl (.pointer (some ⟨g, 1, none⟩)) (by simp [Act.eval]) (.map m2) (fun W hW => load_one' (Try.agg_mapT W) (hW.1.cellAt rfl))) (by assumption) ?_
  change wpAnyH _ _ _ _ _ _ _ (Act.put _ (some (11 : Nat)) (.map m2)) _
  simp only [Act.put, List.setIfInBounds_toArray, List.set_cons_zero, List.set_cons_succ]
  refine wpAnyH_take (i := 3) (v := (.agg kcs.toArray)) rfl (by kernel_rfl) (by kernel_rfl) (by kernel_rfl) (fun _ _ _ h => h) (yields_load_at (by kernel_rfl) 158 (.tmp 3) rfl (.pointer (some ⟨w.heap.size, 0, none⟩)) (by simp [Act.eval]) (.agg kcs.toArray) (fun W hW => hW.2.1.loadAt 158 _ Try.underlying158 rfl (by rw [HKl.out]; kernel_rfl))) (by assumption) ?_
  change wpAnyH _ _ _ _ _ _ _ (Act.put _ (some (12 : Nat)) (.agg kcs.toArray)) _
  simp only [Act.put, List.setIfInBounds_toArray, List.set_cons_zero, List.set_cons_succ]
  refine wpAnyH_take (i := 4) (v := (.tuple #[.int .u64 o, .bool true])) rfl (by kernel_rfl) (by kernel_rfl) (by kernel_rfl) (fun _ _ _ h => h) (yields_lookup (by kernel_rfl) 104 (.tmp 11) (.tmp 12) rfl (.map m2) (.agg kcs.toArray) (by simp [Act.eval]) (by simp [Act.eval]) (.tuple #[.int .u64 o, .bool true]) (fun W hW => HLk.out W hW.2.2)) (by assumption) ?_
  change wpAnyH _ _ _ _ _ _ _ (Act.put _ (some (13 : Nat)) (.tuple #[.int .u64 o, .bool true])) _
  simp only [Act.put, List.setIfInBounds_toArray, List.set_cons_zero, List.set_cons_succ]
  refine wpAnyH_take (i := 5) (v := (.tuple #[.int .u64 o, .bool true])) rfl (by kernel_rfl) (by kernel_rfl) (by kernel_rfl) (fun _ _ _ h => h) (Or.inl ⟨by kernel_rfl, fun w hSw => ?_⟩) (by assumption) ?_
  · (try dsimp only at hSw); go_simp <;> (try rfl)
  change wpAnyH _ _ _ _ _ _ _ (Act.put _ (some (8 : Nat)) (.tuple #[.int .u64 o, .bool true])) _
  simp only [Act.put, List.setIfInBounds_toArray, List.set_cons_zero, List.set_cons_succ]
  refine wpAnyH_take (i := 6) (v := (.int .u64 o)) rfl (by kernel_rfl) (by kernel_rfl) (by kernel_rfl) (fun _ _ _ h => h) (Or.inl ⟨by kernel_rfl, fun w hSw => ?_⟩) (by assumption) ?_
  · (try dsimp only at hSw); go_simp <;> (try rfl)
  change wpAnyH _ _ _ _ _ _ _ (Act.put _ (some (14 : Nat)) (.int .u64 o)) _
  simp only [Act.put, List.setIfInBounds_toArray, List.set_cons_zero, List.set_cons_succ]
  refine wpAnyH_take (i := 7) (v := (.bool true)) rfl (by kernel_rfl) (by kernel_rfl) (by kernel_rfl) (fun _ _ _ h => h) (Or.inl ⟨by kernel_rfl, fun w hSw => ?_⟩) (by assumption) ?_
  · (try dsimp only at hSw); go_simp <;> (try rfl)
  change wpAnyH _ _ _ _ _ _ _ (Act.put _ (some (15 : Nat)) (.bool true)) _
  simp only [Act.put, List.setIfInBounds_toArray, List.set_cons_zero, List.set_cons_succ]
  refine wpAnyH_take (i := 8) (v := (.int .u64 o)) rfl (by kernel_rfl) (by kernel_rfl) (by kernel_rfl) (fun _ _ _ h => h) (Or.inl ⟨by kernel_rfl, fun w hSw => ?_⟩) (by assumption) ?_
  · (try dsimp only at hSw); go_simp <;> (try rfl)
  change wpAnyH _ _ _ _ _ _ _ (Act.put _ (some (5 : Nat)) (.int .u64 o)) _
  simp only [Act.put, List.setIfInBounds_toArray, List.set_cons_zero, List.set_cons_succ]
  refine wpAnyH_take (i := 9) (v := (.bool true)) rfl (by kernel_rfl) (by kernel_rfl) (by kernel_rfl) (fun _ _ _ h => h) (Or.inl ⟨by kernel_rfl, fun w hSw => ?_⟩) (by assumption) ?_
  · (try dsimp only at hSw); go_simp <;> (try rfl)
  change wpAnyH _ _ _ _ _ _ _ (Act.put _ (some (6 : Nat)) (.bool true)) _
  simp only [Act.put, List.setIfInBounds_toArray, List.set_cons_zero, List.set_cons_succ]
  refine wpAnyH_done (by kernel_rfl) ?_ _
  go_wp2
  go_ret
  exact ⟨rfl, (((Below.refl _ w).alloc (Nat.le_refl _) _).drew)⟩

set_option maxHeartbeats 4000000 in
set_option maxRecDepth 100000 in
theorem ordT_some (g : Nat) (m1 : Option Nat) (r : Nat) (ds : List DK) (ts : List TK) (x : TK) (hx : x ∉ ts) (w : World) (h : BM w g m1 (some r) ds ts) (hl : ts.length < 9223372036854775807) :
    Calls Try.prog 122 #[.pointer (some ⟨g, 1, none⟩), encT x] w fun e w' => e = .returned (.int .u64 (ord x (also x ts) : Int)) ∧ BS w' g ds (also x ts) ∧ KF g w w' := by
  obtain ⟨kcs, hkv, hkl⟩ := boxT x
  have hb := h.1
  have hml := fun r e => (h.2.2.1).lt r e
  have hom := h.2.1
  have hord : ((ord x (also x ts) : Nat) : Int) = ((ts.length + 1 : Nat) : Int) := by rw [ord_new hx]
  have hmi : MIs w g encT ts (some r) := h.2.2.1
  have hne : ∀ k, m1 = some k → k ≠ r := fun k e e' => by
    subst e'
    exact h.2.2.2 _ e rfl
  obtain ⟨L, hL⟩ : ∃ L : Int, L = (ts.length : Int) := ⟨_, rfl⟩
  have hL1 : L % 18446744073709551616 = L := by omega
  have hL2 : (L + 1) % 18446744073709551616 = L + 1 := by omega
  have hnum : L + 1 = ((ts.length + 1 : Nat) : Int) := by omega
  have hlk : ∀ W', (∀ r', some r = some r' → W'.heap[r']? = w.heap[r']?) → (Instr.lookup 104 (.map (some r)) (.agg kcs.toArray) true).run Try.prog W' = .ok (.tuple #[.int .u64 0, .bool false]) W' := fun W' hW => by
    have h1 := run_lookup_miss Try.keyedT hmi x hx W' hW
    rw [hkv] at h1
    exact h1
  have hq := fun (W : World) (m : Option Nat) => run_eql_map_nil (P := Try.prog) W 104 158 86 m Try.underlying104
  have hlen := fun (ty : TypeId) => run_len_ord Try.keyedT hmi ty (w.alloc (.cells kcs.toArray 158)).drew (fun r e => Below.heap_alloc w _ r (hmi.lt r e))
  rw [← hL] at hlen
  have c1 : w.cell? ⟨g, 1, none⟩ = some (.map (some r)) := hb.cellAt rfl
  have hg := hb.lt
  have HB0 := Lib.hid hb
  have HMl := Lib.hid hml
  have HKl := Lib.hid hkl
  have HKv := Lib.hid hkv
  have HLk := Lib.hid hlk
  have HMi := Lib.hid hmi
  have HOm := Lib.hid hom
  have HNx := Lib.hid hx
  have HNe := Lib.hid hne
  have HNum := Lib.hid hnum
  have HOrd := Lib.hid (hord.trans hnum.symm)
  rw [hkv]
  clear h hb hml hkv hkl hlk hx hmi hom hne hord hnum hL
  go_enter Try.func122, Try.ntmps122
  go_wp2
  try dsimp only [Act.put]
  refine wp_region_held_drew (S := fun W => Blk W g 106 [.map m1, .map (some r)] ∧ Blk W w.heap.size 158 kcs ∧ (∀ r1, some r = some r1 → W.heap[r1]? = w.heap[r1]?)) (by kernel_rfl) ⟨(HB0.out.alloc _).drew, Blk.drew (Blk.fresh rfl rfl), fun r e => Below.heap_alloc w _ r (HMl.out r e)⟩ (fun hHeld => ?_)
  change wpAnyH _ _ _ _ _ _ #[false, false, false, false, false, false, false, false, false, false] _ _
  refine wpAnyH_take (i := 0) (v := (.pointer (some ⟨g, 1, none⟩))) rfl (by kernel_rfl) (by kernel_rfl) (by kernel_rfl) (fun _ _ _ h => h) (Or.inl ⟨by kernel_rfl, fun w hSw => ?_⟩) (by assumption) ?_
  · (try dsimp only at hSw); go_simp <;> (try rfl)
  change wpAnyH _ _ _ _ _ _ _ (Act.put _ (some (9 : Nat)) (.pointer (some ⟨g, 1, none⟩))) _
  simp only [Act.put, List.setIfInBounds_toArray, List.set_cons_zero, List.set_cons_succ]
  refine wpAnyH_take (i := 1) (v := (.pointer (some ⟨g, 1, none⟩))) rfl (by kernel_rfl) (by kernel_rfl) (by kernel_rfl) (fun _ _ _ h => h) (Or.inl ⟨by kernel_rfl, fun w hSw => ?_⟩) (by assumption) ?_
  · (try dsimp only at hSw); go_simp <;> (try rfl)
  change wpAnyH _ _ _ _ _ _ _ (Act.put _ (some (10 : Nat)) (.pointer (some ⟨g, 1, none⟩))) _
  simp only [Act.put, List.setIfInBounds_toArray, List.set_cons_zero, List.set_cons_succ]
  refine wpAnyH_take (i := 2) (v := (.map (some r))) rfl (by kernel_rfl) (by kernel_rfl) (by kernel_rfl) (fun _ _ _ h => h) (yields_load_at (by kernel_rfl) 104 (.tmp 10) rfl (.pointer (some ⟨g, 1, none⟩)) (by simp [Act.eval]) (.map (some r)) (fun W hW => load_one' (Try.agg_mapT W) (hW.1.cellAt rfl))) (by assumption) ?_
  change wpAnyH _ _ _ _ _ _ _ (Act.put _ (some (11 : Nat)) (.map (some r))) _
  simp only [Act.put, List.setIfInBounds_toArray, List.set_cons_zero, List.set_cons_succ]
  refine wpAnyH_take (i := 3) (v := (.agg kcs.toArray)) rfl (by kernel_rfl) (by kernel_rfl) (by kernel_rfl) (fun _ _ _ h => h) (yields_load_at (by kernel_rfl) 158 (.tmp 3) rfl (.pointer (some ⟨w.heap.size, 0, none⟩)) (by simp [Act.eval]) (.agg kcs.toArray) (fun W hW => hW.2.1.loadAt 158 _ Try.underlying158 rfl (by rw [HKl.out]; kernel_rfl))) (by assumption) ?_
  change wpAnyH _ _ _ _ _ _ _ (Act.put _ (some (12 : Nat)) (.agg kcs.toArray)) _
  simp only [Act.put, List.setIfInBounds_toArray, List.set_cons_zero, List.set_cons_succ]
  refine wpAnyH_take (i := 4) (v := (.tuple #[.int .u64 0, .bool false])) rfl (by kernel_rfl) (by kernel_rfl) (by kernel_rfl) (fun _ _ _ h => h) (yields_lookup (by kernel_rfl) 104 (.tmp 11) (.tmp 12) rfl (.map (some r)) (.agg kcs.toArray) (by simp [Act.eval]) (by simp [Act.eval]) (.tuple #[.int .u64 0, .bool false]) (fun W hW => HLk.out W hW.2.2)) (by assumption) ?_
  change wpAnyH _ _ _ _ _ _ _ (Act.put _ (some (13 : Nat)) (.tuple #[.int .u64 0, .bool false])) _
  simp only [Act.put, List.setIfInBounds_toArray, List.set_cons_zero, List.set_cons_succ]
  refine wpAnyH_take (i := 5) (v := (.tuple #[.int .u64 0, .bool false])) rfl (by kernel_rfl) (by kernel_rfl) (by kernel_rfl) (fun _ _ _ h => h) (Or.inl ⟨by kernel_rfl, fun w hSw => ?_⟩) (by assumption) ?_
  · (try dsimp only at hSw); go_simp <;> (try rfl)
  change wpAnyH _ _ _ _ _ _ _ (Act.put _ (some (8 : Nat)) (.tuple #[.int .u64 0, .bool false])) _
  simp only [Act.put, List.setIfInBounds_toArray, List.set_cons_zero, List.set_cons_succ]
  refine wpAnyH_take (i := 6) (v := (.int .u64 0)) rfl (by kernel_rfl) (by kernel_rfl) (by kernel_rfl) (fun _ _ _ h => h) (Or.inl ⟨by kernel_rfl, fun w hSw => ?_⟩) (by assumption) ?_
  · (try dsimp only at hSw); go_simp <;> (try rfl)
  change wpAnyH _ _ _ _ _ _ _ (Act.put _ (some (14 : Nat)) (.int .u64 0)) _
  simp only [Act.put, List.setIfInBounds_toArray, List.set_cons_zero, List.set_cons_succ]
  refine wpAnyH_take (i := 7) (v := (.bool false)) rfl (by kernel_rfl) (by kernel_rfl) (by kernel_rfl) (fun _ _ _ h => h) (Or.inl ⟨by kernel_rfl, fun w hSw => ?_⟩) (by assumption) ?_
  · (try dsimp only at hSw); go_simp <;> (try rfl)
  change wpAnyH _ _ _ _ _ _ _ (Act.put _ (some (15 : Nat)) (.bool false)) _
  simp only [Act.put, List.setIfInBounds_toArray, List.set_cons_zero, List.set_cons_succ]
  refine wpAnyH_take (i := 8) (v := (.int .u64 0)) rfl (by kernel_rfl) (by kernel_rfl) (by kernel_rfl) (fun _ _ _ h => h) (Or.inl ⟨by kernel_rfl, fun w hSw => ?_⟩) (by assumption) ?_
  · (try dsimp only at hSw); go_simp <;> (try rfl)
  change wpAnyH _ _ _ _ _ _ _ (Act.put _ (some (5 : Nat)) (.int .u64 0)) _
  simp only [Act.put, List.setIfInBounds_toArray, List.set_cons_zero, List.set_cons_succ]
  refine wpAnyH_take (i := 9) (v := (.bool false)) rfl (by kernel_rfl) (by kernel_rfl) (by kernel_rfl) (fun _ _ _ h => h) (Or.inl ⟨by kernel_rfl, fun w hSw => ?_⟩) (by assumption) ?_
  · (try dsimp only at hSw); go_simp <;> (try rfl)
  change wpAnyH _ _ _ _ _ _ _ (Act.put _ (some (6 : Nat)) (.bool false)) _
  simp only [Act.put, List.setIfInBounds_toArray, List.set_cons_zero, List.set_cons_succ]
  refine wpAnyH_done (by kernel_rfl) ?_ _
  go_wp2
  obtain ⟨b3, hb3⟩ : ∃ b3, b3 = w.heap.size := ⟨_, rfl⟩
  have HB : Hid (Blk (w.alloc (.cells kcs.toArray 158)).drew g 106 [.map m1, .map (some r)]) := Lib.hid (HB0.out.alloc _).drew
  have H3 : Hid (Blk (w.alloc (.cells kcs.toArray 158)).drew b3 158 kcs) := Lib.hid (Blk.drew (Blk.fresh hb3 rfl))
  have HM : Hid (MIs (w.alloc (.cells kcs.toArray 158)).drew g encT ts (some r)) := Lib.hid ((HMi.out.through ((Below.refl _ w).alloc (Nat.le_refl _) _)).drew)
  have HO : Hid (MIs (w.alloc (.cells kcs.toArray 158)).drew g encD ds m1) := Lib.hid ((HOm.out.through ((Below.refl _ w).alloc (Nat.le_refl _) _)).drew)
  have HF : Hid (KF g w (w.alloc (.cells kcs.toArray 158)).drew) := Lib.hid ((KF.of_below hg ((Below.refl _ w).alloc (Nat.le_refl _) _)).drew)
  rw [← hb3]
  clear hb3 hlen c1
  generalize (w.alloc (.cells kcs.toArray 158)).drew = wz at *
  try dsimp only [Act.put]
  refine wp_region_held_drew (S := fun W => Blk W g 106 [.map m1, .map (some r)] ∧ Blk W b3 158 kcs) (by kernel_rfl) ⟨HB.out.drew, H3.out.drew⟩ (fun hHeld => ?_)
  change wpAnyH _ _ _ _ _ _ #[false, false, false, false, false, false] _ _
  refine wpAnyH_take (i := 0) (v := (.pointer (some ⟨g, 1, none⟩))) rfl (by kernel_rfl) (by kernel_rfl) (by kernel_rfl) (fun _ _ _ h => h) (Or.inl ⟨by kernel_rfl, fun w hSw => ?_⟩) (by assumption) ?_
  · (try dsimp only at hSw); go_simp <;> (try rfl)
  change wpAnyH _ _ _ _ _ _ _ (Act.put _ (some (31 : Nat)) (.pointer (some ⟨g, 1, none⟩))) _
  simp only [Act.put, List.setIfInBounds_toArray, List.set_cons_zero, List.set_cons_succ]
  refine wpAnyH_take (i := 1) (v := (.pointer (some ⟨g, 1, none⟩))) rfl (by kernel_rfl) (by kernel_rfl) (by kernel_rfl) (fun _ _ _ h => h) (Or.inl ⟨by kernel_rfl, fun w hSw => ?_⟩) (by assumption) ?_
  · (try dsimp only at hSw); go_simp <;> (try rfl)
  change wpAnyH _ _ _ _ _ _ _ (Act.put _ (some (32 : Nat)) (.pointer (some ⟨g, 1, none⟩))) _
  simp only [Act.put, List.setIfInBounds_toArray, List.set_cons_zero, List.set_cons_succ]
  refine wpAnyH_take (i := 2) (v := (.map (some r))) rfl (by kernel_rfl) (by kernel_rfl) (by kernel_rfl) (fun _ _ _ h => h) (yields_load_at (by kernel_rfl) 104 (.tmp 32) rfl (.pointer (some ⟨g, 1, none⟩)) (by simp [Act.eval]) (.map (some r)) (fun W hW => load_one' (Try.agg_mapT W) (hW.1.cellAt rfl))) (by assumption) ?_
  change wpAnyH _ _ _ _ _ _ _ (Act.put _ (some (33 : Nat)) (.map (some r))) _
  simp only [Act.put, List.setIfInBounds_toArray, List.set_cons_zero, List.set_cons_succ]
  refine wpAnyH_take (i := 3) (v := (.agg kcs.toArray)) rfl (by kernel_rfl) (by kernel_rfl) (by kernel_rfl) (fun _ _ _ h => h) (yields_load_at (by kernel_rfl) 158 (.tmp 3) rfl (.pointer (some ⟨b3, 0, none⟩)) (by simp [Act.eval]) (.agg kcs.toArray) (fun W hW => hW.2.loadAt 158 _ Try.underlying158 rfl (by rw [HKl.out]; kernel_rfl))) (by assumption) ?_
  change wpAnyH _ _ _ _ _ _ _ (Act.put _ (some (34 : Nat)) (.agg kcs.toArray)) _
  simp only [Act.put, List.setIfInBounds_toArray, List.set_cons_zero, List.set_cons_succ]
  refine wpAnyH_take (i := 4) (v := (.int .u64 (L + 1))) rfl (by kernel_rfl) (by kernel_rfl) (by kernel_rfl) (fun _ _ _ h => h) (Or.inl ⟨by kernel_rfl, fun w hSw => ?_⟩) (by assumption) ?_
  · (try dsimp only at hSw); go_simp <;> (try rfl)
  change wpAnyH _ _ _ _ _ _ _ (Act.put _ (some (35 : Nat)) (.int .u64 (L + 1))) _
  simp only [Act.put, List.setIfInBounds_toArray, List.set_cons_zero, List.set_cons_succ]
  refine wpAnyH_ready (rs := [5]) (by kernel_rfl) (by simp) ?_
  refine AllReadyH.cons (o := ⟨none, .mapUpdate 104 (.tmp 33) (.tmp 34) (.tmp 35), _, _, _, none⟩) rfl (fun K hK => ?_) AllReadyH.nil
  refine step_update_ord Try.keyedT (by kernel_rfl) (.tmp 33) (.tmp 34) (.tmp 35) rfl HM.out.drew x HNx.out (by simp [Act.eval]) (by simp [Act.eval, HKv.out]) (by simp [Act.eval, HNum.out]) ?_; intro wu hmu hgu; have HMu := Lib.hid hmu; have hmap := HM.out.at; have HBu := Lib.hid (HB.out.drew.grown hgu (blk_ne_mapT HB.out.drew hmap)); have H3u := Lib.hid (H3.out.drew.grown hgu (blk_ne_mapT H3.out.drew hmap)); have HOu := Lib.hid (HO.out.keep (fun k e => hgu.block k (HO.out.lt k e) (fun e' => HNe.out k e (Option.some.inj e')))); have HFu := Lib.hid (HF.out.drew.trans (KF.turn hgu (HM.out.2 r rfl).1 ⟨_, _, _, 1, HB.out.drew, rfl⟩ hmap)); clear hmu hgu hmap
  refine hK.out _ _ ⟨HBu.out, H3u.out⟩ (fun hHeld1 => ?_)
  clear hHeld hK K
  have hHeld := hHeld1
  clear hHeld1
  change wpAnyH _ _ _ _ _ _ _ (Act.put _ none undef) _
  simp only [Act.put]
  refine wpAnyH_done (by kernel_rfl) ?_ _
  go_wp2
  go_ret
  exact ⟨by rw [HOrd.out]; rfl, ⟨m1, some r, HBu.out, HOu.out, HMu.out, fun k e1 e2 => HNe.out k e1 (Option.some.inj e2).symm⟩, HFu.out⟩

set_option maxHeartbeats 4000000 in
set_option maxRecDepth 100000 in
theorem ordT_none (g : Nat) (m1 : Option Nat) (ds : List DK) (ts : List TK) (x : TK) (hx : x ∉ ts) (w : World) (h : BM w g m1 none ds ts) :
    Calls Try.prog 122 #[.pointer (some ⟨g, 1, none⟩), encT x] w fun e w' => e = .returned (.int .u64 (ord x (also x ts) : Int)) ∧ BS w' g ds (also x ts) ∧ KF g w w' := by
  obtain ⟨kcs, hkv, hkl⟩ := boxT x
  have hb := h.1
  have hml := fun r e => (h.2.2.1).lt r e
  have hom := h.2.1
  have hord : ((ord x (also x ts) : Nat) : Int) = ((ts.length + 1 : Nat) : Int) := by rw [ord_new hx]
  have hnil : ts = [] := (h.2.2.1).1 rfl
  have hmi : MIs w g encT ts none := h.2.2.1
  have hlk : ∀ W', (∀ r', (none : Option Nat) = some r' → W'.heap[r']? = w.heap[r']?) → (Instr.lookup 104 (.map none) (.agg kcs.toArray) true).run Try.prog W' = .ok (.tuple #[.int .u64 0, .bool false]) W' := fun W' hW => by
    have h1 := run_lookup_miss Try.keyedT hmi x hx W' hW
    rw [hkv] at h1
    exact h1
  have hq := fun (W : World) (m : Option Nat) => run_eql_map_nil (P := Try.prog) W 104 158 86 m Try.underlying104
  have hmk := Try.make_mapT
  have c1 : w.cell? ⟨g, 1, none⟩ = some (.map none) := hb.cellAt rfl
  have hg := hb.lt
  have hnum : (((ts.length + 1 : Nat)) : Int) = 1 := by rw [hnil]; rfl
  have HB0 := Lib.hid hb
  have HMl := Lib.hid hml
  have HKl := Lib.hid hkl
  have HKv := Lib.hid hkv
  have HLk := Lib.hid hlk
  have HOm := Lib.hid hom
  have HNx := Lib.hid hx
  have HNil := Lib.hid hnil
  have HNum := Lib.hid hnum
  have HOrd := Lib.hid (hord.trans hnum)
  rw [hkv]
  clear h hb hml hkv hkl hlk hx hmi hom hord hnil hnum
  go_enter Try.func122, Try.ntmps122
  go_wp2
  try dsimp only [Act.put]
  refine wp_region_held_drew (S := fun W => Blk W g 106 [.map m1, .map none] ∧ Blk W w.heap.size 158 kcs ∧ (∀ r, (none : Option Nat) = some r → W.heap[r]? = w.heap[r]?)) (by kernel_rfl) ⟨(HB0.out.alloc _).drew, Blk.drew (Blk.fresh rfl rfl), fun r e => Below.heap_alloc w _ r (HMl.out r e)⟩ (fun hHeld => ?_)
  change wpAnyH _ _ _ _ _ _ #[false, false, false, false, false, false, false, false, false, false] _ _
  refine wpAnyH_take (i := 0) (v := (.pointer (some ⟨g, 1, none⟩))) rfl (by kernel_rfl) (by kernel_rfl) (by kernel_rfl) (fun _ _ _ h => h) (Or.inl ⟨by kernel_rfl, fun w hSw => ?_⟩) (by assumption) ?_
  · (try dsimp only at hSw); go_simp <;> (try rfl)
  change wpAnyH _ _ _ _ _ _ _ (Act.put _ (some (9 : Nat)) (.pointer (some ⟨g, 1, none⟩))) _
  simp only [Act.put, List.setIfInBounds_toArray, List.set_cons_zero, List.set_cons_succ]
  refine wpAnyH_take (i := 1) (v := (.pointer (some ⟨g, 1, none⟩))) rfl (by kernel_rfl) (by kernel_rfl) (by kernel_rfl) (fun _ _ _ h => h) (Or.inl ⟨by kernel_rfl, fun w hSw => ?_⟩) (by assumption) ?_
  · (try dsimp only at hSw); go_simp <;> (try rfl)
  change wpAnyH _ _ _ _ _ _ _ (Act.put _ (some (10 : Nat)) (.pointer (some ⟨g, 1, none⟩))) _
  simp only [Act.put, List.setIfInBounds_toArray, List.set_cons_zero, List.set_cons_succ]
  refine wpAnyH_take (i := 2) (v := (.map none)) rfl (by kernel_rfl) (by kernel_rfl) (by kernel_rfl) (fun _ _ _ h => h) (yields_load_at (by kernel_rfl) 104 (.tmp 10) rfl (.pointer (some ⟨g, 1, none⟩)) (by simp [Act.eval]) (.map none) (fun W hW => load_one' (Try.agg_mapT W) (hW.1.cellAt rfl))) (by assumption) ?_
  change wpAnyH _ _ _ _ _ _ _ (Act.put _ (some (11 : Nat)) (.map none)) _
  simp only [Act.put, List.setIfInBounds_toArray, List.set_cons_zero, List.set_cons_succ]
  refine wpAnyH_take (i := 3) (v := (.agg kcs.toArray)) rfl (by kernel_rfl) (by kernel_rfl) (by kernel_rfl) (fun _ _ _ h => h) (yields_load_at (by kernel_rfl) 158 (.tmp 3) rfl (.pointer (some ⟨w.heap.size, 0, none⟩)) (by simp [Act.eval]) (.agg kcs.toArray) (fun W hW => hW.2.1.loadAt 158 _ Try.underlying158 rfl (by rw [HKl.out]; kernel_rfl))) (by assumption) ?_
  change wpAnyH _ _ _ _ _ _ _ (Act.put _ (some (12 : Nat)) (.agg kcs.toArray)) _
  simp only [Act.put, List.setIfInBounds_toArray, List.set_cons_zero, List.set_cons_succ]
  refine wpAnyH_take (i := 4) (v := (.tuple #[.int .u64 0, .bool false])) rfl (by kernel_rfl) (by kernel_rfl) (by kernel_rfl) (fun _ _ _ h => h) (yields_lookup (by kernel_rfl) 104 (.tmp 11) (.tmp 12) rfl (.map none) (.agg kcs.toArray) (by simp [Act.eval]) (by simp [Act.eval]) (.tuple #[.int .u64 0, .bool false]) (fun W hW => HLk.out W hW.2.2)) (by assumption) ?_
  change wpAnyH _ _ _ _ _ _ _ (Act.put _ (some (13 : Nat)) (.tuple #[.int .u64 0, .bool false])) _
  simp only [Act.put, List.setIfInBounds_toArray, List.set_cons_zero, List.set_cons_succ]
  refine wpAnyH_take (i := 5) (v := (.tuple #[.int .u64 0, .bool false])) rfl (by kernel_rfl) (by kernel_rfl) (by kernel_rfl) (fun _ _ _ h => h) (Or.inl ⟨by kernel_rfl, fun w hSw => ?_⟩) (by assumption) ?_
  · (try dsimp only at hSw); go_simp <;> (try rfl)
  change wpAnyH _ _ _ _ _ _ _ (Act.put _ (some (8 : Nat)) (.tuple #[.int .u64 0, .bool false])) _
  simp only [Act.put, List.setIfInBounds_toArray, List.set_cons_zero, List.set_cons_succ]
  refine wpAnyH_take (i := 6) (v := (.int .u64 0)) rfl (by kernel_rfl) (by kernel_rfl) (by kernel_rfl) (fun _ _ _ h => h) (Or.inl ⟨by kernel_rfl, fun w hSw => ?_⟩) (by assumption) ?_
  · (try dsimp only at hSw); go_simp <;> (try rfl)
  change wpAnyH _ _ _ _ _ _ _ (Act.put _ (some (14 : Nat)) (.int .u64 0)) _
  simp only [Act.put, List.setIfInBounds_toArray, List.set_cons_zero, List.set_cons_succ]
  refine wpAnyH_take (i := 7) (v := (.bool false)) rfl (by kernel_rfl) (by kernel_rfl) (by kernel_rfl) (fun _ _ _ h => h) (Or.inl ⟨by kernel_rfl, fun w hSw => ?_⟩) (by assumption) ?_
  · (try dsimp only at hSw); go_simp <;> (try rfl)
  change wpAnyH _ _ _ _ _ _ _ (Act.put _ (some (15 : Nat)) (.bool false)) _
  simp only [Act.put, List.setIfInBounds_toArray, List.set_cons_zero, List.set_cons_succ]
  refine wpAnyH_take (i := 8) (v := (.int .u64 0)) rfl (by kernel_rfl) (by kernel_rfl) (by kernel_rfl) (fun _ _ _ h => h) (Or.inl ⟨by kernel_rfl, fun w hSw => ?_⟩) (by assumption) ?_
  · (try dsimp only at hSw); go_simp <;> (try rfl)
  change wpAnyH _ _ _ _ _ _ _ (Act.put _ (some (5 : Nat)) (.int .u64 0)) _
  simp only [Act.put, List.setIfInBounds_toArray, List.set_cons_zero, List.set_cons_succ]
  refine wpAnyH_take (i := 9) (v := (.bool false)) rfl (by kernel_rfl) (by kernel_rfl) (by kernel_rfl) (fun _ _ _ h => h) (Or.inl ⟨by kernel_rfl, fun w hSw => ?_⟩) (by assumption) ?_
  · (try dsimp only at hSw); go_simp <;> (try rfl)
  change wpAnyH _ _ _ _ _ _ _ (Act.put _ (some (6 : Nat)) (.bool false)) _
  simp only [Act.put, List.setIfInBounds_toArray, List.set_cons_zero, List.set_cons_succ]
  refine wpAnyH_done (by kernel_rfl) ?_ _
  go_wp2_with (refine wpList_store_cell rfl 104 (.tmp 24) (.tmp 23) rfl g 1 rfl _ rfl rfl rfl Try.size_mapT 106 [.map m1, .map none] (Blk.alloc (Blk.drew (HB0.out.alloc _)) _) (by simp) ?_; intro wz hbz hgz; obtain ⟨hB, h3, hM, hO, hF, hN, c2, hlen⟩ := freshT HNil.out HB0.out HOm.out hbz hgz; clear hbz hgz)
  obtain ⟨b3, hb3⟩ : ∃ b3, b3 = w.heap.size := ⟨_, rfl⟩
  obtain ⟨r, hr⟩ : ∃ r, r = w.heap.size + 1 := ⟨_, rfl⟩
  rw [← hr] at hB hM hN
  rw [← hb3] at h3
  have HB := Lib.hid hB
  have H3 := Lib.hid h3
  have HM := Lib.hid hM
  have HO := Lib.hid hO
  have HF := Lib.hid hF
  have HNe := Lib.hid hN
  clear hB h3 hM hO hF hN c2 hlen
  rw [← hb3]
  clear hb3 hr
  try dsimp only [Act.put]
  refine wp_region_held_drew (S := fun W => Blk W g 106 [.map m1, .map (some r)] ∧ Blk W b3 158 kcs) (by kernel_rfl) ⟨HB.out.drew, H3.out.drew⟩ (fun hHeld => ?_)
  change wpAnyH _ _ _ _ _ _ #[false, false, false, false, false, false] _ _
  refine wpAnyH_take (i := 0) (v := (.pointer (some ⟨g, 1, none⟩))) rfl (by kernel_rfl) (by kernel_rfl) (by kernel_rfl) (fun _ _ _ h => h) (Or.inl ⟨by kernel_rfl, fun w hSw => ?_⟩) (by assumption) ?_
  · (try dsimp only at hSw); go_simp <;> (try rfl)
  change wpAnyH _ _ _ _ _ _ _ (Act.put _ (some (31 : Nat)) (.pointer (some ⟨g, 1, none⟩))) _
  simp only [Act.put, List.setIfInBounds_toArray, List.set_cons_zero, List.set_cons_succ]
  refine wpAnyH_take (i := 1) (v := (.pointer (some ⟨g, 1, none⟩))) rfl (by kernel_rfl) (by kernel_rfl) (by kernel_rfl) (fun _ _ _ h => h) (Or.inl ⟨by kernel_rfl, fun w hSw => ?_⟩) (by assumption) ?_
  · (try dsimp only at hSw); go_simp <;> (try rfl)
  change wpAnyH _ _ _ _ _ _ _ (Act.put _ (some (32 : Nat)) (.pointer (some ⟨g, 1, none⟩))) _
  simp only [Act.put, List.setIfInBounds_toArray, List.set_cons_zero, List.set_cons_succ]
  refine wpAnyH_take (i := 2) (v := (.map (some r))) rfl (by kernel_rfl) (by kernel_rfl) (by kernel_rfl) (fun _ _ _ h => h) (yields_load_at (by kernel_rfl) 104 (.tmp 32) rfl (.pointer (some ⟨g, 1, none⟩)) (by simp [Act.eval]) (.map (some r)) (fun W hW => load_one' (Try.agg_mapT W) (hW.1.cellAt rfl))) (by assumption) ?_
  change wpAnyH _ _ _ _ _ _ _ (Act.put _ (some (33 : Nat)) (.map (some r))) _
  simp only [Act.put, List.setIfInBounds_toArray, List.set_cons_zero, List.set_cons_succ]
  refine wpAnyH_take (i := 3) (v := (.agg kcs.toArray)) rfl (by kernel_rfl) (by kernel_rfl) (by kernel_rfl) (fun _ _ _ h => h) (yields_load_at (by kernel_rfl) 158 (.tmp 3) rfl (.pointer (some ⟨b3, 0, none⟩)) (by simp [Act.eval]) (.agg kcs.toArray) (fun W hW => hW.2.loadAt 158 _ Try.underlying158 rfl (by rw [HKl.out]; kernel_rfl))) (by assumption) ?_
  change wpAnyH _ _ _ _ _ _ _ (Act.put _ (some (34 : Nat)) (.agg kcs.toArray)) _
  simp only [Act.put, List.setIfInBounds_toArray, List.set_cons_zero, List.set_cons_succ]
  refine wpAnyH_take (i := 4) (v := (.int .u64 1)) rfl (by kernel_rfl) (by kernel_rfl) (by kernel_rfl) (fun _ _ _ h => h) (Or.inl ⟨by kernel_rfl, fun w hSw => ?_⟩) (by assumption) ?_
  · (try dsimp only at hSw); go_simp <;> (try rfl)
  change wpAnyH _ _ _ _ _ _ _ (Act.put _ (some (35 : Nat)) (.int .u64 1)) _
  simp only [Act.put, List.setIfInBounds_toArray, List.set_cons_zero, List.set_cons_succ]
  refine wpAnyH_ready (rs := [5]) (by kernel_rfl) (by simp) ?_
  refine AllReadyH.cons (o := ⟨none, .mapUpdate 104 (.tmp 33) (.tmp 34) (.tmp 35), _, _, _, none⟩) rfl (fun K hK => ?_) AllReadyH.nil
  refine step_update_ord Try.keyedT (by kernel_rfl) (.tmp 33) (.tmp 34) (.tmp 35) rfl HM.out.drew x HNx.out (by simp [Act.eval]) (by simp [Act.eval, HKv.out]) (by simp [Act.eval, HNum.out]) ?_; intro wu hmu hgu; have HMu := Lib.hid hmu; have hmap := HM.out.at; have HBu := Lib.hid (HB.out.drew.grown hgu (blk_ne_mapT HB.out.drew hmap)); have H3u := Lib.hid (H3.out.drew.grown hgu (blk_ne_mapT H3.out.drew hmap)); have HOu := Lib.hid (HO.out.keep (fun k e => hgu.block k (HO.out.lt k e) (fun e' => HNe.out k e (Option.some.inj e')))); have HFu := Lib.hid (HF.out.drew.trans (KF.turn hgu (HM.out.2 r rfl).1 ⟨_, _, _, 1, HB.out.drew, rfl⟩ hmap)); clear hmu hgu hmap
  refine hK.out _ _ ⟨HBu.out, H3u.out⟩ (fun hHeld1 => ?_)
  clear hHeld hK K
  have hHeld := hHeld1
  clear hHeld1
  change wpAnyH _ _ _ _ _ _ _ (Act.put _ none undef) _
  simp only [Act.put]
  refine wpAnyH_done (by kernel_rfl) ?_ _
  go_wp2
  go_ret
  exact ⟨by rw [HOrd.out]; rfl, ⟨m1, some r, HBu.out, HOu.out, HMu.out, fun k e1 e2 => HNe.out k e1 (Option.some.inj e2).symm⟩, HFu.out⟩

theorem ordT_any (g : Nat) (ds : List DK) (ts : List TK) (x : TK) (w : World) (h : BS w g ds ts) (hl : ts.length < 9223372036854775807) :
    Calls Try.prog 122 #[.pointer (some ⟨g, 1, none⟩), encT x] w fun e w' => e = .returned (.int .u64 (ord x (also x ts) : Int)) ∧ BS w' g ds (also x ts) ∧ KF g w w' := by
  obtain ⟨m1, m2, h⟩ := h
  by_cases hx : x ∈ ts
  · refine (ordT_hit g m1 m2 ds ts x hx w h).mono ?_
    rintro e w' ⟨rfl, hb⟩
    rw [also_mem hx]
    exact ⟨rfl, ⟨m1, m2, h.through hb⟩, KF.of_below h.1.lt hb⟩
  · cases m2 with
    | none => exact ordT_none g m1 ds ts x hx w h
    | some r => exact ordT_some g m1 r ds ts x hx w h hl
end

section
open Go.RowKit
theorem str_any (Q : Nat → Prop) {A : Option Addr} {n : Nat} (c : Nat) {t : List UInt8} {W : World} (h : By W Q A n t) : (convert 40 9 (.slice A n c)).run Try.prog W = .ok (.string ⟨t.toArray⟩) W :=
  run_string_by W 40 9 5 Try.underlying40 Try.underlying5 Try.underlying9 Q A n c t h
theorem Try.agg_u8 (w : World) : (isAgg 5).run Try.prog w = .ok false w := by kernel_rfl
theorem tag_eql (xs ys : List UInt8) (hx : xs.length = 32) (hy : ys.length = 32) (w : World) : (binOp .eql 73 (.agg (vs xs).toArray) (.agg (vs ys).toArray)).run Try.prog w = .ok (.bool (xs == ys)) w :=
  run_eql_bytes w 73 5 32 Try.underlying73 Try.underlying5 (by kernel_rfl) (by kernel_rfl) xs ys hx hy

set_option maxHeartbeats 4000000 in
set_option maxRecDepth 100000 in
theorem made_at (Q : Nat → Prop) (g : Nat) (a b : Int) (t : List UInt8) (A : Option Addr) (n c : Nat) (m1 m2 : Option Nat) (lv : Int) (bb : Bool) (w : World) (hb : Blk w g 106 [.map m1, .map m2]) (_hml : ∀ r, m2 = some r → r < w.heap.size) (hby : By w Q A n t)
    (hlk : ∀ W', (∀ r, m2 = some r → W'.heap[r]? = w.heap[r]?) → (Instr.lookup 104 (.map m2) (.agg #[.int .i64 a, .int .i64 b, .string ⟨t.toArray⟩]) true).run Try.prog W' = .ok (.tuple #[.int .u64 lv, .bool bb]) W') :
    Calls Try.prog 119 #[.pointer (some ⟨g, 0, none⟩), .int .i64 a, .int .i64 b, .slice A n c] w fun e w' => e = .returned (.tuple #[.int .u64 lv, .bool bb]) ∧ Below w.heap.size w w' := by
  have HB := Lib.hid hb
  have HBy := Lib.hid hby
  have HLk := Lib.hid hlk
  obtain ⟨s, hs⟩ : ∃ s : ByteArray, s = ⟨t.toArray⟩ := ⟨_, rfl⟩
  have hcv : ∀ W, By W Q A n t → (convert 40 9 (.slice A n c)).run Try.prog W = .ok (.string s) W := fun W h => by rw [hs]; exact str_any Q c h
  have HCv := Lib.hid hcv
  rw [← hs] at HLk
  clear hb hby hlk hs hcv
  go_enter Try.func119, Try.ntmps119
  go_wp2
  try dsimp only [Act.put]
  refine wp_region_held_drew (S := fun W => Blk W g 106 [.map m1, .map m2] ∧ By W Q A n t ∧ (∀ r, m2 = some r → W.heap[r]? = w.heap[r]?)) (by kernel_rfl) ⟨HB.out.drew, HBy.out.drew, fun _ _ => rfl⟩ (fun hHeld => ?_)
  change wpAnyH _ _ _ _ _ _ #[false, false, false, false, false, false, false, false, false, false, false, false, false, false, false] _ _
  refine wpAnyH_take (i := 0) (v := (.pointer (some ⟨g, 0, none⟩))) rfl (by kernel_rfl) (by kernel_rfl) (by kernel_rfl) (fun _ _ _ h => h) (Or.inl ⟨by kernel_rfl, fun w hSw => ?_⟩) (by assumption) ?_
  · (try dsimp only at hSw); go_simp <;> (try rfl)
  change wpAnyH _ _ _ _ _ _ _ (Act.put _ (some (15 : Nat)) (.pointer (some ⟨g, 0, none⟩))) _
  simp only [Act.put, List.setIfInBounds_toArray, List.set_cons_zero, List.set_cons_succ]
  refine wpAnyH_take (i := 1) (v := (.pointer (some ⟨g, 0, none⟩))) rfl (by kernel_rfl) (by kernel_rfl) (by kernel_rfl) (fun _ _ _ h => h) (Or.inl ⟨by kernel_rfl, fun w hSw => ?_⟩) (by assumption) ?_
  · (try dsimp only at hSw); go_simp <;> (try rfl)
  change wpAnyH _ _ _ _ _ _ _ (Act.put _ (some (16 : Nat)) (.pointer (some ⟨g, 0, none⟩))) _
  simp only [Act.put, List.setIfInBounds_toArray, List.set_cons_zero, List.set_cons_succ]
  refine wpAnyH_take (i := 2) (v := (.pointer (some ⟨g, 1, none⟩))) rfl (by kernel_rfl) (by kernel_rfl) (by kernel_rfl) (fun _ _ _ h => h) (Or.inl ⟨by kernel_rfl, fun w hSw => ?_⟩) (by assumption) ?_
  · (try dsimp only at hSw); go_simp <;> (try rfl)
  change wpAnyH _ _ _ _ _ _ _ (Act.put _ (some (17 : Nat)) (.pointer (some ⟨g, 1, none⟩))) _
  simp only [Act.put, List.setIfInBounds_toArray, List.set_cons_zero, List.set_cons_succ]
  refine wpAnyH_take (i := 3) (v := (.map m2)) rfl (by kernel_rfl) (by kernel_rfl) (by kernel_rfl) (fun _ _ _ h => h) (yields_load_at (by kernel_rfl) 104 (.tmp 17) rfl (.pointer (some ⟨g, 1, none⟩)) (by simp [Act.eval]) (.map m2) (fun W hW => load_one' (Try.agg_mapT W) (hW.1.cellAt rfl))) (by assumption) ?_
  change wpAnyH _ _ _ _ _ _ _ (Act.put _ (some (18 : Nat)) (.map m2)) _
  simp only [Act.put, List.setIfInBounds_toArray, List.set_cons_zero, List.set_cons_succ]
  refine wpAnyH_take (i := 4) (v := (.int .i64 a)) rfl (by kernel_rfl) (by kernel_rfl) (by kernel_rfl) (fun _ _ _ h => h) (Or.inl ⟨by kernel_rfl, fun w hSw => ?_⟩) (by assumption) ?_
  · (try dsimp only at hSw); go_simp <;> (try rfl)
  change wpAnyH _ _ _ _ _ _ _ (Act.put _ (some (19 : Nat)) (.int .i64 a)) _
  simp only [Act.put, List.setIfInBounds_toArray, List.set_cons_zero, List.set_cons_succ]
  refine wpAnyH_take (i := 5) (v := (.int .i64 b)) rfl (by kernel_rfl) (by kernel_rfl) (by kernel_rfl) (fun _ _ _ h => h) (Or.inl ⟨by kernel_rfl, fun w hSw => ?_⟩) (by assumption) ?_
  · (try dsimp only at hSw); go_simp <;> (try rfl)
  change wpAnyH _ _ _ _ _ _ _ (Act.put _ (some (20 : Nat)) (.int .i64 b)) _
  simp only [Act.put, List.setIfInBounds_toArray, List.set_cons_zero, List.set_cons_succ]
  refine wpAnyH_take (i := 6) (v := (.slice A n c)) rfl (by kernel_rfl) (by kernel_rfl) (by kernel_rfl) (fun _ _ _ h => h) (Or.inl ⟨by kernel_rfl, fun w hSw => ?_⟩) (by assumption) ?_
  · (try dsimp only at hSw); go_simp <;> (try rfl)
  change wpAnyH _ _ _ _ _ _ _ (Act.put _ (some (21 : Nat)) (.slice A n c)) _
  simp only [Act.put, List.setIfInBounds_toArray, List.set_cons_zero, List.set_cons_succ]
  refine wpAnyH_take (i := 7) (v := (.string s)) rfl (by kernel_rfl) (by kernel_rfl) (by kernel_rfl) (fun _ _ _ h => h) (yields_conv (by kernel_rfl) 40 9 (.tmp 21) rfl (.slice A n c) (by simp [Act.eval]) (.string s) (fun W hW => HCv.out W hW.2.1)) (by assumption) ?_
  change wpAnyH _ _ _ _ _ _ _ (Act.put _ (some (22 : Nat)) (.string s)) _
  simp only [Act.put, List.setIfInBounds_toArray, List.set_cons_zero, List.set_cons_succ]
  refine wpAnyH_take (i := 8) (v := (.agg #[.int .i64 a, .int .i64 b, .string s])) rfl (by kernel_rfl) (by kernel_rfl) (by kernel_rfl) (fun _ _ _ h => h) (Or.inl ⟨by kernel_rfl, fun w hSw => ?_⟩) (by assumption) ?_
  · (try dsimp only at hSw); go_simp <;> (try rfl)
  change wpAnyH _ _ _ _ _ _ _ (Act.put _ (some (23 : Nat)) (.agg #[.int .i64 a, .int .i64 b, .string s])) _
  simp only [Act.put, List.setIfInBounds_toArray, List.set_cons_zero, List.set_cons_succ]
  refine wpAnyH_take (i := 9) (v := (.tuple #[.int .u64 lv, .bool bb])) rfl (by kernel_rfl) (by kernel_rfl) (by kernel_rfl) (fun _ _ _ h => h) (yields_lookup (by kernel_rfl) 104 (.tmp 18) (.tmp 23) rfl (.map m2) (.agg #[.int .i64 a, .int .i64 b, .string s]) (by simp [Act.eval]) (by simp [Act.eval]) (.tuple #[.int .u64 lv, .bool bb]) (fun W hW => HLk.out W hW.2.2)) (by assumption) ?_
  change wpAnyH _ _ _ _ _ _ _ (Act.put _ (some (24 : Nat)) (.tuple #[.int .u64 lv, .bool bb])) _
  simp only [Act.put, List.setIfInBounds_toArray, List.set_cons_zero, List.set_cons_succ]
  refine wpAnyH_take (i := 10) (v := (.tuple #[.int .u64 lv, .bool bb])) rfl (by kernel_rfl) (by kernel_rfl) (by kernel_rfl) (fun _ _ _ h => h) (Or.inl ⟨by kernel_rfl, fun w hSw => ?_⟩) (by assumption) ?_
  · (try dsimp only at hSw); go_simp <;> (try rfl)
  change wpAnyH _ _ _ _ _ _ _ (Act.put _ (some (14 : Nat)) (.tuple #[.int .u64 lv, .bool bb])) _
  simp only [Act.put, List.setIfInBounds_toArray, List.set_cons_zero, List.set_cons_succ]
  refine wpAnyH_take (i := 11) (v := (.int .u64 lv)) rfl (by kernel_rfl) (by kernel_rfl) (by kernel_rfl) (fun _ _ _ h => h) (Or.inl ⟨by kernel_rfl, fun w hSw => ?_⟩) (by assumption) ?_
  · (try dsimp only at hSw); go_simp <;> (try rfl)
  change wpAnyH _ _ _ _ _ _ _ (Act.put _ (some (25 : Nat)) (.int .u64 lv)) _
  simp only [Act.put, List.setIfInBounds_toArray, List.set_cons_zero, List.set_cons_succ]
  refine wpAnyH_take (i := 12) (v := (.bool bb)) rfl (by kernel_rfl) (by kernel_rfl) (by kernel_rfl) (fun _ _ _ h => h) (Or.inl ⟨by kernel_rfl, fun w hSw => ?_⟩) (by assumption) ?_
  · (try dsimp only at hSw); go_simp <;> (try rfl)
  change wpAnyH _ _ _ _ _ _ _ (Act.put _ (some (26 : Nat)) (.bool bb)) _
  simp only [Act.put, List.setIfInBounds_toArray, List.set_cons_zero, List.set_cons_succ]
  refine wpAnyH_take (i := 13) (v := (.int .u64 lv)) rfl (by kernel_rfl) (by kernel_rfl) (by kernel_rfl) (fun _ _ _ h => h) (Or.inl ⟨by kernel_rfl, fun w hSw => ?_⟩) (by assumption) ?_
  · (try dsimp only at hSw); go_simp <;> (try rfl)
  change wpAnyH _ _ _ _ _ _ _ (Act.put _ (some (10 : Nat)) (.int .u64 lv)) _
  simp only [Act.put, List.setIfInBounds_toArray, List.set_cons_zero, List.set_cons_succ]
  refine wpAnyH_take (i := 14) (v := (.bool bb)) rfl (by kernel_rfl) (by kernel_rfl) (by kernel_rfl) (fun _ _ _ h => h) (Or.inl ⟨by kernel_rfl, fun w hSw => ?_⟩) (by assumption) ?_
  · (try dsimp only at hSw); go_simp <;> (try rfl)
  change wpAnyH _ _ _ _ _ _ _ (Act.put _ (some (11 : Nat)) (.bool bb)) _
  simp only [Act.put, List.setIfInBounds_toArray, List.set_cons_zero, List.set_cons_succ]
  refine wpAnyH_done (by kernel_rfl) ?_ _
  go_wp2
  go_ret2
  exact ⟨rfl, (Below.refl _ w).drew⟩

theorem made_hit (Q : Nat → Prop) (g : Nat) (ds : List DK) (ts : List TK) (a b : Int) (t : List UInt8) (A : Option Addr) (n c : Nat) (w : World) (h : BS w g ds ts) (hby : By w Q A n t) (hx : (a, b, t) ∈ ts) :
    Calls Try.prog 119 #[.pointer (some ⟨g, 0, none⟩), .int .i64 a, .int .i64 b, .slice A n c] w fun e w' => e = .returned (.tuple #[.int .u64 (ord (a, b, t) ts : Int), .bool true]) ∧ Below w.heap.size w w' := by
  obtain ⟨m1, m2, hb, h1, h2, h3⟩ := h
  exact made_at Q g a b t A n c m1 m2 _ _ w hb (fun r e => h2.lt r e) hby (fun W' hW => run_lookup_hit Try.keyedT h2 (a, b, t) hx W' hW)
theorem made_miss (Q : Nat → Prop) (g : Nat) (ds : List DK) (ts : List TK) (a b : Int) (t : List UInt8) (A : Option Addr) (n c : Nat) (w : World) (h : BS w g ds ts) (hby : By w Q A n t) (hx : (a, b, t) ∉ ts) :
    Calls Try.prog 119 #[.pointer (some ⟨g, 0, none⟩), .int .i64 a, .int .i64 b, .slice A n c] w fun e w' => e = .returned (.tuple #[.int .u64 0, .bool false]) ∧ Below w.heap.size w w' := by
  obtain ⟨m1, m2, hb, h1, h2, h3⟩ := h
  exact made_at Q g a b t A n c m1 m2 _ _ w hb (fun r e => h2.lt r e) hby (fun W' hW => run_lookup_miss Try.keyedT h2 (a, b, t) hx W' hW)
theorem made_nil (a b : Int) (A : Option Addr) (n c : Nat) (w : World) :
    Calls Try.prog 119 #[.pointer none, .int .i64 a, .int .i64 b, .slice A n c] w fun e w' => e = .returned (.tuple #[.int .u64 0, .bool false]) ∧ w = w' := by
  go_enter Try.func119, Try.ntmps119
  go_wp2
  go_ret2
  exact ⟨rfl, rfl⟩
end

section
open Go.RowKit
set_option maxHeartbeats 4000000 in
set_option maxRecDepth 100000 in
theorem btag_any (Q : Nat → Prop) (g : Nat) (ds : List DK) (ts : List TK) (a b : Int) (t : List UInt8) (A : Option Addr) (n c : Nat) (w : World) (h : BS w g ds ts) (hby : By w Q A n t) (hl : ts.length < 1000000000) :
    Calls Try.prog 118 #[.pointer (some ⟨g, 0, none⟩), .int .i64 a, .int .i64 b, .slice A n c] w fun e w' => e = .returned (.agg (vs (numB (255 : UInt8) (ord (a, b, t) (also (a, b, t) ts)))).toArray) ∧ BS w' g ds (also (a, b, t) ts) ∧ KF g w w' := by
  have hg := h.lt
  have HS := Lib.hid h
  obtain ⟨r, hr⟩ : ∃ r, r = vs (numB (255 : UInt8) (ord (a, b, t) (also (a, b, t) ts))) := ⟨_, rfl⟩
  have hrl : r.length = 32 := by rw [hr, vs_length, numB_length]
  have hro : r.toArray.all (·.oneCell') = true := by rw [hr]; exact one_u8
  obtain ⟨s, hs⟩ : ∃ s : ByteArray, s = ⟨t.toArray⟩ := ⟨_, rfl⟩
  have hcv : ∀ o, (convert 40 9 (.slice A n c)).run Try.prog (w.alloc o) = .ok (.string s) (w.alloc o) := fun o => by rw [hs]; exact str_any Q c (hby.alloc o)
  have hord : ∀ W, BS W g ds ts → Calls Try.prog 122 #[.pointer (some ⟨g, 1, none⟩), .agg #[.int .i64 a, .int .i64 b, .string s]] W fun e w' => e = .returned (.int .u64 (ord (a, b, t) (also (a, b, t) ts) : Int)) ∧ BS w' g ds (also (a, b, t) ts) ∧ KF g W w' := fun W h1 => by
    rw [hs]
    exact ordT_any g ds ts (a, b, t) W h1 (by omega)
  have hnb : ∀ W, Calls Try.prog 120 #[.int .u8 255, .int .u64 (ord (a, b, t) (also (a, b, t) ts) : Int)] W fun e w' => e = .returned (.agg r.toArray) ∧ Below W.heap.size W w' := fun W => by
    rw [hr]
    have h1 := ord_le (mem_also (a, b, t) ts)
    have h2 := also_length (a, b, t) ts
    exact numbered_any (255 : UInt8) _ (by omega) W
  generalize (ord (a, b, t) (also (a, b, t) ts) : Int) = o at hord hnb
  have HRl := Lib.hid hrl
  have HRo := Lib.hid hro
  have HOrd := Lib.hid hord
  have HNb := Lib.hid hnb
  rw [← hr]


  clear h hby hr hrl hro hs hord hnb
  go_enter Try.func118, Try.ntmps118
  go_wp2_with (refine wpList_store_blk rfl 158 (.tmp 9) (.tmp 17) rfl (w.heap.size + 1) [.int .i64 a, .int .i64 b, .string s] rfl rfl 158 [.int .i64 0, .int .i64 0, .string ⟨#[]⟩] (Blk.fresh (by simp) (by kernel_rfl)) (by kernel_rfl) rfl (by simp [Value.oneCell']) ?_; intro w1 hb1 ho1; have HB1 := Lib.hid hb1; have HA1 : Hid (Blk w1 w.heap.size 73 (vs zero32)) := Lib.hid (((Blk.fresh rfl (by kernel_rfl)).alloc _).grown ho1 (fun e => absurd (Option.some.inj e) (by omega))); have HL1 : Hid (Below w.heap.size w w1) := Lib.hid ((((Below.refl _ w).alloc (Nat.le_refl _) _).alloc (by simp) _).grown ho1 (by simp only [World.size_alloc]; omega) (fun k hk => Option.some.inj hk ▸ Nat.le_succ _)); clear hb1 ho1)
  have HX1 : Hid (KF g w w1) := Lib.hid (KF.of_below hg HL1.out)
  have HS1 : Hid (BS w1 g ds ts) := Lib.hid (HS.out.through HL1.out)
  obtain ⟨b6, hb6⟩ : ∃ b6, b6 = w.heap.size := ⟨_, rfl⟩
  obtain ⟨b7, hb7⟩ : ∃ b7, b7 = w.heap.size + 1 := ⟨_, rfl⟩
  have h6w : w.heap.size ≤ b6 := by omega
  have h67 : b6 ≠ b7 := by omega
  have h6g : g < b6 := by omega
  have h7g : g < b7 := by omega
  rw [← hb6] at HA1
  rw [← hb7] at HB1
  rw [← hb7, ← hb6]
  clear hb6 hb7
  try dsimp only [Act.put]
  refine wp_region_held_drew (S := fun W => Blk W b7 158 [.int .i64 a, .int .i64 b, .string s]) (by kernel_rfl) HB1.out.drew (fun hHeld => ?_)
  change wpAnyH _ _ _ _ _ _ #[false, false, false, false, false, false, false] _ _
  refine wpAnyH_take (i := 0) (v := (.pointer (some ⟨g, 0, none⟩))) rfl (by kernel_rfl) (by kernel_rfl) (by kernel_rfl) (fun _ _ _ h => h) (Or.inl ⟨by kernel_rfl, fun w hSw => ?_⟩) (by assumption) ?_
  · (try dsimp only at hSw); go_simp <;> (try rfl)
  change wpAnyH _ _ _ _ _ _ _ (Act.put _ (some (18 : Nat)) (.pointer (some ⟨g, 0, none⟩))) _
  simp only [Act.put, List.setIfInBounds_toArray, List.set_cons_zero, List.set_cons_succ]
  refine wpAnyH_take (i := 1) (v := (.pointer (some ⟨g, 0, none⟩))) rfl (by kernel_rfl) (by kernel_rfl) (by kernel_rfl) (fun _ _ _ h => h) (Or.inl ⟨by kernel_rfl, fun w hSw => ?_⟩) (by assumption) ?_
  · (try dsimp only at hSw); go_simp <;> (try rfl)
  change wpAnyH _ _ _ _ _ _ _ (Act.put _ (some (19 : Nat)) (.pointer (some ⟨g, 0, none⟩))) _
  simp only [Act.put, List.setIfInBounds_toArray, List.set_cons_zero, List.set_cons_succ]
  refine wpAnyH_take (i := 2) (v := (.pointer (some ⟨g, 1, none⟩))) rfl (by kernel_rfl) (by kernel_rfl) (by kernel_rfl) (fun _ _ _ h => h) (Or.inl ⟨by kernel_rfl, fun w hSw => ?_⟩) (by assumption) ?_
  · (try dsimp only at hSw); go_simp <;> (try rfl)
  change wpAnyH _ _ _ _ _ _ _ (Act.put _ (some (20 : Nat)) (.pointer (some ⟨g, 1, none⟩))) _
  simp only [Act.put, List.setIfInBounds_toArray, List.set_cons_zero, List.set_cons_succ]
  refine wpAnyH_take (i := 3) (v := (.agg #[.int .i64 a, .int .i64 b, .string s])) rfl (by kernel_rfl) (by kernel_rfl) (by kernel_rfl) (fun _ _ _ h => h) (yields_load_at (by kernel_rfl) 158 (.tmp 9) rfl (.pointer (some ⟨b7, 0, none⟩)) (by simp [Act.eval]) (.agg #[.int .i64 a, .int .i64 b, .string s]) (fun W hW => hW.loadAt 158 _ Try.underlying158 rfl (by kernel_rfl))) (by assumption) ?_
  change wpAnyH _ _ _ _ _ _ _ (Act.put _ (some (21 : Nat)) (.agg #[.int .i64 a, .int .i64 b, .string s])) _
  simp only [Act.put, List.setIfInBounds_toArray, List.set_cons_zero, List.set_cons_succ]
  refine wpAnyH_ready (rs := [4]) (by kernel_rfl) (by simp) ?_
  refine AllReadyH.cons rfl (fun K hK => ?_) AllReadyH.nil
  go_simp
  refine (HOrd.out _ HS1.out.drew).mono ?_
  rintro e wa ⟨rfl, hsa, hfa⟩; have HSa := Lib.hid hsa; have HXa := Lib.hid (HX1.out.drew.trans hfa); have HBa := Lib.hid (hfa.blk HB1.out.drew (Nat.ne_of_gt h7g)); have HAa := Lib.hid (hfa.blk HA1.out.drew (Nat.ne_of_gt h6g)); clear hsa hfa
  go_wp2_with fail
  refine hK.out _ _ HBa.out (fun hHeld1 => ?_)
  clear hHeld hK K
  have hHeld := hHeld1
  clear hHeld1
  refine wpAnyH_ready (rs := [5]) (by kernel_rfl) (by simp) ?_
  refine AllReadyH.cons rfl (fun K hK => ?_) AllReadyH.nil
  go_simp
  refine (HNb.out _).mono ?_
  rintro e wb ⟨rfl, hb⟩; have HSb := Lib.hid (HSa.out.through hb); have HXb := Lib.hid (HXa.out.below hg hb); have HBb := Lib.hid (HBa.out.through hb); have HAb := Lib.hid (HAa.out.through hb); clear hb
  go_wp2_with fail
  refine hK.out _ _ HBb.out (fun hHeld1 => ?_)
  clear hHeld hK K
  have hHeld := hHeld1
  clear hHeld1
  refine wpAnyH_ready (rs := [6]) (by kernel_rfl) (by simp) ?_
  refine AllReadyH.cons (o := ⟨none, .store 73 (.tmp 8) (.tmp 23), _, _, _, none⟩) rfl (fun K hK => ?_) AllReadyH.nil
  refine step_store_blk rfl 73 (.tmp 8) (.tmp 23) rfl b6 r (by simp [Act.eval]) (by simp [Act.eval]) 73 (vs zero32) HAb.out (by rw [HRl.out]; kernel_rfl) (by rw [HRl.out]; rfl) HRo.out ?_; intro wc hbc hoc; have HBc := Lib.hid (HBb.out.grown hoc (fun e => h67 (Option.some.inj e).symm)); have HAc := Lib.hid hbc; have HSc := Lib.hid (HSb.out.grown HAb.out hoc (Nat.ne_of_lt h6g)); have HXc := Lib.hid (HXb.out.grownB hoc h6w hg); clear hbc hoc
  refine hK.out _ _ HBc.out (fun hHeld1 => ?_)
  clear hHeld hK K
  have hHeld := hHeld1
  clear hHeld1
  change wpAnyH _ _ _ _ _ _ _ (Act.put _ none undef) _
  simp only [Act.put]
  refine wpAnyH_done (by kernel_rfl) ?_ _
  go_wp2
  refine bodyPost_ret (v := .agg r.toArray) (results_cell_row rfl _ _ b6 73 _ (0, 0) _ rfl HAc.out Try.underlying73 rfl ?r1) rfl ⟨rfl, HSc.out, HXc.out⟩
  rw [List.size_toArray, HRl.out]; kernel_rfl

set_option maxHeartbeats 4000000 in
set_option maxRecDepth 100000 in
theorem btag_nil (a b : Int) (A : Option Addr) (n c : Nat) (w : World) :
    Calls Try.prog 118 #[.pointer none, .int .i64 a, .int .i64 b, .slice A n c] w fun e w' => e = .returned (.agg (vs zero32).toArray) ∧ Below w.heap.size w w' := by
  obtain ⟨r, hr⟩ : ∃ r, r = vs zero32 := ⟨_, rfl⟩
  have hbd : ∀ W, (Instr.build 73 #[]).run Try.prog W = .ok (.agg r.toArray) W := fun W => by rw [hr]; kernel_rfl
  have hrl : r.length = 32 := by rw [hr]; rfl
  have hro : r.toArray.all (·.oneCell') = true := by rw [hr]; exact one_u8
  have HRl := Lib.hid hrl
  have HRo := Lib.hid hro
  rw [← hr]
  clear hr hrl hro
  go_enter Try.func118, Try.ntmps118
  go_wp2_with (first
    | (refine wpList_build_to rfl 73 [] rfl [] rfl (.agg r.toArray) (hbd _) ?_)
    | (refine wpList_store_row rfl 73 (.tmp 8) (.tmp 12) rfl w.heap.size r.toArray rfl rfl 73 (vs zero32).toArray (Blk.fresh rfl (by kernel_rfl)) (by rw [List.size_toArray, HRl.out]; kernel_rfl) (by rw [List.size_toArray, List.size_toArray, HRl.out]; rfl) HRo.out ?_))
  refine bodyPost_ret (v := .agg r.toArray) (results_cell_row rfl _ _ w.heap.size 73 _ (0, 0) _ rfl ((Blk.fresh (cs := vs zero32) rfl (by kernel_rfl)).row _) Try.underlying73 rfl ?r1) rfl ⟨rfl, below_row ((Below.refl _ w).alloc (Nat.le_refl _) _) _ (Nat.le_refl _) _⟩
  rw [List.size_toArray, HRl.out]; kernel_rfl
end

section
open Go.RowKit
/-- The tag that a book makes for what is known to it. -/
def bookTag (ts : List TK) (x : TK) : List UInt8 := numB 255 (ord x ts)
/-- Whether a tag holds. -/
def bookHolds (ts : List TK) (x : TK) (tg : List UInt8) : Bool := decide (x ∈ ts) && (tg == bookTag ts x)

set_option maxHeartbeats 4000000 in
set_option maxRecDepth 100000 in
theorem bcheck_hit (a b : Int) (t tg : List UInt8) (A : Option Addr) (n c : Nat) (w : World) (Q : Nat → Prop) (g : Nat) (ds : List DK) (ts : List TK) (h : BS w g ds ts) (hby : By w Q A n t) (hl : ts.length < 1000000000) (hx : (a, b, t) ∈ ts) (htg : tg.length = 32) :
    Calls Try.prog 115 #[.pointer (some ⟨g, 0, none⟩), .int .i64 a, .int .i64 b, .slice A n c, .agg (vs tg).toArray] w fun e w' => e = .returned (.bool (tg == bookTag ts (a, b, t))) ∧ Below w.heap.size w w' := by
  obtain ⟨q, hq⟩ : ∃ q, q = vs tg := ⟨_, rfl⟩
  have hql : q.length = 32 := by rw [hq, vs_length, htg]
  have hmd : ∀ W, Below w.heap.size w W → Calls Try.prog 119 #[.pointer (some ⟨g, 0, none⟩), .int .i64 a, .int .i64 b, .slice A n c] W fun e w' => e = .returned (.tuple #[.int .u64 (ord (a, b, t) ts : Int), .bool true]) ∧ Below W.heap.size W w' := fun W hb => made_hit Q g ds ts a b t A n c W (h.through hb) (hby.through hb) hx
  obtain ⟨r, hr⟩ : ∃ r, r = vs (bookTag ts (a, b, t)) := ⟨_, rfl⟩
  have hnb : ∀ W, Calls Try.prog 120 #[.int .u8 255, .int .u64 (ord (a, b, t) ts : Int)] W fun e w' => e = .returned (.agg r.toArray) ∧ Below W.heap.size W w' := fun W => by
    rw [hr]
    have h1 := ord_le hx
    exact numbered_any 255 _ (by omega) W
  obtain ⟨res, hres⟩ : ∃ res, res = (tg == bookTag ts (a, b, t)) := ⟨_, rfl⟩
  have hcmp : ∀ W, (binOp .eql 73 (.agg q.toArray) (.agg r.toArray)).run Try.prog W = .ok (.bool res) W := fun W => by
    rw [hq, hr, hres]
    exact tag_eql _ _ htg (numB_length _ _) W
  rw [← hres]
  generalize (ord (a, b, t) ts : Int) = o at hmd hnb
  have HNb := Lib.hid hnb
  have HMd := Lib.hid hmd
  have HQl := Lib.hid hql
  rw [← hq]
  clear hq hql hmd hr hnb hres hx hl h hby htg
  go_enter Try.func115, Try.ntmps115
  go_wp2_with (go_at_call 119; (with_reducible refine (HMd.out _ ((Below.refl _ w).alloc (Nat.le_refl _) _)).mono ?_); rintro e w1 ⟨rfl, hb1⟩; have HX1 : Hid (Below w.heap.size w w1) := Lib.hid (((Below.refl _ w).alloc (Nat.le_refl _) _).trans (hb1.mono (by simp))); have HB1 : Hid (Blk w1 w.heap.size 73 q) := Lib.hid ((Blk.fresh rfl rfl).through hb1); clear hb1)
  obtain ⟨b9, hb9⟩ : ∃ b9, b9 = w.heap.size := ⟨_, rfl⟩
  rw [← hb9] at HB1
  rw [← hb9]
  clear hb9
  try dsimp only [Act.put]
  refine wp_region_held_drew (S := fun W => Blk W b9 73 q) (by kernel_rfl) HB1.out.drew (fun hHeld => ?_)
  change wpAnyH _ _ _ _ _ _ #[false, false, false, false, false, false, false, false] _ _
  refine wpAnyH_take (i := 0) (v := (.bool true)) rfl (by kernel_rfl) (by kernel_rfl) (by kernel_rfl) (fun _ _ _ h => h) (Or.inl ⟨by kernel_rfl, fun w hSw => ?_⟩) (by assumption) ?_
  · (try dsimp only at hSw); go_simp <;> (try rfl)
  change wpAnyH _ _ _ _ _ _ _ (Act.put _ (some (21 : Nat)) (.bool true)) _
  simp only [Act.put, List.setIfInBounds_toArray, List.set_cons_zero, List.set_cons_succ]
  refine wpAnyH_take (i := 1) (v := (.bool true)) rfl (by kernel_rfl) (by kernel_rfl) (by kernel_rfl) (fun _ _ _ h => h) (Or.inl ⟨by kernel_rfl, fun w hSw => ?_⟩) (by assumption) ?_
  · (try dsimp only at hSw); go_simp <;> (try rfl)
  change wpAnyH _ _ _ _ _ _ _ (Act.put _ (some (22 : Nat)) (.bool true)) _
  simp only [Act.put, List.setIfInBounds_toArray, List.set_cons_zero, List.set_cons_succ]
  refine wpAnyH_take (i := 2) (v := (.agg q.toArray)) rfl (by kernel_rfl) (by kernel_rfl) (by kernel_rfl) (fun _ _ _ h => h) (yields_load_at (by kernel_rfl) 73 (.tmp 9) rfl (.pointer (some ⟨b9, 0, none⟩)) (by simp [Act.eval]) (.agg q.toArray) (fun W hW => hW.loadAt 73 _ Try.underlying73 rfl (by rw [HQl.out]; kernel_rfl))) (by assumption) ?_
  change wpAnyH _ _ _ _ _ _ _ (Act.put _ (some (23 : Nat)) (.agg q.toArray)) _
  simp only [Act.put, List.setIfInBounds_toArray, List.set_cons_zero, List.set_cons_succ]
  refine wpAnyH_take (i := 3) (v := (.int .u64 o)) rfl (by kernel_rfl) (by kernel_rfl) (by kernel_rfl) (fun _ _ _ h => h) (Or.inl ⟨by kernel_rfl, fun w hSw => ?_⟩) (by assumption) ?_
  · (try dsimp only at hSw); go_simp <;> (try rfl)
  change wpAnyH _ _ _ _ _ _ _ (Act.put _ (some (24 : Nat)) (.int .u64 o)) _
  simp only [Act.put, List.setIfInBounds_toArray, List.set_cons_zero, List.set_cons_succ]
  refine wpAnyH_ready (rs := [4]) (by kernel_rfl) (by simp) ?_
  refine AllReadyH.cons rfl (fun K hK => ?_) AllReadyH.nil
  go_simp
  refine (HNb.out _).mono ?_
  rintro e wa ⟨rfl, hb⟩; have HXa := Lib.hid (HX1.out.drew.trans (hb.mono HX1.out.size)); have HBa := Lib.hid (HB1.out.drew.through hb); clear hb
  go_wp2_with fail
  refine hK.out _ _ HBa.out (fun hHeld1 => ?_)
  clear hHeld hK K
  have hHeld := hHeld1
  clear hHeld1
  refine wpAnyH_take (i := 5) (v := (.bool res)) rfl (by kernel_rfl) (by kernel_rfl) (by kernel_rfl) (fun _ _ _ h => h) (Or.inl ⟨by kernel_rfl, fun w hSw => ?_⟩) (by assumption) ?_
  · (try dsimp only at hSw); go_simp <;> (try rfl)
  change wpAnyH _ _ _ _ _ _ _ (Act.put _ (some (26 : Nat)) (.bool res)) _
  simp only [Act.put, List.setIfInBounds_toArray, List.set_cons_zero, List.set_cons_succ]
  refine wpAnyH_take (i := 6) (v := (.bool res)) rfl (by kernel_rfl) (by kernel_rfl) (by kernel_rfl) (fun _ _ _ h => h) (Or.inl ⟨by kernel_rfl, fun w hSw => ?_⟩) (by assumption) ?_
  · (try dsimp only at hSw); go_simp <;> (try rfl)
  change wpAnyH _ _ _ _ _ _ _ (Act.put _ (some (27 : Nat)) (.bool res)) _
  simp only [Act.put, List.setIfInBounds_toArray, List.set_cons_zero, List.set_cons_succ]
  refine wpAnyH_take (i := 7) (v := (.bool res)) rfl (by kernel_rfl) (by kernel_rfl) (by kernel_rfl) (fun _ _ _ h => h) (Or.inl ⟨by kernel_rfl, fun w hSw => ?_⟩) (by assumption) ?_
  · (try dsimp only at hSw); go_simp <;> (try rfl)
  change wpAnyH _ _ _ _ _ _ _ (Act.put _ (some (10 : Nat)) (.bool res)) _
  simp only [Act.put, List.setIfInBounds_toArray, List.set_cons_zero, List.set_cons_succ]
  refine wpAnyH_done (by kernel_rfl) ?_ _
  go_wp2
  go_ret
  exact ⟨rfl, HXa.out⟩

set_option maxHeartbeats 4000000 in
set_option maxRecDepth 100000 in
theorem bcheck_miss (a b : Int) (t tg : List UInt8) (A : Option Addr) (n c : Nat) (w : World) (Q : Nat → Prop) (g : Nat) (ds : List DK) (ts : List TK) (h : BS w g ds ts) (hby : By w Q A n t) (hx : (a, b, t) ∉ ts) (htg : tg.length = 32) :
    Calls Try.prog 115 #[.pointer (some ⟨g, 0, none⟩), .int .i64 a, .int .i64 b, .slice A n c, .agg (vs tg).toArray] w fun e w' => e = .returned (.bool false) ∧ Below w.heap.size w w' := by
  obtain ⟨q, hq⟩ : ∃ q, q = vs tg := ⟨_, rfl⟩
  have hql : q.length = 32 := by rw [hq, vs_length, htg]
  have hmd : ∀ W, Below w.heap.size w W → Calls Try.prog 119 #[.pointer (some ⟨g, 0, none⟩), .int .i64 a, .int .i64 b, .slice A n c] W fun e w' => e = .returned (.tuple #[.int .u64 0, .bool false]) ∧ Below W.heap.size W w' := fun W hb => made_miss Q g ds ts a b t A n c W (h.through hb) (hby.through hb) hx
  have HMd := Lib.hid hmd
  have HQl := Lib.hid hql
  rw [← hq]
  clear hq hql hmd hx h hby htg
  go_enter Try.func115, Try.ntmps115
  go_wp2_with (go_at_call 119; (with_reducible refine (HMd.out _ ((Below.refl _ w).alloc (Nat.le_refl _) _)).mono ?_); rintro e w1 ⟨rfl, hb1⟩; have HX1 : Hid (Below w.heap.size w w1) := Lib.hid (((Below.refl _ w).alloc (Nat.le_refl _) _).trans (hb1.mono (by simp))); have HB1 : Hid (Blk w1 w.heap.size 73 q) := Lib.hid ((Blk.fresh rfl rfl).through hb1); clear hb1)
  obtain ⟨b9, hb9⟩ : ∃ b9, b9 = w.heap.size := ⟨_, rfl⟩
  rw [← hb9] at HB1
  rw [← hb9]
  clear hb9
  try dsimp only [Act.put]
  refine wp_region_held_drew (S := fun _ => True) (by kernel_rfl) trivial (fun hHeld => ?_)
  change wpAnyH _ _ _ _ _ _ #[false, false, false, false, false, false, false, false] _ _
  refine wpAnyH_take (i := 0) (v := (.bool false)) rfl (by kernel_rfl) (by kernel_rfl) (by kernel_rfl) (fun _ _ _ h => h) (Or.inl ⟨by kernel_rfl, fun w hSw => ?_⟩) (by assumption) ?_
  · (try dsimp only at hSw); go_simp <;> (try rfl)
  change wpAnyH _ _ _ _ _ _ _ (Act.put _ (some (21 : Nat)) (.bool false)) _
  simp only [Act.put, List.setIfInBounds_toArray, List.set_cons_zero, List.set_cons_succ]
  refine wpAnyH_take (i := 1) (v := (.bool false)) rfl (by kernel_rfl) (by kernel_rfl) (by kernel_rfl) (fun _ _ _ h => h) (Or.inl ⟨by kernel_rfl, fun w hSw => ?_⟩) (by assumption) ?_
  · (try dsimp only at hSw); go_simp <;> (try rfl)
  change wpAnyH _ _ _ _ _ _ _ (Act.put _ (some (22 : Nat)) (.bool false)) _
  simp only [Act.put, List.setIfInBounds_toArray, List.set_cons_zero, List.set_cons_succ]
  refine wpAnyH_take (i := 2) (v := undef) rfl (by kernel_rfl) (by kernel_rfl) (by kernel_rfl) (fun _ _ _ h => h) (Or.inr ⟨by kernel_rfl, rfl⟩) (by assumption) ?_
  change wpAnyH _ _ _ _ _ _ _ (Act.put _ (some (23 : Nat)) undef) _
  simp only [Act.put, List.setIfInBounds_toArray, List.set_cons_zero, List.set_cons_succ]
  refine wpAnyH_take (i := 3) (v := undef) rfl (by kernel_rfl) (by kernel_rfl) (by kernel_rfl) (fun _ _ _ h => h) (Or.inr ⟨by kernel_rfl, rfl⟩) (by assumption) ?_
  change wpAnyH _ _ _ _ _ _ _ (Act.put _ (some (24 : Nat)) undef) _
  simp only [Act.put, List.setIfInBounds_toArray, List.set_cons_zero, List.set_cons_succ]
  refine wpAnyH_take (i := 4) (v := undef) rfl (by kernel_rfl) (by kernel_rfl) (by kernel_rfl) (fun _ _ _ h => h) (Or.inr ⟨by kernel_rfl, rfl⟩) (by assumption) ?_
  change wpAnyH _ _ _ _ _ _ _ (Act.put _ (some (25 : Nat)) undef) _
  simp only [Act.put, List.setIfInBounds_toArray, List.set_cons_zero, List.set_cons_succ]
  refine wpAnyH_take (i := 5) (v := undef) rfl (by kernel_rfl) (by kernel_rfl) (by kernel_rfl) (fun _ _ _ h => h) (Or.inr ⟨by kernel_rfl, rfl⟩) (by assumption) ?_
  change wpAnyH _ _ _ _ _ _ _ (Act.put _ (some (26 : Nat)) undef) _
  simp only [Act.put, List.setIfInBounds_toArray, List.set_cons_zero, List.set_cons_succ]
  refine wpAnyH_take (i := 6) (v := (.bool false)) rfl (by kernel_rfl) (by kernel_rfl) (by kernel_rfl) (fun _ _ _ h => h) (Or.inl ⟨by kernel_rfl, fun w hSw => ?_⟩) (by assumption) ?_
  · (try dsimp only at hSw); go_simp <;> (try rfl)
  change wpAnyH _ _ _ _ _ _ _ (Act.put _ (some (27 : Nat)) (.bool false)) _
  simp only [Act.put, List.setIfInBounds_toArray, List.set_cons_zero, List.set_cons_succ]
  refine wpAnyH_take (i := 7) (v := (.bool false)) rfl (by kernel_rfl) (by kernel_rfl) (by kernel_rfl) (fun _ _ _ h => h) (Or.inl ⟨by kernel_rfl, fun w hSw => ?_⟩) (by assumption) ?_
  · (try dsimp only at hSw); go_simp <;> (try rfl)
  change wpAnyH _ _ _ _ _ _ _ (Act.put _ (some (10 : Nat)) (.bool false)) _
  simp only [Act.put, List.setIfInBounds_toArray, List.set_cons_zero, List.set_cons_succ]
  refine wpAnyH_done (by kernel_rfl) ?_ _
  go_wp2
  go_ret
  exact ⟨rfl, HX1.out.drew⟩

set_option maxHeartbeats 4000000 in
set_option maxRecDepth 100000 in
theorem bcheck_nil (a b : Int) (_t tg : List UInt8) (A : Option Addr) (n c : Nat) (w : World)  (htg : tg.length = 32) :
    Calls Try.prog 115 #[.pointer none, .int .i64 a, .int .i64 b, .slice A n c, .agg (vs tg).toArray] w fun e w' => e = .returned (.bool false) ∧ Below w.heap.size w w' := by
  obtain ⟨q, hq⟩ : ∃ q, q = vs tg := ⟨_, rfl⟩
  have hql : q.length = 32 := by rw [hq, vs_length, htg]
  have hmd : ∀ W, Below w.heap.size w W → Calls Try.prog 119 #[.pointer none, .int .i64 a, .int .i64 b, .slice A n c] W fun e w' => e = .returned (.tuple #[.int .u64 0, .bool false]) ∧ Below W.heap.size W w' := fun W _ => (made_nil a b A n c W).mono (by rintro e w' ⟨h1, rfl⟩; exact ⟨h1, Below.refl _ _⟩)
  have HMd := Lib.hid hmd
  have HQl := Lib.hid hql
  rw [← hq]
  clear hq hql hmd htg
  go_enter Try.func115, Try.ntmps115
  go_wp2_with (go_at_call 119; (with_reducible refine (HMd.out _ ((Below.refl _ w).alloc (Nat.le_refl _) _)).mono ?_); rintro e w1 ⟨rfl, hb1⟩; have HX1 : Hid (Below w.heap.size w w1) := Lib.hid (((Below.refl _ w).alloc (Nat.le_refl _) _).trans (hb1.mono (by simp))); have HB1 : Hid (Blk w1 w.heap.size 73 q) := Lib.hid ((Blk.fresh rfl rfl).through hb1); clear hb1)
  obtain ⟨b9, hb9⟩ : ∃ b9, b9 = w.heap.size := ⟨_, rfl⟩
  rw [← hb9] at HB1
  rw [← hb9]
  clear hb9
  try dsimp only [Act.put]
  refine wp_region_held_drew (S := fun _ => True) (by kernel_rfl) trivial (fun hHeld => ?_)
  change wpAnyH _ _ _ _ _ _ #[false, false, false, false, false, false, false, false] _ _
  refine wpAnyH_take (i := 0) (v := (.bool false)) rfl (by kernel_rfl) (by kernel_rfl) (by kernel_rfl) (fun _ _ _ h => h) (Or.inl ⟨by kernel_rfl, fun w hSw => ?_⟩) (by assumption) ?_
  · (try dsimp only at hSw); go_simp <;> (try rfl)
  change wpAnyH _ _ _ _ _ _ _ (Act.put _ (some (21 : Nat)) (.bool false)) _
  simp only [Act.put, List.setIfInBounds_toArray, List.set_cons_zero, List.set_cons_succ]
  refine wpAnyH_take (i := 1) (v := (.bool false)) rfl (by kernel_rfl) (by kernel_rfl) (by kernel_rfl) (fun _ _ _ h => h) (Or.inl ⟨by kernel_rfl, fun w hSw => ?_⟩) (by assumption) ?_
  · (try dsimp only at hSw); go_simp <;> (try rfl)
  change wpAnyH _ _ _ _ _ _ _ (Act.put _ (some (22 : Nat)) (.bool false)) _
  simp only [Act.put, List.setIfInBounds_toArray, List.set_cons_zero, List.set_cons_succ]
  refine wpAnyH_take (i := 2) (v := undef) rfl (by kernel_rfl) (by kernel_rfl) (by kernel_rfl) (fun _ _ _ h => h) (Or.inr ⟨by kernel_rfl, rfl⟩) (by assumption) ?_
  change wpAnyH _ _ _ _ _ _ _ (Act.put _ (some (23 : Nat)) undef) _
  simp only [Act.put, List.setIfInBounds_toArray, List.set_cons_zero, List.set_cons_succ]
  refine wpAnyH_take (i := 3) (v := undef) rfl (by kernel_rfl) (by kernel_rfl) (by kernel_rfl) (fun _ _ _ h => h) (Or.inr ⟨by kernel_rfl, rfl⟩) (by assumption) ?_
  change wpAnyH _ _ _ _ _ _ _ (Act.put _ (some (24 : Nat)) undef) _
  simp only [Act.put, List.setIfInBounds_toArray, List.set_cons_zero, List.set_cons_succ]
  refine wpAnyH_take (i := 4) (v := undef) rfl (by kernel_rfl) (by kernel_rfl) (by kernel_rfl) (fun _ _ _ h => h) (Or.inr ⟨by kernel_rfl, rfl⟩) (by assumption) ?_
  change wpAnyH _ _ _ _ _ _ _ (Act.put _ (some (25 : Nat)) undef) _
  simp only [Act.put, List.setIfInBounds_toArray, List.set_cons_zero, List.set_cons_succ]
  refine wpAnyH_take (i := 5) (v := undef) rfl (by kernel_rfl) (by kernel_rfl) (by kernel_rfl) (fun _ _ _ h => h) (Or.inr ⟨by kernel_rfl, rfl⟩) (by assumption) ?_
  change wpAnyH _ _ _ _ _ _ _ (Act.put _ (some (26 : Nat)) undef) _
  simp only [Act.put, List.setIfInBounds_toArray, List.set_cons_zero, List.set_cons_succ]
  refine wpAnyH_take (i := 6) (v := (.bool false)) rfl (by kernel_rfl) (by kernel_rfl) (by kernel_rfl) (fun _ _ _ h => h) (Or.inl ⟨by kernel_rfl, fun w hSw => ?_⟩) (by assumption) ?_
  · (try dsimp only at hSw); go_simp <;> (try rfl)
  change wpAnyH _ _ _ _ _ _ _ (Act.put _ (some (27 : Nat)) (.bool false)) _
  simp only [Act.put, List.setIfInBounds_toArray, List.set_cons_zero, List.set_cons_succ]
  refine wpAnyH_take (i := 7) (v := (.bool false)) rfl (by kernel_rfl) (by kernel_rfl) (by kernel_rfl) (fun _ _ _ h => h) (Or.inl ⟨by kernel_rfl, fun w hSw => ?_⟩) (by assumption) ?_
  · (try dsimp only at hSw); go_simp <;> (try rfl)
  change wpAnyH _ _ _ _ _ _ _ (Act.put _ (some (10 : Nat)) (.bool false)) _
  simp only [Act.put, List.setIfInBounds_toArray, List.set_cons_zero, List.set_cons_succ]
  refine wpAnyH_done (by kernel_rfl) ?_ _
  go_wp2
  go_ret
  exact ⟨rfl, HX1.out.drew⟩

theorem bcheck_any (Q : Nat → Prop) (g : Nat) (ds : List DK) (ts : List TK) (a b : Int) (t tg : List UInt8) (A : Option Addr) (n c : Nat) (w : World) (h : BS w g ds ts) (hby : By w Q A n t) (hl : ts.length < 1000000000) (htg : tg.length = 32) :
    Calls Try.prog 115 #[.pointer (some ⟨g, 0, none⟩), .int .i64 a, .int .i64 b, .slice A n c, .agg (vs tg).toArray] w fun e w' => e = .returned (.bool (bookHolds ts (a, b, t) tg)) ∧ Below w.heap.size w w' := by
  unfold bookHolds
  by_cases hx : (a, b, t) ∈ ts
  · rw [decide_eq_true hx, Bool.true_and]
    exact bcheck_hit a b t tg A n c w Q g ds ts h hby hl hx htg
  · rw [decide_eq_false hx, Bool.false_and]
    exact bcheck_miss a b t tg A n c w Q g ds ts h hby hx htg

theorem bnew_any (w : World) :
    Calls Try.prog 24 #[] w fun e w' => e = .returned (.pointer (some ⟨w.heap.size, 0, none⟩)) ∧ BS w' w.heap.size [] [] ∧ Below w.heap.size w w' := by
  go_enter Try.func24, Try.ntmps24
  go_wp2
  go_ret
  exact ⟨rfl, ⟨none, none, Blk.fresh rfl (by kernel_rfl), MIs.nil, MIs.nil, fun r h => by cases h⟩, (Below.refl _ w).alloc (Nat.le_refl _) _⟩
end

section
open Go.RowKit
/-- The slice '.slice A n _' reads, in w, as the numbers xs. -/
def Iv (w : World) (Q : Nat → Prop) (A : Option Addr) (n : Nat) (xs : List Int) : Prop :=
  xs.length = n ∧ (0 < n → ∃ g o, A = some ⟨g, o, none⟩ ∧ Q g ∧ ∀ (j : Nat) (u : Int), xs[j]? = some u → w.cell? ⟨g, o + j, none⟩ = some (.int .i64 u))
section
variable {w w' : World} {Q Q' : Nat → Prop} {A : Option Addr} {n : Nat} {xs : List Int}
theorem Iv.none_ : Iv w Q A 0 [] := ⟨rfl, fun h => absurd h (by omega)⟩
theorem Iv.keep (h : Iv w Q A n xs) (hk : ∀ g, Q g → w'.heap[g]? = w.heap[g]?) : Iv w' Q A n xs :=
  ⟨h.1, fun hn => by
    obtain ⟨g, o, e, hb, hc⟩ := h.2 hn
    exact ⟨g, o, e, hb, fun j u hu => (World.cell?_of_block (a := ⟨g, o + j, none⟩) (hk g hb)).trans (hc j u hu)⟩⟩
theorem Iv.weak (h : Iv w Q A n xs) (hk : ∀ g, Q g → Q' g) : Iv w Q' A n xs :=
  ⟨h.1, fun hn => by
    obtain ⟨g, o, e, hb, hc⟩ := h.2 hn
    exact ⟨g, o, e, hk g hb, hc⟩⟩
theorem Iv.len (h : Iv w Q A n xs) : xs.length = n := h.1
theorem Iv.lt (h : Iv w Q A n xs) : Iv w (fun g => Q g ∧ g < w.heap.size ∧ ∃ cs t fr, w.heap[g]? = some (.cells cs t fr)) A n xs :=
  ⟨h.1, fun hn => by
    obtain ⟨g, o, e, hb, hc⟩ := h.2 hn
    have hl : 0 < xs.length := by have := h.1; omega
    have h0 := hc 0 xs[0] (List.getElem?_eq_getElem hl)
    have hcell : ∃ cs t fr, w.heap[g]? = some (.cells cs t fr) := by
      unfold World.cell? at h0
      cases hb : w.heap[g]? with
      | none => simp [hb] at h0
      | some o => cases o <;> simp_all
    exact ⟨g, o, e, ⟨hb, World.block_lt_of_cell? w ⟨g, o + 0, none⟩ h0, hcell⟩, hc⟩⟩
theorem Iv.through (h : Iv w Q A n xs) (hb : Below w.heap.size w w') : Iv w' Q A n xs :=
  (h.lt.keep fun g hg => hb.block g hg.2.1).weak fun _ hg => hg.1
theorem Iv.kf {g : Nat} (h : Iv w Q A n xs) (hf : KF g w w') (hQ : ∀ k, Q k → k ≠ g) : Iv w' Q A n xs :=
  (h.lt.keep fun k hk => hf.cells k (hQ k hk.1) hk.2.2).weak fun _ hg => hg.1
theorem Iv.drew (h : Iv w Q A n xs) : Iv w.drew Q A n xs := h
theorem Iv.cell (h : Iv w Q A n xs) (hn : 0 < n) : ∃ g o, A = some ⟨g, o, none⟩ ∧ Q g ∧ ∀ j, j < n → w.cell? ⟨g, o + j, none⟩ = some (.int .i64 (xs.getD j 0)) := by
  obtain ⟨g, o, e, hq, hc⟩ := h.2 hn
  refine ⟨g, o, e, hq, fun j hj => ?_⟩
  have hl : j < xs.length := by have := h.1; omega
  rw [hc j xs[j] (List.getElem?_eq_getElem hl)]
  simp [List.getD, hl]
end

/-- Tags, as cells. -/
def rows (tgs : List (List UInt8)) : List Value := (tgs.map vs).flatten
def Long32 (tgs : List (List UInt8)) : Prop := ∀ t ∈ tgs, t.length = 32
theorem rows_nil : rows [] = [] := rfl
theorem rows_snoc (tgs : List (List UInt8)) (t : List UInt8) : rows (tgs ++ [t]) = rows tgs ++ vs t := by simp [rows]
theorem rows_length {tgs : List (List UInt8)} (h : Long32 tgs) : (rows tgs).length = tgs.length * 32 := by
  induction tgs with
  | nil => rfl
  | cons t tgs ih =>
    have h1 : t.length = 32 := h t (by simp)
    have h2 := ih fun u hu => h u (by simp [hu])
    unfold rows at h2 ⊢
    rw [List.map_cons, List.flatten_cons, List.length_append, h2, vs_length, h1, List.length_cons]
    omega
theorem rows_get {tgs : List (List UInt8)} (h : Long32 tgs) : ∀ (j k : Nat) (t : List UInt8), tgs[j]? = some t → k < 32 → (rows tgs)[j * 32 + k]? = (vs t)[k]? := by
  induction tgs with
  | nil => intro j k t hj; simp at hj
  | cons u tgs ih =>
    intro j k t hj hk
    have h1 : u.length = 32 := h u (by simp)
    have h2 := ih fun v hv => h v (by simp [hv])
    have e : rows (u :: tgs) = vs u ++ rows tgs := by simp [rows]
    rw [e]
    match j, hj with
    | 0, hj =>
      simp at hj
      subst hj
      rw [List.getElem?_append_left (by rw [vs_length]; omega), Nat.zero_mul, Nat.zero_add]
    | j + 1, hj =>
      rw [List.getElem?_append_right (by rw [vs_length, h1]; omega), vs_length, h1]
      have e2 : (j + 1) * 32 + k - 32 = j * 32 + k := by omega
      rw [e2]
      exact h2 j k t (by simpa using hj) hk

/-- The slice '.slice A n _' reads as these tags. -/
def Tg (w : World) (A : Option Addr) (n : Nat) (tgs : List (List UInt8)) : Prop :=
  tgs.length = n ∧ Long32 tgs ∧ (0 < n → ∃ g o, A = some ⟨g, o, none⟩ ∧ ∀ j t, tgs[j]? = some t → ∀ (k : Nat) (u : Value), (vs t)[k]? = some u → w.cell? ⟨g, o + (j * 32 + k), none⟩ = some u)
section
variable {w w' : World} {A : Option Addr} {n : Nat} {tgs : List (List UInt8)}
theorem Tg.none_ : Tg w A 0 [] := ⟨rfl, fun _ h => by simp at h, fun h => absurd h (by omega)⟩
theorem Tg.blk (h : Tg w A n tgs) (hn : 0 < n) : ∃ g o, A = some ⟨g, o, none⟩ ∧ g < w.heap.size ∧ (∃ cs t fr, w.heap[g]? = some (.cells cs t fr)) ∧ w.cell? ⟨g, o + 0, none⟩ ≠ none ∧ (∀ j t, tgs[j]? = some t → ∀ (k : Nat) (u : Value), (vs t)[k]? = some u → w.cell? ⟨g, o + (j * 32 + k), none⟩ = some u) := by
  obtain ⟨g, o, e, hc⟩ := h.2.2 hn
  have hl : 0 < tgs.length := by have := h.1; omega
  have ht := h.2.1 tgs[0] (List.getElem_mem hl)
  have h1 : 0 < (vs tgs[0]).length := by rw [vs_length, ht]; omega
  have h0 := hc 0 tgs[0] (List.getElem?_eq_getElem hl) 0 _ (List.getElem?_eq_getElem h1)
  simp only [Nat.zero_mul, Nat.add_zero] at h0
  have hcell : ∃ cs t fr, w.heap[g]? = some (.cells cs t fr) := by
    unfold World.cell? at h0
    cases hb : w.heap[g]? with
    | none => simp [hb] at h0
    | some o => cases o <;> simp_all
  exact ⟨g, o, e, World.block_lt_of_cell? w ⟨g, o, none⟩ h0, hcell, by simp [h0], hc⟩
theorem Tg.keep (h : Tg w A n tgs) (hk : ∀ g, g < w.heap.size → (∃ cs t fr, w.heap[g]? = some (.cells cs t fr)) → (∃ o, A = some ⟨g, o, none⟩) → w'.heap[g]? = w.heap[g]?) : Tg w' A n tgs :=
  ⟨h.1, h.2.1, fun hn => by
    obtain ⟨g, o, e, hl, hb, _, hc⟩ := h.blk hn
    exact ⟨g, o, e, fun j t ht k u hu => (World.cell?_of_block (a := ⟨g, o + (j * 32 + k), none⟩) (hk g hl hb ⟨o, e⟩)).trans (hc j t ht k u hu)⟩⟩
theorem Tg.through (h : Tg w A n tgs) (hb : Below w.heap.size w w') : Tg w' A n tgs := h.keep fun g hg _ _ => hb.block g hg
theorem Tg.drew (h : Tg w A n tgs) : Tg w.drew A n tgs := h
/-- A cell that is written is a map's or a byte's: tags are no object's cells. -/
theorem Tg.kf {b : Nat} {ds : List DK} {ts : List TK} (h : Tg w A n tgs) (hf : KF b w w') (hs : BS w b ds ts) : Tg w' A n tgs :=
  ⟨h.1, h.2.1, fun hn => by
    obtain ⟨g, o, e, hl, hb, _, hc⟩ := h.blk hn
    have hl' : 0 < tgs.length := by have := h.1; omega
    have ht := h.2.1 tgs[0] (List.getElem_mem hl')
    have hgb : g ≠ b := by
      rintro rfl
      obtain ⟨m1, m2, hbk, _⟩ := hs
      have h1 : 0 < tgs[0].length := by omega
      have h0 := hc 0 tgs[0] (List.getElem?_eq_getElem hl') 0 (u8 tgs[0][0]) (by rw [vs_get, List.getElem?_eq_getElem h1]; rfl)
      simp only [Nat.zero_mul, Nat.add_zero] at h0
      rw [hbk.cell] at h0
      match o, h0 with
      | 0, h0 => simp [u8] at h0
      | 1, h0 => simp [u8] at h0
      | o + 2, h0 => simp at h0
    exact ⟨g, o, e, fun j t ht k u hu => (World.cell?_of_block (a := ⟨g, o + (j * 32 + k), none⟩) (hf.cells g hgb hb)).trans (hc j t ht k u hu)⟩⟩
/-- one of them, as a range -/
theorem Tg.at (h : Tg w A n tgs) (j : Nat) (t : List UInt8) (hj : tgs[j]? = some t) : t.length = 32 ∧ ∃ g o, A = some ⟨g, o, none⟩ ∧ w.rangeAt g (o + j * 32) (vs t) := by
  have hl : j < tgs.length := (List.getElem?_eq_some_iff.1 hj).1
  obtain ⟨g, o, e, hc⟩ := h.2.2 (by have := h.1; omega)
  refine ⟨h.2.1 t (List.mem_of_getElem? hj), g, o, e, fun k u hu => ?_⟩
  have h1 := hc j t hj k u hu
  rwa [← Nat.add_assoc] at h1
theorem Tg.of_own {base c : Nat} (hl : Long32 tgs) (h : w.ownsRow base 73 32 (.slice A n c) n (rows tgs)) : Tg w A n tgs := by
  have hn : tgs.length = n := by have := h.1; rw [rows_length hl] at this; omega
  refine ⟨hn, hl, fun hpos => ?_⟩
  rcases h.2 with ⟨_, h'⟩ | ⟨g, cap, cur, hv, hbg, hg, hnc, hcm, hsz, htk⟩
  · omega
  · injection hv with hA _ hc
    subst hA; subst hc
    refine ⟨g, 0, rfl, fun j t ht k u hu => ?_⟩
    have hk : k < 32 := by
      have h1 := (List.getElem?_eq_some_iff.1 hu).1
      rw [vs_length, hl t (List.mem_of_getElem? ht)] at h1
      exact h1
    have hj : j < tgs.length := (List.getElem?_eq_some_iff.1 ht).1
    have h1 := rows_get hl j k t ht hk
    have h2 : j * 32 + k < n * 32 := by omega
    rw [cell_of_row w g _ _ _ _ hg, Nat.zero_add, ← Array.getElem?_toList, ← List.getElem?_take_of_lt h2, htk, h1, hu]
end
/-- What a call owns stands where its blocks do. -/
theorem own_at {w w' : World} {base n s : Nat} {e : TypeId} {v : Value} {ys : List Value} (h : w.ownsRow base e s v n ys) (hk : ∀ g, base ≤ g → g < w.heap.size → (∃ cs fr, w.heap[g]? = some (.cells cs e fr)) → v.ownBlock = some g → w'.heap[g]? = w.heap[g]?) : w'.ownsRow base e s v n ys := by
  refine ⟨h.1, ?_⟩
  rcases h.2 with h2 | ⟨g, cap, cur, hv, hbg, hgc, r⟩
  · exact .inl h2
  · exact .inr ⟨g, cap, cur, hv, hbg, (hk g hbg (Array.getElem?_eq_some_iff.1 hgc).1 ⟨_, _, hgc⟩ (by rw [hv]; rfl)).trans hgc, r⟩
theorem own_formS {w : World} {base n s : Nat} {e : TypeId} {v : Value} {ys : List Value} (h : w.ownsRow base e s v n ys) : ∃ A c, v = .slice A n c ∧ n ≤ c ∧ c ≤ maxLen ∧ ∀ g, v.ownBlock = some g → base ≤ g ∧ g < w.heap.size := by
  rcases h.2 with ⟨rfl, rfl⟩ | ⟨g, cap, cur, rfl, hbg, hg, hn, hm, _⟩
  · exact ⟨none, 0, rfl, Nat.le_refl _, by simp [maxLen], fun g h => by cases h⟩
  · exact ⟨some ⟨g, 0, none⟩, cap, rfl, hn, hm, fun g' h' => by
      obtain rfl : g = g' := Option.some.inj h'
      exact ⟨hbg, (Array.getElem?_eq_some_iff.1 hg).1⟩⟩
/-- A result that lies in a variable of one cell. -/
theorem results_cell_one {P : Program} {fn : Func} {p : Tmp} {ty : TypeId} (h : fn.results = #[.cell p ty]) (tmps : Array Value) (w : World) (a : Addr) (v : Value) (hag : (isAgg ty).run P w = .ok false w)
    (hp : tmps.getD p undef = .pointer (some a)) (hc : w.cell? a = some v) : (results fn tmps).run P w = .ok v w := by
  have hp' : tmps[p]?.getD undef = .pointer (some a) := by simpa using hp
  simp [results, h, hp', asAddr, loadVar, hag, hc]
theorem Try.info_tag : (Try.prog.info? 73).map (fun i => (i.zero, i.size, i.bytes)) = some (some (.agg (vs (List.replicate 32 0)).toArray), 32, 32) := by kernel_rfl
set_option maxRecDepth 100000 in
/-- '[]Tag{t}' -/
theorem run_build_tag (w : World) (q : List Value) (hq : q.length = 32) : (Instr.buildSlice 32 1 #[(0, .agg q.toArray)]).run Try.prog w = .ok (.slice (some ⟨w.heap.size, 0, none⟩) 1 1) (w.alloc (.cells q.toArray 73)) := by
  have hi := Try.info_tag
  obtain ⟨i, hi, he⟩ := Option.map_eq_some_iff.1 hi
  injection he with h1 he
  injection he with h2 h3
  refine run_buildSlice (P := Try.prog) w 32 73 1 _ q.toArray i _ Try.underlying32 hi h1 (by omega) (by omega) ?_
  have h := Great.fill_whole (s := 32) (by omega) [.agg q.toArray] ((Array.range (1 * i.size)).map fun x => (Value.agg (vs (List.replicate 32 0)).toArray).cells[x % (Value.agg (vs (List.replicate 32 0)).toArray).cells.size]!) (fun v hv => by
    obtain rfl : v = _ := by simpa using hv
    show q.toArray.size = 32
    simpa using hq) (by simp [h2])
  rw [h2] at h ⊢
  have e : ([Value.agg q.toArray].flatMap fun v => v.cells.toList) = q := by simp [Value.cells]
  rw [e] at h
  exact h
end

section
open Go.RowKit
def kb (k : Int) : UInt8 := UInt8.ofNat (k % 256).toNat
theorem kb_wrap (k : Int) : IntKind.u8.wrap k = ((kb k).toNat : Int) := by
  simp only [IntKind.wrap, IntKind.bits, IntKind.signed]
  unfold kb
  rw [UInt8.toNat_ofNat']
  simp
  omega
theorem kb_mod (k : Int) : k % 256 = ((kb k).toNat : Int) := by
  unfold kb
  rw [UInt8.toNat_ofNat']
  omega

theorem own_one8 {w : World} {x : UInt8} {base : Nat} (hb : base ≤ w.heap.size) : (w.alloc (.cells #[.int .u8 (x.toNat : Int)] 5)).ownsRow base 5 1 (.slice (some ⟨w.heap.size, 0, none⟩) 1 1) 1 (vs [x]) :=
  ⟨rfl, .inr ⟨w.heap.size, 1, _, rfl, hb, heap_alloc_new w _, Nat.le_refl _, by unfold maxLen; omega, rfl, rfl⟩⟩

set_option maxHeartbeats 2000000 in
set_option maxRecDepth 100000 in
theorem text_any (Q : Nat → Prop) (k : Int) (xs : List UInt8) (A : Option Addr) (n c : Nat) (w : World) (h : By w Q A n xs) (hn : n ≤ 1000000) :
    Calls Try.prog 37 #[.int .i64 k, .slice A n c] w fun e w' => ∃ A' c', e = .returned (.slice A' (1 + n) c') ∧ By w' (fun b => w.heap.size ≤ b ∧ b < w'.heap.size) A' (1 + n) (kb k :: xs) ∧ Below w.heap.size w w' := by
  obtain ⟨i0, hi, hz0, hz1, hz2⟩ := info_parts Try.info_u8
  have H := Lib.hid h
  have hwk := kb_wrap k
  have hmk := kb_mod k
  generalize kb k = x at *
  clear h
  go_enter Try.func37, Try.ntmps37
  go_wp2_with (at_builtin; refine wpList_append_by _ rfl (.tmp 7) (.tmp 8) 40 rfl w.heap.size i0 Try.underlying40 hi hz0 hz1 hz2 _ 1 (vs [x]) rfl (own_one8 (Nat.le_refl _)) Q A n c xs rfl (H.out.alloc _) (by omega) (by simp) ?_; intro v1 w1 ho1 hg1 _; have HX1 : Hid (Below w.heap.size w w1) := Lib.hid (((Below.refl _ w).alloc (Nat.le_refl _) _).grown hg1 (by simp) (fun k hk => Option.some.inj hk ▸ Nat.le_refl _)); rw [vs_append] at ho1; obtain ⟨A1, c1, rfl, _⟩ := own_form ho1; have HY1 := Lib.hid ((By.of_own ho1).weak (Q' := fun b => w.heap.size ≤ b ∧ b < w1.heap.size) fun _ h => ⟨h.1, h.2.1⟩); clear ho1 hg1)
  go_ret
  exact ⟨A1, c1, rfl, HY1.out, HX1.out⟩

/-- 0, 1 .. -/
def upTo (m : Nat) : List Int := (List.range m).map fun k : Nat => (k : Int)
def upC (m : Nat) : List Value := (List.range m).map fun k : Nat => Value.int .i64 (k : Int)
theorem upTo_get (m j : Nat) (h : j < m) : (upTo m)[j]? = some (j : Int) := by simp [upTo, h]
theorem upC_get (m j : Nat) (h : j < m) : (upC m)[j]? = some (.int .i64 (j : Int)) := by simp [upC, h]
theorem upTo_length (m : Nat) : (upTo m).length = m := by simp [upTo]
theorem upC_length (m : Nat) : (upC m).length = m := by simp [upC]
theorem upC_succ (m : Nat) : upC m ++ [.int .i64 (m : Int)] = upC (m + 1) := by simp [upC, List.range_succ]
theorem Try.info_int : (Try.prog.info? 3).map (fun i => (i.zero, i.size, i.bytes)) = some (some (.int .i64 0), 1, 8) := by kernel_rfl
theorem Try.vsize_int (w : World) : (sizeOf 3).run Try.prog w = .ok 1 w := by kernel_rfl
theorem Iv.of_blk {w : World} {b m : Nat} {t : TypeId} (h : Blk w b t (upC m)) {Q : Nat → Prop} (hQ : Q b) : Iv w Q (some ⟨b, 0, none⟩) m (upTo m) :=
  ⟨upTo_length m, fun _ => ⟨b, 0, rfl, hQ, fun j u hu => by
    have hj : j < m := by have := (List.getElem?_eq_some_iff.1 hu).1; rwa [upTo_length] at this
    rw [upTo_get m j hj] at hu
    obtain rfl := Option.some.inj hu
    rw [Nat.zero_add, h.cell, upC_get m j hj]⟩⟩
theorem Iv.of_own {w : World} {base c m : Nat} {A : Option Addr} (h : w.ownsRow base 3 1 (.slice A m c) m (upC m)) : Iv w (fun _ => True) A m (upTo m) := by
  refine ⟨upTo_length m, fun hn => ?_⟩
  have h0 := h
  rcases h.2 with ⟨_, h'⟩ | ⟨g, cap, cur, hv, hbg, hg, _⟩
  · omega
  · injection hv with hA _ hc
    subst hA; subst hc
    refine ⟨g, 0, rfl, trivial, fun j u hu => ?_⟩
    have hj : j < m := by have := (List.getElem?_eq_some_iff.1 hu).1; rwa [upTo_length] at this
    rw [upTo_get m j hj] at hu
    obtain rfl := Option.some.inj hu
    rw [Nat.zero_add, h0.cellAt j (by omega), upC_get m j hj]

set_option maxHeartbeats 2000000 in
set_option maxRecDepth 100000 in
theorem all_some (m : Nat) (h1 : 1 ≤ m) (h7 : m ≤ 7) (w : World) :
    Calls Try.prog 28 #[.int .i64 (m : Int)] w fun e w' => e = .returned (.slice (some ⟨w.heap.size, 0, none⟩) m m) ∧ Iv w' (fun b => b = w.heap.size) (some ⟨w.heap.size, 0, none⟩) m (upTo m) ∧ Below w.heap.size w w' := by
  obtain ⟨i0, hi, hz0, hz1, hz2⟩ := info_parts Try.info_int
  have hd1 : decide ((m : Int) < 1) = false := by simp; omega
  have hd2 : decide (7 < (m : Int)) = false := by simp; omega
  have hms : (madeCells #[Value.int .i64 0] m).size = m := by simp [madeCells]
  obtain ⟨old, hold⟩ : ∃ old : List Value, madeCells #[Value.int .i64 0] m = old.toArray := ⟨(madeCells #[Value.int .i64 0] m).toList, by simp⟩
  have hol : old.length = m := by rw [hold] at hms; simpa using hms
  go_enter Try.func28, Try.ntmps28
  go_wp2_with (at_make; refine wpList_make_row _ rfl (.tmp 11) (.tmp 11) 27 rfl 3 i0 (.int .i64 0) Try.underlying27 hi hz0 hz1 rfl .i64 .i64 m rfl rfl (by rw [hz2]; omega) (by omega) ?_; rw [hold])
  go_loopw [14] (fun iv wr => ∃ j : Nat, j ≤ m ∧ iv = .int .i64 j ∧ Blk wr w.heap.size 3 (swp (upC m) old j) ∧ Below w.heap.size w wr) (fun iv _ => m - (intOf iv).toNat)
  case atStart => exact ⟨0, Nat.zero_le _, rfl, Blk.fresh rfl (by rw [swp_0]), (Below.refl _ w).alloc (Nat.le_refl _) _⟩
  case round =>
    obtain ⟨j, hj, rfl, hb, hx⟩ := hrel
    have HB := Lib.hid hb
    have HX := Lib.hid hx
    clear hb hx
    by_cases hlt : j < m
    · have hlen : j < (swp (upC m) old j).length := by simp [swp, upC_length, hol]; omega
      go_wp2_with (refine wpList_store_cell rfl 3 (.tmp 20) (.tmp 19) rfl w.heap.size j (by simp [Act.eval]) (.int .i64 (j : Int)) rfl rfl rfl Try.vsize_int 3 (swp (upC m) old j) HB.out hlen ?_; intro w1 hb1 hg1; rw [swp_set _ _ _ _ (upC_get m j hlt) (by omega)] at hb1)
      go_roundw
      case rel => exact ⟨j + 1, by omega, by go_num, hb1, HX.out.grown hg1 HX.out.size (fun k hk => Option.some.inj hk ▸ Nat.le_refl _)⟩
      case measure => simp [intOf]; omega
    · obtain rfl : j = m := by omega
      go_wp2
      go_ret
      have hb2 := HB.out
      rw [swp_all _ _ _ (upC_length _) hol] at hb2
      exact ⟨rfl, Iv.of_blk hb2 rfl, HX.out⟩

theorem all_none (n : Int) (h : n < 1 ∨ 7 < n) (w : World) :
    Calls Try.prog 28 #[.int .i64 n] w fun e w' => e = .returned (.slice none 0 0) ∧ w = w' := by
  rcases h with h | h
  · have hd1 : decide (n < 1) = true := by simp; omega
    go_enter Try.func28, Try.ntmps28
    go_wp2
    go_ret
    exact ⟨rfl, rfl⟩
  · have hd1 : decide (n < 1) = false := by simp; omega
    have hd2 : decide (7 < n) = true := by simp; omega
    go_enter Try.func28, Try.ntmps28
    go_wp2
    go_ret
    exact ⟨rfl, rfl⟩
end

section
open Go.RowKit
/-- What is known of a Crypto of block g between its calls: it stands behind calls of others, and where other blocks of cells are written. -/
structure Crypt (St : Nat → World → Prop) (g : Nat) : Prop where
  lt : ∀ i w, St i w → g < w.heap.size
  below : ∀ i w w', St i w → Below w.heap.size w w' → St i w'
  cell : ∀ i w w' b, St i w → (∃ cs t fr, w.heap[b]? = some (.cells cs t fr)) → w.grownBy w' (some b) → g < b → St i w'
theorem Crypt.grown {St : Nat → World → Prop} {g i : Nat} (C : Crypt St g) {w w' : World} {v : Value} {base n s : Nat} {e : TypeId} {ys : List Value} (h : St i w) (hown : w.ownsRow base e s v n ys) (hb : g < base) (ho : w.grownBy w' v.ownBlock) : St i w' := by
  rcases hown.2 with ⟨rfl, _⟩ | ⟨b, cap, cur, rfl, hbg, hg, _⟩
  · exact C.below i w w' h ⟨ho.os, ho.tape, ho.output, ho.size, fun k hk => ho.block k hk (fun e => by cases e)⟩
  · exact C.cell i w w' b h ⟨_, _, _, hg⟩ ho (by omega)
theorem KF.grownOwn {g : Nat} {w W W' : World} {v : Value} {base n s : Nat} {e : TypeId} {ys : List Value} (h : KF g w W) (hown : W.ownsRow base e s v n ys) (ho : W.grownBy W' v.ownBlock) (hb : w.heap.size ≤ base) (hg : g < w.heap.size) : KF g w W' := by
  rcases hown.2 with ⟨rfl, _⟩ | ⟨b, cap, cur, rfl, hbg, _⟩
  · exact h.below hg ⟨ho.os, ho.tape, ho.output, ho.size, fun k hk => ho.block k hk (fun e => by cases e)⟩
  · exact h.grownB ho (Nat.le_trans hb hbg) hg
theorem leaves_congr {P : Program} {fn : Func} {tmps tmps' : Array Value} {R : Ending → World → Prop} (he : ∀ w, (results fn tmps).run P w = (results fn tmps').run P w) : ∀ (ds : List Deferred) (u : FrameMode) (w : World), Leaves P fn tmps R ds u w → Leaves P fn tmps' R ds u w
  | [], .returning, w, ⟨v, h1, h2⟩ => ⟨v, (he w).symm.trans h1, h2⟩
  | [], .panicking _, _, h => h
  | [], .run, _, h => h
  | _ :: ds, _, _, ⟨hu, fv, cap, f, args, h1, h2, h3⟩ => ⟨hu, fv, cap, f, args, h1, h2, h3.mono (fun e u' w' h => by
      cases e with
      | returned v => exact leaves_congr he ds _ _ h
      | panicked c => exact leaves_congr he ds _ _ h
      | outgrown => exact h)⟩
/-- A panic of tags: which slot was written last is all one. -/
theorem tags_panic {R : Ending → World → Prop} {c : List PanicEntry} {d : Tmp} (hd : d ≠ 8) {v : Value} {a : Act} {w : World} (h : bodyPostD Try.prog Try.f58 R (.panic c) (a.put (some d) v) w) : bodyPostD Try.prog Try.f58 R (.panic c) a w :=
  leaves_congr (fun w => by
    have e : (a.put (some d) v).tmps[8]? = a.tmps[8]? := by
      simp only [Act.put]
      rw [Array.getElem?_setIfInBounds_ne hd]
    simp [results, Try.results58, e]) _ _ _ h
theorem step_build_one {P : Program} {ops : Array Oper} {o : Oper} {a : Act} {w : World} {K : Act → World → Prop} {Q : Exit → Act → World → Prop} {E : Prop} (hw : Region.wanted o (yielded ops a.tmps) = true) (t : TypeId) (x : Operand) (ho : o.op = .buildSlice t 1 #[(0, x)])
    (v : Value) (hx : a.eval x = v) (r : Value) (w' : World) (hrun : (Instr.buildSlice t 1 #[(0, v)]).run P w = .ok r w') (h : K (a.put o.dst r) w') : if Region.wanted o (yielded ops a.tmps) = true then Oper.wp P o a w K Q else E := by
  rw [if_pos hw]
  unfold Oper.wp execOp
  simp only [ho, Sem.run_bind, List.map_toArray, List.map_cons, List.map_nil, hx, hrun, Result.andThen_ok]
  exact h
theorem row_cell {w : World} {g : Nat} {t : TypeId} {cs : List Value} (h : Blk w g t cs) (j : Nat) (v : Value) (hv : cs[j]? = some v) : w.cell? ((⟨g, 0, none⟩ : Addr).add j) = some v := by
  have ea : (⟨g, 0, none⟩ : Addr).add j = ⟨g, j, none⟩ := by unfold Addr.add; split <;> simp_all
  rw [ea, h.cell, hv]
theorem Try.agg_tags (w : World) : (isAgg 32).run Try.prog w = .ok false w := by kernel_rfl
theorem Try.agg_bool (w : World) : (isAgg 4).run Try.prog w = .ok false w := by kernel_rfl
theorem Try.agg_int (w : World) : (isAgg 3).run Try.prog w = .ok false w := by kernel_rfl
theorem Try.agg_sl (w : World) : (isAgg 40).run Try.prog w = .ok false w := by kernel_rfl
theorem Try.size_tags (w : World) : (sizeOf 32).run Try.prog w = .ok 1 w := by kernel_rfl
theorem Try.size_bool (w : World) : (sizeOf 4).run Try.prog w = .ok 1 w := by kernel_rfl
theorem Tg.kfNe {w w' : World} {A : Option Addr} {n b : Nat} {tgs : List (List UInt8)} (h : Tg w A n tgs) (hf : KF b w w') (hne : ∀ o, A = some o → o.block ≠ b) : Tg w' A n tgs := h.keep fun g _ hb e => hf.cells g (hne _ e.choose_spec) hb

theorem tags1_idle (p : Value) (w : World) :
    CallsD Try.prog 86 #[p] .returning w fun e u' w' => e = .returned (.tuple #[]) ∧ u' = .returning ∧ w' = w := by
  refine callsD_of_wpS Try.func86 rfl fun c₀ cs hu => ?_
  apply wpS_seq
  apply wpS_region
  simp [wpOpsS, go_sem, recoverD, hu, Try.ntmps86, Exit.thenS]
  refine wpS_cond (t := false) (by simp [Act.eval, Array.replicate]) ?_
  simp only [Bool.false_eq_true, if_false]
  refine wpS_of_wp (wp_skip ?_)
  cases c₀
  simp_all [bodyPostS, results, Try.results86]

theorem holds1_idle (p : Value) (w : World) :
    CallsD Try.prog 65 #[p] .returning w fun e u' w' => e = .returned (.tuple #[]) ∧ u' = .returning ∧ w' = w := by
  refine callsD_of_wpS Try.func65 rfl fun c₀ cs hu => ?_
  apply wpS_seq
  apply wpS_region
  simp [wpOpsS, go_sem, recoverD, hu, Try.ntmps65, Exit.thenS]
  refine wpS_cond (t := false) (by simp [Act.eval, Array.replicate]) ?_
  simp only [Bool.false_eq_true, if_false]
  refine wpS_of_wp (wp_skip ?_)
  cases c₀
  simp_all [bodyPostS, results, Try.results65]

set_option maxHeartbeats 4000000 in
set_option maxRecDepth 100000 in
theorem tags_nil (f : Int) (T : Option Addr) (tn tc : Nat) (A : Option Addr) (n c : Nat) (w : World) :
    Calls Try.prog 58 #[.nilIface, .int .i64 f, .slice T tn tc, .slice A n c] w fun e w' => e = .returned (.slice none 0 0) ∧ Below w.heap.size w w' := by
  have hmf : ∀ (fn : Fn) (first cap : Array Value) (w : World), (Instr.makeFunc fn first cap).run Try.prog w = .ok (.func fn first cap) w := fun _ _ _ _ => rfl
  go_enter_defers Try.func58, Try.ntmps58
  go_wp2_with (refine wpList_store_cell rfl 32 (.tmp 8) (.const (.slice none 0 0)) rfl w.heap.size 0 rfl (.slice none 0 0) rfl rfl rfl Try.size_tags 32 [.slice none 0 0] (Blk.fresh rfl (by kernel_rfl)) (by simp) ?_; intro w1 hb1 hg1; have HB1 : Hid (Blk w1 w.heap.size 32 [.slice none 0 0]) := Lib.hid hb1; have HX1 := Lib.hid (below_new hg1); clear hb1 hg1)
  refine leaves_cons (f := 86) (args := #[.pointer (some ⟨w.heap.size, 0, none⟩)]) (by simp) (by simp [go_sem]) ?_
  refine (tags1_idle _ _).mono ?_
  rintro e u' w'' ⟨rfl, rfl, rfl⟩
  exact ⟨_, results_cell_one rfl _ _ ⟨w.heap.size, 0, none⟩ (.slice none 0 0) (Try.agg_tags _) rfl (HB1.out.cellAt rfl), rfl, HX1.out⟩

set_option maxHeartbeats 4000000 in
set_option maxRecDepth 100000 in
theorem holds_nil (f to_ : Int) (T : Option Addr) (tn tc : Nat) (tg : List UInt8) (w : World) :
    Calls Try.prog 35 #[.nilIface, .int .i64 f, .int .i64 to_, .slice T tn tc, .agg (vs tg).toArray] w fun e w' => e = .returned (.bool false) ∧ Below w.heap.size w w' := by
  have hmf : ∀ (fn : Fn) (first cap : Array Value) (w : World), (Instr.makeFunc fn first cap).run Try.prog w = .ok (.func fn first cap) w := fun _ _ _ _ => rfl
  generalize vs tg = q
  go_enter_defers Try.func35, Try.ntmps35
  go_wp2_with (refine wpList_store_cell rfl 4 (.tmp 10) (.tmp 21) rfl (w.heap.size + 1) 0 rfl (.bool false) rfl rfl rfl Try.size_bool 4 [.bool false] (Blk.fresh (by simp) (by kernel_rfl)) (by simp) ?_; intro w1 hb1 hg1; have HB1 : Hid (Blk w1 (w.heap.size + 1) 4 [.bool false]) := Lib.hid hb1; have HX1 : Hid (Below w.heap.size w w1) := Lib.hid ((((Below.refl _ w).alloc (Nat.le_refl _) _).alloc (by simp) _).grown hg1 (by simp only [World.size_alloc]; omega) (fun k hk => Option.some.inj hk ▸ Nat.le_succ _)); clear hb1 hg1)
  refine leaves_cons (f := 65) (args := #[.pointer (some ⟨w.heap.size + 1, 0, none⟩)]) (by simp) (by simp [go_sem]) ?_
  refine (holds1_idle _ _).mono ?_
  rintro e u' w'' ⟨rfl, rfl, rfl⟩
  exact ⟨_, results_cell_one rfl _ _ ⟨w.heap.size + 1, 0, none⟩ (.bool false) (Try.agg_bool _) rfl (HB1.out.cellAt rfl), rfl, HX1.out⟩
end

section
open Go.RowKit
theorem own_caps_ {w : World} {B s n c : Nat} {e : TypeId} {A : Option Addr} {ys : List Value} (h : w.ownsRow B e s (.slice A n c) n ys) : n ≤ c ∧ c ≤ maxLen := by
  rcases h.2 with ⟨h1, h2⟩ | ⟨g, cap, cur, h1, _, _, h2, h3, _⟩
  · injection h1 with _ _ e3
    subst e3
    exact ⟨by omega, Nat.zero_le _⟩
  · injection h1 with _ _ e3
    subst e3
    exact ⟨h2, h3⟩
set_option maxHeartbeats 4000000 in
set_option maxRecDepth 100000 in
theorem tags_B (St : Nat → World → Prop) (g : Nat) (C : Crypt St g) (f : Int) (text : List UInt8) (tos : List Int) (tg : Nat → List UInt8) (htl : ∀ i, (tg i).length = 32) (Q Q' : Nat → Prop) (hQ : ∀ k, Q k → k ≠ g) (hQ' : ∀ k, Q' k → k ≠ g)
    (T : Option Addr) (tn tc : Nat) (A : Option Addr) (n c : Nat) (hn : n ≤ 100000) (w : World) (hst : St 0 w) (hyt : By w Q T tn text) (hya : Iv w Q' A n tos)
    (htag : ∀ W i, i < n → St i W → By W Q T tn text → Calls Try.prog 118 #[.pointer (some ⟨g, 0, none⟩), .int .i64 f, .int .i64 (tos.getD i 0), .slice T tn tc] W fun e w' => e = .returned (.agg (vs (tg i)).toArray) ∧ St (i + 1) w' ∧ KF g W w') :
    Calls Try.prog 58 #[.iface 53 (.pointer (some ⟨g, 0, none⟩)), .int .i64 f, .slice T tn tc, .slice A n c] w fun e w' => ∃ A' c', e = .returned (.slice A' n c') ∧ (Tg w' A' n ((List.range n).map tg) ∧ n ≤ c' ∧ c' ≤ maxLen) ∧ (∀ o, A' = some o → w.heap.size ≤ o.block) ∧ St n w' ∧ KF g w w' := by
  have hmf : ∀ (fn : Fn) (first cap : Array Value) (w : World), (Instr.makeFunc fn first cap).run Try.prog w = .ok (.func fn first cap) w := fun _ _ _ _ => rfl
  obtain ⟨i0, hi, hz0, hz1, hz2⟩ := info_parts Try.info_tag
  have hg := C.lt 0 w hst
  have HS := Lib.hid hst
  have HT := Lib.hid hyt
  have HA := Lib.hid hya
  have HTag := Lib.hid htag
  have hl32 : ∀ i, Long32 ((List.range i).map tg) := fun i t ht => by
    obtain ⟨k, _, rfl⟩ := List.mem_map.1 ht
    exact htl k
  have hsn : ∀ i, rows ((List.range i).map tg) ++ vs (tg i) = rows ((List.range (i + 1)).map tg) := fun i => by
    rw [← rows_snoc, List.range_succ, List.map_append]
    rfl
  clear hst hyt hya htag
  go_enter_defers Try.func58, Try.ntmps58
  go_wp2
  obtain ⟨b8, hb8⟩ : ∃ b8, b8 = w.heap.size := ⟨_, rfl⟩
  have hB0 : Blk (w.alloc (.cells #[.slice none 0 0] 32)) b8 32 [.slice none 0 0] := Blk.fresh hb8 rfl
  have hx0 : Below w.heap.size w (w.alloc (.cells #[.slice none 0 0] 32)) := (Below.refl _ w).alloc (Nat.le_refl _) _
  have hS0 := C.below _ _ _ HS.out hx0
  have h8w : w.heap.size ≤ b8 := by omega
  have h8g : b8 ≠ g := by omega
  have hg8 : g < b8 := by omega
  have hgb : g < b8 + 1 := by omega
  rw [← hb8]
  go_loopw [16] (fun iv wr => ∃ (i : Nat) (v : Value), i ≤ n ∧ iv = .int .i64 i ∧ St i wr ∧ Blk wr b8 32 [v] ∧ wr.ownsRow (b8 + 1) 73 32 v i (rows ((List.range i).map tg)) ∧ KF g w wr) (fun iv _ => n - (intOf iv).toNat)
  case atStart => exact ⟨0, .slice none 0 0, Nat.zero_le _, rfl, hS0, hB0, World.ownsRow_nil _ _ _ _, KF.of_below hg hx0⟩
  case round =>
    obtain ⟨i, v, hin, rfl, hs, hb, ho, hf⟩ := hrel
    have KS := Lib.hid hs
    have KB := Lib.hid hb
    have KO := Lib.hid ho
    have KX := Lib.hid hf
    have hsz : b8 + 1 ≤ wr.heap.size := KB.out.lt
    clear hs hb ho hf hS0 hB0 hx0 hb8
    by_cases hlt : i < n
    · obtain ⟨ba, oa, rfl, hqa, hca⟩ := (HA.out.kf KX.out hQ').cell (by omega)
      have hci := hca i hlt
      have htg := HTag.out
      have hcall := fun W => HTag.out W i hlt
      clear htg hca
      obtain ⟨u, hu⟩ : ∃ u, u = tos.getD i 0 := ⟨_, rfl⟩
      rw [← hu] at hci hcall
      obtain ⟨q, hq⟩ : ∃ q, q = vs (tg i) := ⟨_, rfl⟩
      have hql : q.length = 32 := by rw [hq, vs_length, htl]
      have hqo : ∀ u ∈ q, u.oneCell' = true := fun u hu => by rw [hq] at hu; exact vs_one u hu
      have hsi := hsn i
      rw [← hq] at hcall hsi
      have HCall := Lib.hid hcall
      have HQl := Lib.hid hql
      have HQo := Lib.hid hqo
      have HSn := Lib.hid hsi
      clear hcall hu hq hql hqo hsi
      go_wp2
      try dsimp only [Act.put]
      have HSp := Lib.hid (C.below _ _ _ KS.out ((Below.refl _ wr).drew))
      have HBp := Lib.hid KB.out.drew
      have HOp : Hid (wr.drew.ownsRow (b8 + 1) 73 32 v i (rows ((List.range i).map tg))) := Lib.hid KO.out
      refine wp_region_held_drew (S := fun _ => True) (by kernel_rfl) trivial (fun hHeld => ?_)
      change wpAnyH _ _ _ _ _ _ #[false, false, false, false, false, false, false, false, false] _ _
      refine wpAnyH_take (i := 1) (v := (.iface 53 (.pointer (some ⟨g, 0, none⟩)))) rfl (by kernel_rfl) (by kernel_rfl) (by kernel_rfl) (fun _ _ _ h => tags_panic (d := 21) (by decide) h) (Or.inl ⟨by kernel_rfl, fun w hSw => ?_⟩) (by assumption) ?_
      · (try dsimp only at hSw); go_simp <;> (try rfl)
      change wpAnyH _ _ _ _ _ _ _ (Act.put _ (some (21 : Nat)) (.iface 53 (.pointer (some ⟨g, 0, none⟩)))) _
      simp only [Act.put, List.setIfInBounds_toArray, List.set_cons_zero, List.set_cons_succ]
      refine wpAnyH_take (i := 2) (v := (.int .i64 f)) rfl (by kernel_rfl) (by kernel_rfl) (by kernel_rfl) (fun _ _ _ h => tags_panic (d := 22) (by decide) h) (Or.inl ⟨by kernel_rfl, fun w hSw => ?_⟩) (by assumption) ?_
      · (try dsimp only at hSw); go_simp <;> (try rfl)
      change wpAnyH _ _ _ _ _ _ _ (Act.put _ (some (22 : Nat)) (.int .i64 f)) _
      simp only [Act.put, List.setIfInBounds_toArray, List.set_cons_zero, List.set_cons_succ]
      refine wpAnyH_take (i := 3) (v := (.int .i64 u)) rfl (by kernel_rfl) (by kernel_rfl) (by kernel_rfl) (fun _ _ _ h => tags_panic (d := 23) (by decide) h) (Or.inl ⟨by kernel_rfl, fun w hSw => ?_⟩) (by assumption) ?_
      · (try dsimp only at hSw); go_simp <;> (try rfl)
      change wpAnyH _ _ _ _ _ _ _ (Act.put _ (some (23 : Nat)) (.int .i64 u)) _
      simp only [Act.put, List.setIfInBounds_toArray, List.set_cons_zero, List.set_cons_succ]
      refine wpAnyH_take (i := 4) (v := (.slice T tn tc)) rfl (by kernel_rfl) (by kernel_rfl) (by kernel_rfl) (fun _ _ _ h => tags_panic (d := 24) (by decide) h) (Or.inl ⟨by kernel_rfl, fun w hSw => ?_⟩) (by assumption) ?_
      · (try dsimp only at hSw); go_simp <;> (try rfl)
      change wpAnyH _ _ _ _ _ _ _ (Act.put _ (some (24 : Nat)) (.slice T tn tc)) _
      simp only [Act.put, List.setIfInBounds_toArray, List.set_cons_zero, List.set_cons_succ]
      refine wpAnyH_ready (rs := [0, 5]) (by kernel_rfl) (by simp) ?_
      refine AllReadyH.cons (o := ⟨some 20, .load 32 (.tmp 8), _, _, _, none⟩) rfl (fun K hK => ?_) (AllReadyH.cons rfl (fun K hK => ?_) AllReadyH.nil)
      · as_aux_lemma =>
        refine step_load_at rfl 32 (.tmp 8) rfl (.pointer (some ⟨b8, 0, none⟩)) (by simp [Act.eval]) v (load_one' (Try.agg_tags _) (HBp.out.cellAt rfl)) ?_
        refine hK.out _ _ trivial (fun hHeld1 => ?_)
        clear hHeld hK K
        have hHeld := hHeld1
        clear hHeld1
        change wpAnyH _ _ _ _ _ _ _ (Act.put _ (some (20 : Nat)) v) _
        simp only [Act.put, List.setIfInBounds_toArray, List.set_cons_zero, List.set_cons_succ]
        refine wpAnyH_ready (rs := [5]) (by kernel_rfl) (by simp) ?_
        refine AllReadyH.cons rfl (fun K hK => ?_) AllReadyH.nil
        go_simp
        refine (HCall.out _ HSp.out (HT.out.kf KX.out hQ).drew).mono ?_
        rintro e wa ⟨rfl, hs, hf⟩; have HSa := Lib.hid hs; have HBa := Lib.hid (hf.blk HBp.out h8g); have HOa := Lib.hid (own_at HOp.out (fun k hk _ hc _ => hf.cells k (by omega) ⟨_, _, _, hc.choose_spec.choose_spec⟩)); have HXa := Lib.hid (KX.out.drew.trans hf); have hza : b8 + 1 ≤ wa.heap.size := HBa.out.lt; clear hs hf
        go_wp2_with fail
        refine hK.out _ _ trivial (fun hHeld1 => ?_)
        clear hHeld hK K
        have hHeld := hHeld1
        clear hHeld1
        refine wpAnyH_ready (rs := [6]) (by kernel_rfl) (by simp) ?_
        refine AllReadyH.cons (o := ⟨some 26, .buildSlice 32 1 #[(0, .tmp 25)], _, _, _, none⟩) rfl (fun K hK => ?_) AllReadyH.nil
        refine step_build_one (by kernel_rfl) 32 (.tmp 25) rfl (.agg q.toArray) (by simp [Act.eval]) (.slice (some ⟨wa.heap.size, 0, none⟩) 1 1) (wa.alloc (.cells q.toArray 73)) (run_build_tag wa q HQl.out) ?_; have HSb := Lib.hid (C.below _ _ _ HSa.out ((Below.refl _ wa).alloc (Nat.le_refl _) (.cells q.toArray 73))); have HBb := Lib.hid (HBa.out.alloc (.cells q.toArray 73)); have HOb := Lib.hid (own_at (w' := wa.alloc (.cells q.toArray 73)) HOa.out (fun k _ hl _ _ => Below.heap_alloc wa _ k hl)); have HXb := Lib.hid (HXa.out.alloc hg (.cells q.toArray 73))
        refine hK.out _ _ trivial (fun hHeld1 => ?_)
        clear hHeld hK K
        have hHeld := hHeld1
        clear hHeld1
        change wpAnyH _ _ _ _ _ _ _ (Act.put _ (some (26 : Nat)) (.slice (some ⟨wa.heap.size, 0, none⟩) 1 1)) _
        simp only [Act.put, List.setIfInBounds_toArray, List.set_cons_zero, List.set_cons_succ]
        refine wpAnyH_ready (rs := [7]) (by kernel_rfl) (by simp) ?_
        refine AllReadyH.cons (o := ⟨some 27, .call { callee := .builtin .append, args := #[.tmp 20, .tmp 26], argTypes := #[32, 32] }, _, _, _, none⟩) rfl (fun K hK => ?_) AllReadyH.nil
        refine step_append_lies (wa.alloc (.cells q.toArray 73)) rfl (.tmp 20) (.tmp 26) 32 rfl (b8 + 1) 73 i0 _ 32 32 Try.underlying32 hi hz0 hz1 hz2 (by kernel_rfl) (by decide) v i _ (by simp [Act.eval]) HOb.out ⟨wa.heap.size, 0, none⟩ 1 1 q (by simp [Act.eval]) (by rw [HQl.out]) (fun j y hy => row_cell (Blk.fresh rfl rfl) j y hy) HQo.out (by omega) (by unfold maxLen; omega) (by omega) (by simp; omega) _ rfl ?_; intro gc cap wc hoc hgc _ _; have HSc := Lib.hid (C.grown HSb.out HOb.out hgb hgc); have HBc := Lib.hid (HBb.out.grown hgc (fun e => by have := (own_formS HOb.out).choose_spec.choose_spec.2.2.2 _ e.symm; omega)); rw [HSn.out] at hoc; have HOc := Lib.hid hoc; have HXc := Lib.hid (HXb.out.grownOwn HOb.out hgc (by omega) hg); clear hoc hgc
        refine hK.out _ _ trivial (fun hHeld1 => ?_)
        clear hHeld hK K
        have hHeld := hHeld1
        clear hHeld1
        change wpAnyH _ _ _ _ _ _ _ (Act.put _ (some (27 : Nat)) (.slice (some ⟨gc, 0, none⟩) (i + 1) cap)) _
        simp only [Act.put, List.setIfInBounds_toArray, List.set_cons_zero, List.set_cons_succ]
        refine wpAnyH_ready (rs := [8]) (by kernel_rfl) (by simp) ?_
        refine AllReadyH.cons (o := ⟨none, .store 32 (.tmp 8) (.tmp 27), _, _, _, none⟩) rfl (fun K hK => ?_) AllReadyH.nil
        refine step_store_cell (by kernel_rfl) 32 (.tmp 8) (.tmp 27) rfl b8 0 (by simp [Act.eval]) (.slice (some ⟨gc, 0, none⟩) (i + 1) cap) (by simp [Act.eval]) rfl rfl Try.size_tags 32 [v] HBc.out (by simp) ?_; intro wd hbd hgd; have HBd : Hid (Blk wd b8 32 [.slice (some ⟨gc, 0, none⟩) (i + 1) cap]) := Lib.hid hbd; have HSd := Lib.hid (C.cell _ _ _ _ HSc.out ⟨_, _, _, HBc.out⟩ hgd hg8); have HOd := Lib.hid (own_at HOc.out (fun k hk hl _ _ => hgd.block k hl (fun e => by have := Option.some.inj e; omega))); have HXd := Lib.hid (HXc.out.grownB hgd h8w hg); clear hbd hgd
        refine hK.out _ _ trivial (fun hHeld1 => ?_)
        clear hHeld hK K
        have hHeld := hHeld1
        clear hHeld1
        change wpAnyH _ _ _ _ _ _ _ (Act.put _ none undef) _
        simp only [Act.put]
        refine wpAnyH_done (by kernel_rfl) ?_ _
        go_wp2
        go_roundw
        case rel => exact ⟨i + 1, _, by omega, by go_num, HSd.out, HBd.out, HOd.out, HXd.out⟩
        case measure => simp [intOf]; omega
      · as_aux_lemma =>
        go_simp
        refine (HCall.out _ HSp.out (HT.out.kf KX.out hQ).drew).mono ?_
        rintro e wa ⟨rfl, hs, hf⟩; have HSa := Lib.hid hs; have HBa := Lib.hid (hf.blk HBp.out h8g); have HOa := Lib.hid (own_at HOp.out (fun k hk _ hc _ => hf.cells k (by omega) ⟨_, _, _, hc.choose_spec.choose_spec⟩)); have HXa := Lib.hid (KX.out.drew.trans hf); have hza : b8 + 1 ≤ wa.heap.size := HBa.out.lt; clear hs hf
        go_wp2_with fail
        refine hK.out _ _ trivial (fun hHeld1 => ?_)
        clear hHeld hK K
        have hHeld := hHeld1
        clear hHeld1
        refine wpAnyH_ready (rs := [0, 6]) (by kernel_rfl) (by simp) ?_
        refine AllReadyH.cons (o := ⟨some 20, .load 32 (.tmp 8), _, _, _, none⟩) rfl (fun K hK => ?_) (AllReadyH.cons (o := ⟨some 26, .buildSlice 32 1 #[(0, .tmp 25)], _, _, _, none⟩) rfl (fun K hK => ?_) AllReadyH.nil)
        · as_aux_lemma =>
          refine step_load_at rfl 32 (.tmp 8) rfl (.pointer (some ⟨b8, 0, none⟩)) (by simp [Act.eval]) v (load_one' (Try.agg_tags _) (HBa.out.cellAt rfl)) ?_
          refine hK.out _ _ trivial (fun hHeld1 => ?_)
          clear hHeld hK K
          have hHeld := hHeld1
          clear hHeld1
          change wpAnyH _ _ _ _ _ _ _ (Act.put _ (some (20 : Nat)) v) _
          simp only [Act.put, List.setIfInBounds_toArray, List.set_cons_zero, List.set_cons_succ]
          refine wpAnyH_ready (rs := [6]) (by kernel_rfl) (by simp) ?_
          refine AllReadyH.cons (o := ⟨some 26, .buildSlice 32 1 #[(0, .tmp 25)], _, _, _, none⟩) rfl (fun K hK => ?_) AllReadyH.nil
          refine step_build_one (by kernel_rfl) 32 (.tmp 25) rfl (.agg q.toArray) (by simp [Act.eval]) (.slice (some ⟨wa.heap.size, 0, none⟩) 1 1) (wa.alloc (.cells q.toArray 73)) (run_build_tag wa q HQl.out) ?_; have HSb := Lib.hid (C.below _ _ _ HSa.out ((Below.refl _ wa).alloc (Nat.le_refl _) (.cells q.toArray 73))); have HBb := Lib.hid (HBa.out.alloc (.cells q.toArray 73)); have HOb := Lib.hid (own_at (w' := wa.alloc (.cells q.toArray 73)) HOa.out (fun k _ hl _ _ => Below.heap_alloc wa _ k hl)); have HXb := Lib.hid (HXa.out.alloc hg (.cells q.toArray 73))
          refine hK.out _ _ trivial (fun hHeld1 => ?_)
          clear hHeld hK K
          have hHeld := hHeld1
          clear hHeld1
          change wpAnyH _ _ _ _ _ _ _ (Act.put _ (some (26 : Nat)) (.slice (some ⟨wa.heap.size, 0, none⟩) 1 1)) _
          simp only [Act.put, List.setIfInBounds_toArray, List.set_cons_zero, List.set_cons_succ]
          refine wpAnyH_ready (rs := [7]) (by kernel_rfl) (by simp) ?_
          refine AllReadyH.cons (o := ⟨some 27, .call { callee := .builtin .append, args := #[.tmp 20, .tmp 26], argTypes := #[32, 32] }, _, _, _, none⟩) rfl (fun K hK => ?_) AllReadyH.nil
          refine step_append_lies (wa.alloc (.cells q.toArray 73)) rfl (.tmp 20) (.tmp 26) 32 rfl (b8 + 1) 73 i0 _ 32 32 Try.underlying32 hi hz0 hz1 hz2 (by kernel_rfl) (by decide) v i _ (by simp [Act.eval]) HOb.out ⟨wa.heap.size, 0, none⟩ 1 1 q (by simp [Act.eval]) (by rw [HQl.out]) (fun j y hy => row_cell (Blk.fresh rfl rfl) j y hy) HQo.out (by omega) (by unfold maxLen; omega) (by omega) (by simp; omega) _ rfl ?_; intro gc cap wc hoc hgc _ _; have HSc := Lib.hid (C.grown HSb.out HOb.out hgb hgc); have HBc := Lib.hid (HBb.out.grown hgc (fun e => by have := (own_formS HOb.out).choose_spec.choose_spec.2.2.2 _ e.symm; omega)); rw [HSn.out] at hoc; have HOc := Lib.hid hoc; have HXc := Lib.hid (HXb.out.grownOwn HOb.out hgc (by omega) hg); clear hoc hgc
          refine hK.out _ _ trivial (fun hHeld1 => ?_)
          clear hHeld hK K
          have hHeld := hHeld1
          clear hHeld1
          change wpAnyH _ _ _ _ _ _ _ (Act.put _ (some (27 : Nat)) (.slice (some ⟨gc, 0, none⟩) (i + 1) cap)) _
          simp only [Act.put, List.setIfInBounds_toArray, List.set_cons_zero, List.set_cons_succ]
          refine wpAnyH_ready (rs := [8]) (by kernel_rfl) (by simp) ?_
          refine AllReadyH.cons (o := ⟨none, .store 32 (.tmp 8) (.tmp 27), _, _, _, none⟩) rfl (fun K hK => ?_) AllReadyH.nil
          refine step_store_cell (by kernel_rfl) 32 (.tmp 8) (.tmp 27) rfl b8 0 (by simp [Act.eval]) (.slice (some ⟨gc, 0, none⟩) (i + 1) cap) (by simp [Act.eval]) rfl rfl Try.size_tags 32 [v] HBc.out (by simp) ?_; intro wd hbd hgd; have HBd : Hid (Blk wd b8 32 [.slice (some ⟨gc, 0, none⟩) (i + 1) cap]) := Lib.hid hbd; have HSd := Lib.hid (C.cell _ _ _ _ HSc.out ⟨_, _, _, HBc.out⟩ hgd hg8); have HOd := Lib.hid (own_at HOc.out (fun k hk hl _ _ => hgd.block k hl (fun e => by have := Option.some.inj e; omega))); have HXd := Lib.hid (HXc.out.grownB hgd h8w hg); clear hbd hgd
          refine hK.out _ _ trivial (fun hHeld1 => ?_)
          clear hHeld hK K
          have hHeld := hHeld1
          clear hHeld1
          change wpAnyH _ _ _ _ _ _ _ (Act.put _ none undef) _
          simp only [Act.put]
          refine wpAnyH_done (by kernel_rfl) ?_ _
          go_wp2
          go_roundw
          case rel => exact ⟨i + 1, _, by omega, by go_num, HSd.out, HBd.out, HOd.out, HXd.out⟩
          case measure => simp [intOf]; omega
        · as_aux_lemma =>
          refine step_build_one (by kernel_rfl) 32 (.tmp 25) rfl (.agg q.toArray) (by simp [Act.eval]) (.slice (some ⟨wa.heap.size, 0, none⟩) 1 1) (wa.alloc (.cells q.toArray 73)) (run_build_tag wa q HQl.out) ?_; have HSb := Lib.hid (C.below _ _ _ HSa.out ((Below.refl _ wa).alloc (Nat.le_refl _) (.cells q.toArray 73))); have HBb := Lib.hid (HBa.out.alloc (.cells q.toArray 73)); have HOb := Lib.hid (own_at (w' := wa.alloc (.cells q.toArray 73)) HOa.out (fun k _ hl _ _ => Below.heap_alloc wa _ k hl)); have HXb := Lib.hid (HXa.out.alloc hg (.cells q.toArray 73))
          refine hK.out _ _ trivial (fun hHeld1 => ?_)
          clear hHeld hK K
          have hHeld := hHeld1
          clear hHeld1
          change wpAnyH _ _ _ _ _ _ _ (Act.put _ (some (26 : Nat)) (.slice (some ⟨wa.heap.size, 0, none⟩) 1 1)) _
          simp only [Act.put, List.setIfInBounds_toArray, List.set_cons_zero, List.set_cons_succ]
          refine wpAnyH_ready (rs := [0]) (by kernel_rfl) (by simp) ?_
          refine AllReadyH.cons (o := ⟨some 20, .load 32 (.tmp 8), _, _, _, none⟩) rfl (fun K hK => ?_) AllReadyH.nil
          refine step_load_at rfl 32 (.tmp 8) rfl (.pointer (some ⟨b8, 0, none⟩)) (by simp [Act.eval]) v (load_one' (Try.agg_tags _) (HBb.out.cellAt rfl)) ?_
          refine hK.out _ _ trivial (fun hHeld1 => ?_)
          clear hHeld hK K
          have hHeld := hHeld1
          clear hHeld1
          change wpAnyH _ _ _ _ _ _ _ (Act.put _ (some (20 : Nat)) v) _
          simp only [Act.put, List.setIfInBounds_toArray, List.set_cons_zero, List.set_cons_succ]
          refine wpAnyH_ready (rs := [7]) (by kernel_rfl) (by simp) ?_
          refine AllReadyH.cons (o := ⟨some 27, .call { callee := .builtin .append, args := #[.tmp 20, .tmp 26], argTypes := #[32, 32] }, _, _, _, none⟩) rfl (fun K hK => ?_) AllReadyH.nil
          refine step_append_lies (wa.alloc (.cells q.toArray 73)) rfl (.tmp 20) (.tmp 26) 32 rfl (b8 + 1) 73 i0 _ 32 32 Try.underlying32 hi hz0 hz1 hz2 (by kernel_rfl) (by decide) v i _ (by simp [Act.eval]) HOb.out ⟨wa.heap.size, 0, none⟩ 1 1 q (by simp [Act.eval]) (by rw [HQl.out]) (fun j y hy => row_cell (Blk.fresh rfl rfl) j y hy) HQo.out (by omega) (by unfold maxLen; omega) (by omega) (by simp; omega) _ rfl ?_; intro gc cap wc hoc hgc _ _; have HSc := Lib.hid (C.grown HSb.out HOb.out hgb hgc); have HBc := Lib.hid (HBb.out.grown hgc (fun e => by have := (own_formS HOb.out).choose_spec.choose_spec.2.2.2 _ e.symm; omega)); rw [HSn.out] at hoc; have HOc := Lib.hid hoc; have HXc := Lib.hid (HXb.out.grownOwn HOb.out hgc (by omega) hg); clear hoc hgc
          refine hK.out _ _ trivial (fun hHeld1 => ?_)
          clear hHeld hK K
          have hHeld := hHeld1
          clear hHeld1
          change wpAnyH _ _ _ _ _ _ _ (Act.put _ (some (27 : Nat)) (.slice (some ⟨gc, 0, none⟩) (i + 1) cap)) _
          simp only [Act.put, List.setIfInBounds_toArray, List.set_cons_zero, List.set_cons_succ]
          refine wpAnyH_ready (rs := [8]) (by kernel_rfl) (by simp) ?_
          refine AllReadyH.cons (o := ⟨none, .store 32 (.tmp 8) (.tmp 27), _, _, _, none⟩) rfl (fun K hK => ?_) AllReadyH.nil
          refine step_store_cell (by kernel_rfl) 32 (.tmp 8) (.tmp 27) rfl b8 0 (by simp [Act.eval]) (.slice (some ⟨gc, 0, none⟩) (i + 1) cap) (by simp [Act.eval]) rfl rfl Try.size_tags 32 [v] HBc.out (by simp) ?_; intro wd hbd hgd; have HBd : Hid (Blk wd b8 32 [.slice (some ⟨gc, 0, none⟩) (i + 1) cap]) := Lib.hid hbd; have HSd := Lib.hid (C.cell _ _ _ _ HSc.out ⟨_, _, _, HBc.out⟩ hgd hg8); have HOd := Lib.hid (own_at HOc.out (fun k hk hl _ _ => hgd.block k hl (fun e => by have := Option.some.inj e; omega))); have HXd := Lib.hid (HXc.out.grownB hgd h8w hg); clear hbd hgd
          refine hK.out _ _ trivial (fun hHeld1 => ?_)
          clear hHeld hK K
          have hHeld := hHeld1
          clear hHeld1
          change wpAnyH _ _ _ _ _ _ _ (Act.put _ none undef) _
          simp only [Act.put]
          refine wpAnyH_done (by kernel_rfl) ?_ _
          go_wp2
          go_roundw
          case rel => exact ⟨i + 1, _, by omega, by go_num, HSd.out, HBd.out, HOd.out, HXd.out⟩
          case measure => simp [intOf]; omega
    · obtain rfl : i = n := by omega
      obtain ⟨A1, c1, rfl, _, _, hblk⟩ := own_formS KO.out
      have hc8 : wr.cell? ⟨b8, 0, none⟩ = some (.slice A1 i c1) := KB.out.cellAt rfl
      go_wp2_with (refine wpList_store_cell rfl 32 (.tmp 8) (.tmp 29) rfl b8 0 rfl (.slice A1 i c1) rfl rfl rfl Try.size_tags 32 [.slice A1 i c1] KB.out (by simp) ?_; intro w1 hb1 hg1; have HB1 : Hid (Blk w1 b8 32 [.slice A1 i c1]) := Lib.hid hb1; have HS1 := Lib.hid (C.cell _ _ _ _ KS.out ⟨_, _, _, KB.out⟩ hg1 hg8); have HO1 := Lib.hid (own_at KO.out (fun k hk hl _ _ => hg1.block k hl (fun e => by have := Option.some.inj e; omega))); have HX1 := Lib.hid (KX.out.grownB hg1 h8w hg); clear hb1 hg1)
      refine leaves_cons (f := 86) (args := #[.pointer (some ⟨b8, 0, none⟩)]) (by simp) (by simp [go_sem]) ?_
      refine (tags1_idle _ _).mono ?_
      rintro e u' w'' ⟨rfl, rfl, rfl⟩
      exact ⟨_, results_cell_one rfl _ _ ⟨b8, 0, none⟩ (.slice A1 i c1) (Try.agg_tags _) rfl (HB1.out.cellAt rfl), A1, c1, rfl, ⟨Tg.of_own (hl32 i) HO1.out, own_caps_ HO1.out⟩, fun oo eo => (by subst eo; have h1 := (hblk _ rfl).1; show w.heap.size ≤ oo.block; have h2 : b8 + 1 ≤ oo.block := h1; omega), HS1.out, HX1.out⟩

set_option maxHeartbeats 4000000 in
set_option maxRecDepth 100000 in
theorem holds_B (St : Nat → World → Prop) (g i : Nat) (C : Crypt St g) (f to_ : Int) (text tg : List UInt8) (bb : Bool) (htg : tg.length = 32) (Q : Nat → Prop) (T : Option Addr) (tn tc : Nat) (w : World) (hst : St i w) (hyt : By w Q T tn text)
    (hchk : ∀ W, St i W → By W Q T tn text → Calls Try.prog 115 #[.pointer (some ⟨g, 0, none⟩), .int .i64 f, .int .i64 to_, .slice T tn tc, .agg (vs tg).toArray] W fun e w' => e = .returned (.bool bb) ∧ St i w' ∧ KF g W w') :
    Calls Try.prog 35 #[.iface 53 (.pointer (some ⟨g, 0, none⟩)), .int .i64 f, .int .i64 to_, .slice T tn tc, .agg (vs tg).toArray] w fun e w' => e = .returned (.bool bb) ∧ St i w' ∧ KF g w w' := by
  have hmf : ∀ (fn : Fn) (first cap : Array Value) (w : World), (Instr.makeFunc fn first cap).run Try.prog w = .ok (.func fn first cap) w := fun _ _ _ _ => rfl
  have hg := C.lt i w hst
  obtain ⟨q, hq⟩ : ∃ q, q = vs tg := ⟨_, rfl⟩
  have hql : q.length = 32 := by rw [hq, vs_length, htg]
  rw [← hq] at hchk ⊢
  have HS := Lib.hid hst
  have HT := Lib.hid hyt
  have HChk := Lib.hid hchk
  have HQl := Lib.hid hql
  have hx2 : Below w.heap.size w ((w.alloc (.cells q.toArray 73)).alloc (.cells #[.bool false] 4)) := ((Below.refl _ w).alloc (Nat.le_refl _) _).alloc (by simp) _
  have H9 : Hid (Blk ((w.alloc (.cells q.toArray 73)).alloc (.cells #[.bool false] 4)) w.heap.size 73 q) := Lib.hid ((Blk.fresh rfl rfl).alloc _)
  have H10 : Hid (Blk ((w.alloc (.cells q.toArray 73)).alloc (.cells #[.bool false] 4)) (w.heap.size + 1) 4 [.bool false]) := Lib.hid (Blk.fresh (by simp) rfl)
  have HS2 := Lib.hid (C.below _ _ _ hst hx2)
  have HT2 := Lib.hid (hyt.through hx2)
  have HX2 := Lib.hid (KF.of_below hg hx2)
  clear hq hql hst hyt hchk hx2
  go_enter_defers Try.func35, Try.ntmps35
  go_wp2_with (first
    | (refine wpList_load_blk_g 73 (.tmp 9) rfl (by kernel_rfl) w.heap.size rfl 73 q _ H9.out Try.underlying73 rfl (by rw [HQl.out]; kernel_rfl) ?_)
    | (go_at_call 115; (with_reducible refine (HChk.out _ HS2.out HT2.out).mono ?_); rintro e w3 ⟨rfl, hs, hf⟩; have HS3 := Lib.hid hs; have H13 := Lib.hid (hf.blk H10.out (Nat.ne_of_gt (Nat.lt_succ_of_lt hg))); have HX3 := Lib.hid (HX2.out.trans hf); clear hs hf)
    | (refine wpList_store_cell rfl 4 (.tmp 10) (.tmp 21) rfl (w.heap.size + 1) 0 rfl (.bool bb) rfl rfl rfl Try.size_bool 4 [.bool false] H13.out (by simp) ?_; intro w4 hb4 hg4; have H14 : Hid (Blk w4 (w.heap.size + 1) 4 [.bool bb]) := Lib.hid hb4; have HS4 := Lib.hid (C.cell _ _ _ _ HS3.out ⟨_, _, _, H13.out⟩ hg4 (Nat.lt_succ_of_lt hg)); have HX4 := Lib.hid (HX3.out.grownB hg4 (Nat.le_succ _) hg); clear hb4 hg4))
  refine leaves_cons (f := 65) (args := #[.pointer (some ⟨w.heap.size + 1, 0, none⟩)]) (by simp) (by simp [go_sem]) ?_
  refine (holds1_idle _ _).mono ?_
  rintro e u' w'' ⟨rfl, rfl, rfl⟩
  exact ⟨_, results_cell_one rfl _ _ ⟨w.heap.size + 1, 0, none⟩ (.bool bb) (Try.agg_bool _) rfl (H14.out.cellAt rfl), rfl, HS4.out, HX4.out⟩
end

section
open Go.RowKit
theorem vrange_keep {w w' : World} {b o : Nat} {cs : List Value} (h : w.rangeAt b o cs) (e : w'.heap[b]? = w.heap[b]?) : w'.rangeAt b o cs := fun j v hv => (World.cell?_of_block (a := ⟨b, o + j, none⟩) e).trans (h j v hv)
theorem range_blk {w : World} {b o : Nat} {cs : List Value} (h : w.rangeAt b o cs) (hc : 0 < cs.length) : b < w.heap.size ∧ ∃ cs t fr, w.heap[b]? = some (.cells cs t fr) := by
  have h0 := h 0 cs[0] (List.getElem?_eq_getElem hc)
  refine ⟨World.block_lt_of_cell? w ⟨b, o + 0, none⟩ h0, ?_⟩
  unfold World.cell? at h0
  cases hb : w.heap[b]? with
  | none => simp [hb] at h0
  | some o => cases o <;> simp_all
theorem run_index_tags (W : World) (g o n c j : Nat) (hj : j < n) : (Instr.indexAt 32 (.slice (some ⟨g, o, none⟩) n c) (.int .i64 (j : Int))).run Try.prog W = .ok (.pointer (some ⟨g, o + j * 32, none⟩)) W := by
  have hs : (sizeOf 73).run Try.prog W = .ok 32 W := by kernel_rfl
  have he : Try.prog.elem 32 = 73 := by kernel_rfl
  rw [run_indexAt_slice (P := Try.prog) W 32 ⟨g, o, none⟩ n c .i64 j (by rw [he]; exact Try.underlying32), if_pos ⟨by omega, by omega⟩, he, hs]
  simp only [Result.andThen_ok, Int.toNat_natCast]
  have ea : (⟨g, o, none⟩ : Addr).add (j * 32) = ⟨g, o + j * 32, none⟩ := by unfold Addr.add; split <;> simp_all
  rw [ea]

set_option maxHeartbeats 4000000 in
set_option maxRecDepth 100000 in
theorem sign_B (St : Nat → World → Prop) (g : Nat) (C : Crypt St g) (k f : Int) (body : List UInt8) (tos : List Int) (tg : Nat → List UInt8) (htl : ∀ i, (tg i).length = 32) (Q Q' : Nat → Prop) (hQ' : ∀ k, Q' k → k ≠ g)
    (B : Option Addr) (nb cb : Nat) (hnb : nb ≤ 100000) (A : Option Addr) (n c : Nat) (hn : n ≤ 100000) (w : World) (hst : St 0 w) (hyb : By w Q B nb body) (hya : Iv w Q' A n tos)
    (htag : ∀ T tc W i, i < n → St i W → By W (fun b => b ≠ g) T (1 + nb) (kb k :: body) → Calls Try.prog 118 #[.pointer (some ⟨g, 0, none⟩), .int .i64 f, .int .i64 (tos.getD i 0), .slice T (1 + nb) tc] W fun e w' => e = .returned (.agg (vs (tg i)).toArray) ∧ St (i + 1) w' ∧ KF g W w') :
    Calls Try.prog 26 #[.iface 53 (.pointer (some ⟨g, 0, none⟩)), .int .i64 k, .int .i64 f, .slice B nb cb, .slice A n c] w fun e w' => ∃ B1 c1 A1 c2, e = .returned (.agg #[.int .i64 k, .int .i64 f, .slice B1 nb c1, .slice A1 n c2]) ∧ By w' (fun b => w.heap.size ≤ b) B1 nb body ∧ (Tg w' A1 n ((List.range n).map tg) ∧ n ≤ c2 ∧ c2 ≤ maxLen) ∧ (∀ o, A1 = some o → w.heap.size ≤ o.block) ∧ St n w' ∧ KF g w w' := by
  have hg := C.lt 0 w hst
  have htags : ∀ W T tc, w.heap.size ≤ W.heap.size → St 0 W → By W (fun b => b ≠ g) T (1 + nb) (kb k :: body) → Iv W Q' A n tos → Calls Try.prog 58 #[.iface 53 (.pointer (some ⟨g, 0, none⟩)), .int .i64 f, .slice T (1 + nb) tc, .slice A n c] W fun e w' => ∃ A' c', e = .returned (.slice A' n c') ∧ (Tg w' A' n ((List.range n).map tg) ∧ n ≤ c' ∧ c' ≤ maxLen) ∧ (∀ o, A' = some o → W.heap.size ≤ o.block) ∧ St n w' ∧ KF g W w' := fun W T tc _ h1 h2 h3 =>
    tags_B St g C f _ tos tg htl _ Q' (fun _ h => h) hQ' T (1 + nb) tc A n c hn W h1 h2 h3 (fun W i hi h4 h5 => htag T tc W i hi h4 h5)
  have HS := Lib.hid hst
  have HB := Lib.hid hyb
  have HA := Lib.hid hya
  have HTags := Lib.hid htags
  clear hst hyb hya htag htags
  go_enter Try.func26, Try.ntmps26
  go_wp2_with (first
    | (go_at_call 57; (with_reducible refine (clone_any Q B nb cb body _ (HB.out.alloc _) (by omega)).mono ?_); rintro e w1 ⟨v1, rfl, ho1, hb1⟩; have HX1 : Hid (Below w.heap.size w w1) := Lib.hid (((Below.refl _ w).alloc (Nat.le_refl _) _).trans (hb1.mono (by simp))); have HM1 : Hid (Blk w1 w.heap.size 65 [.int .i64 0, .int .i64 0, .slice none 0 0, .slice none 0 0]) := Lib.hid ((Blk.fresh rfl (by kernel_rfl)).through hb1); obtain ⟨B1, c1, rfl, _⟩ := own_form ho1; have HC1 := Lib.hid ((By.of_own (own_weak ho1 (by simp))).weak (Q' := fun b => w.heap.size + 1 ≤ b) fun _ h => h.1); clear ho1 hb1)
    | (go_at_call 37; (with_reducible refine (text_any Q k body B nb cb _ (HB.out.through HX1.out) (by omega)).mono ?_); rintro e w2 ⟨T2, c2, rfl, hy2, hb2⟩; have HX2 := Lib.hid (HX1.out.trans (hb2.mono HX1.out.size)); have HM2 := Lib.hid (HM1.out.through hb2); have HC2 := Lib.hid (HC1.out.through hb2); have HT2 := Lib.hid (hy2.weak (Q' := fun b => b ≠ g) fun _ h => Nat.ne_of_gt (Nat.lt_of_lt_of_le hg (Nat.le_trans HX1.out.size h.1))); clear hy2 hb2)
    | (go_at_call 58; (with_reducible refine (HTags.out _ T2 c2 HX2.out.size (C.below _ _ _ HS.out HX2.out) HT2.out (HA.out.through HX2.out)).mono ?_); rintro e w3 ⟨A3, c3, rfl, ⟨ht3, hcp3⟩, hn3, hs3, hf3⟩; have HCp3 := Lib.hid hcp3; have HT3 := Lib.hid ht3; have HN3 := Lib.hid hn3; have HS3 := Lib.hid hs3; have HM3 := Lib.hid (hf3.blk HM2.out (Nat.ne_of_gt hg)); have HC3 := Lib.hid (HC2.out.kf hf3 (fun b h => by omega)); have HX3 := Lib.hid ((KF.of_below hg HX2.out).trans hf3); clear ht3 hn3 hs3 hf3 hcp3)
    | (refine wpList_store_blk rfl 65 (.tmp 10) (.tmp 22) rfl w.heap.size [.int .i64 k, .int .i64 f, .slice B1 nb c1, .slice A3 n c3] rfl rfl 65 [.int .i64 0, .int .i64 0, .slice none 0 0, .slice none 0 0] HM3.out (by kernel_rfl) rfl (by simp [Value.oneCell']) ?_; intro w4 hb4 hg4; have HM4 := Lib.hid hb4; have HT4 := Lib.hid (HT3.out.keep (fun k hk _ ⟨o, e⟩ => hg4.block k hk (fun e' => by have := HN3.out _ e; have := Option.some.inj e'; have := HX2.out.size; have := HM2.out.lt; simp only at *; omega))); have HC4 := Lib.hid ((HC3.out.lt.keep (fun k hk => hg4.block k hk.2 (fun e => by have := hk.1; have := Option.some.inj e; omega))).weak (Q' := fun b => w.heap.size ≤ b) fun _ h => by have := h.1; omega); have HS4 := Lib.hid (C.cell _ _ _ _ HS3.out ⟨_, _, _, HM3.out⟩ hg4 hg); have HX4 := Lib.hid (HX3.out.grownB hg4 (Nat.le_refl _) hg); clear hb4 hg4))
  exact bodyPost_ret (v := .agg #[.int .i64 k, .int .i64 f, .slice B1 nb c1, .slice A3 n c3]) (results_cell_row rfl _ _ w.heap.size 65 _ (0, 0) _ rfl HM4.out Try.underlying65 rfl (by kernel_rfl)) rfl ⟨B1, c1, A3, c3, rfl, HC4.out, ⟨HT4.out, HCp3.out⟩, fun o e => Nat.le_trans HX2.out.size (HN3.out o e), HS4.out, HX4.out⟩
end

section
open Go.RowKit
theorem BS.cell {W W' : World} {g b : Nat} {ds : List DK} {ts : List TK} (h : BS W g ds ts) (hb : ∃ cs t fr, W.heap[b]? = some (.cells cs t fr)) (ho : W.grownBy W' (some b)) (hg : b ≠ g) : BS W' g ds ts := by
  obtain ⟨m1, m2, h1, h2, h3, h4⟩ := h
  obtain ⟨cs, t, fr, hb⟩ := hb
  refine ⟨m1, m2, h1.grown ho (fun e => hg (Option.some.inj e).symm), h2.keep fun r e => ho.block r (h2.lt r e) fun e' => ?_, h3.keep fun r e => ho.block r (h3.lt r e) fun e' => ?_, h4⟩
  · obtain rfl := Option.some.inj e'
    subst e
    obtain ⟨es, ck, hm⟩ := h2.at
    rw [hm] at hb
    cases hb
  · obtain rfl := Option.some.inj e'
    subst e
    obtain ⟨es, ck, hm⟩ := h3.at
    rw [hm] at hb
    cases hb

/-- The tags known behind i of them. -/
def acc (f : Int) (text : List UInt8) (tos : List Int) (ts : List TK) : Nat → List TK
  | 0 => ts
  | i + 1 => also (f, tos.getD i 0, text) (acc f text tos ts i)
theorem acc_length (f : Int) (text : List UInt8) (tos : List Int) (ts : List TK) (i : Nat) : (acc f text tos ts i).length ≤ ts.length + i := by
  induction i with
  | zero => exact Nat.le_refl _
  | succ i ih =>
    have := also_length ((f, tos.getD i 0, text) : TK) (acc f text tos ts i)
    simp only [acc]
    omega
theorem acc_mem_of {f : Int} {text : List UInt8} {tos : List Int} {ts : List TK} {x : TK} {i : Nat} (h : x ∈ acc f text tos ts i) : ∀ j, x ∈ acc f text tos ts (i + j) ∧ ord x (acc f text tos ts (i + j)) = ord x (acc f text tos ts i)
  | 0 => ⟨h, rfl⟩
  | j + 1 => by
    obtain ⟨h1, h2⟩ := acc_mem_of h j
    exact ⟨mem_also_of h1, (ord_also h1).trans h2⟩
theorem acc_mem {f : Int} {text : List UInt8} {tos : List Int} {ts : List TK} {i n : Nat} (h : i < n) : (f, tos.getD i 0, text) ∈ acc f text tos ts n ∧ ord (f, tos.getD i 0, text) (acc f text tos ts n) = ord (f, tos.getD i 0, text) (acc f text tos ts (i + 1)) := by
  obtain ⟨j, rfl⟩ : ∃ j, n = i + 1 + j := ⟨n - (i + 1), by omega⟩
  exact acc_mem_of (mem_also _ _) j
theorem holds_made {ts : List TK} {x y : TK} (hx : x ∈ ts) (hl : ts.length < 1000000000) : bookHolds ts y (bookTag ts x) = decide (y = x) := by
  unfold bookHolds bookTag
  rw [Bool.eq_iff_iff, Bool.and_eq_true, beq_iff_eq, decide_eq_true_iff, decide_eq_true_iff]
  have h1 := ord_le hx
  constructor
  · rintro ⟨hy, he⟩
    have h2 := ord_le hy
    have h3 := (numB_inj (by omega) (by omega)).1 he
    exact (ord_inj hy hx).1 (by omega)
  · rintro rfl
    exact ⟨hx, rfl⟩

theorem crypt_book (g : Nat) (ds : List DK) (f : Nat → List TK) : Crypt (fun i w => BS w g ds (f i)) g :=
  ⟨fun _ _ h => h.lt, fun _ _ _ h hb => h.through hb, fun _ _ _ _ h hb ho hg => h.cell hb ho (Nat.ne_of_gt hg)⟩

/-- the tags that Sign makes -/
def made (f : Int) (text : List UInt8) (tos : List Int) (ts : List TK) (n i : Nat) : List UInt8 := bookTag (acc f text tos ts n) (f, tos.getD i 0, text)
theorem sign_book (g : Nat) (ds : List DK) (ts : List TK) (k f : Int) (body : List UInt8) (tos : List Int) (Q Q' : Nat → Prop) (hQ' : ∀ k, Q' k → k ≠ g)
    (B : Option Addr) (nb cb : Nat) (hnb : nb ≤ 100000) (A : Option Addr) (n c : Nat) (hn : n ≤ 100000) (hl : ts.length ≤ 100000) (w : World) (hst : BS w g ds ts) (hyb : By w Q B nb body) (hya : Iv w Q' A n tos) :
    Calls Try.prog 26 #[.iface 53 (.pointer (some ⟨g, 0, none⟩)), .int .i64 k, .int .i64 f, .slice B nb cb, .slice A n c] w fun e w' => ∃ B1 c1 A1 c2, e = .returned (.agg #[.int .i64 k, .int .i64 f, .slice B1 nb c1, .slice A1 n c2]) ∧
      By w' (fun b => w.heap.size ≤ b) B1 nb body ∧ (Tg w' A1 n ((List.range n).map (made f (kb k :: body) tos ts n)) ∧ n ≤ c2 ∧ c2 ≤ maxLen) ∧ (∀ o, A1 = some o → w.heap.size ≤ o.block) ∧ BS w' g ds (acc f (kb k :: body) tos ts n) ∧ KF g w w' :=
  sign_B _ g (crypt_book g ds (acc f (kb k :: body) tos ts)) k f body tos (made f (kb k :: body) tos ts n) (fun _ => numB_length _ _) Q Q' hQ' B nb cb hnb A n c hn w hst hyb hya fun T tc W i hi h1 h2 => by
    have hal := acc_length f (kb k :: body) tos ts i
    have h := btag_any _ g ds (acc f (kb k :: body) tos ts i) f (tos.getD i 0) (kb k :: body) T (1 + nb) tc W h1 h2 (by omega)
    have e := (acc_mem (f := f) (text := kb k :: body) (tos := tos) (ts := ts) hi).2
    unfold made bookTag
    rw [e]
    exact h
end

end Go.Proofs.Ytgbobemhogeeeaa
