/-
  A BOOK AS PLAIN LISTS: what was digested, what was tagged, the how manieth; a map that numbers its keys in their order; a book in memory. No walk here.
-/
import Derived.Test.YtgbobemhogeeeaaB2
import Derived.WideKeyRuns
import Derived.WideLaws
namespace Go.Proofs.Ytgbobemhogeeeaa
open Go.RowKit

/-- A first byte, and a number of eight bytes at the end. -/
def numB (f : UInt8) (n : Nat) : List UInt8 := f :: (List.replicate 23 0 ++ beB n 8)
theorem numB_length (f : UInt8) (n : Nat) : (numB f n).length = 32 := by simp [numB, beB_length]
theorem beB_inj (k : Nat) : ∀ (n m : Nat), n < 256 ^ k → m < 256 ^ k → beB n k = beB m k → n = m := by
  induction k with
  | zero => intro n m hn hm _; simp at hn hm; omega
  | succ k ih =>
    intro n m hn hm h
    simp only [beB] at h
    obtain ⟨h1, h2⟩ := List.append_inj' h rfl
    have h3 : n / 256 = m / 256 := ih _ _ (by rw [Nat.pow_succ] at hn; omega) (by rw [Nat.pow_succ] at hm; omega) h1
    have h4 : (UInt8.ofNat n).toNat = (UInt8.ofNat m).toNat := by simp at h2; rw [h2]
    rw [UInt8.toNat_ofNat', UInt8.toNat_ofNat'] at h4
    omega
theorem numB_inj {f f' : UInt8} {n m : Nat} (hn : n < 18446744073709551616) (hm : m < 18446744073709551616) : numB f n = numB f' m ↔ f = f' ∧ n = m := by
  constructor
  · intro h
    unfold numB at h
    injection h with h1 h2
    refine ⟨h1, beB_inj 8 n m (by omega) (by omega) ?_⟩
    exact List.append_cancel_left h2
  · rintro ⟨rfl, rfl⟩
    rfl

section
variable {α : Type}
/-- The entries of a map that numbers its keys. -/
def ents (en : α → Value) (xs : List α) (b : Nat) : List (Value × Value) := (xs.zipIdx b).map fun p => (en p.1, .int .u64 (p.2 : Int))
theorem ents_cons (en : α → Value) (x : α) (xs : List α) (b : Nat) : ents en (x :: xs) b = (en x, .int .u64 (b : Int)) :: ents en xs (b + 1) := by simp [ents]
theorem ents_snoc (en : α → Value) (x : α) (xs : List α) (b : Nat) : ents en (xs ++ [x]) b = ents en xs b ++ [(en x, .int .u64 ((b + xs.length : Nat) : Int))] := by simp [ents, List.zipIdx_append]
theorem ents_length (en : α → Value) (xs : List α) (b : Nat) : (ents en xs b).length = xs.length := by simp [ents]
def kv (e : MapEntry) : Value × Value := (e.key, e.val)

variable {en : α → Value}
/-- What a map of an object of block g is: none, or the numbers of the keys xs in a block beyond g. -/
def MIs (W : World) (g : Nat) (en : α → Value) (xs : List α) (m : Option Nat) : Prop :=
  (m = none → xs = []) ∧ ∀ r, m = some r → g < r ∧ ∃ es ck, W.heap[r]? = some (.map es ck) ∧ es.toList.map kv = ents en xs 1
theorem MIs.nil {W : World} {g : Nat} : MIs W g en ([] : List α) none := ⟨fun _ => rfl, fun _ h => by cases h⟩
theorem MIs.keep {W W' : World} {g : Nat} {xs : List α} {m : Option Nat} (h : MIs W g en xs m) (hk : ∀ r, m = some r → W'.heap[r]? = W.heap[r]?) : MIs W' g en xs m := ⟨h.1, fun r e => by
  obtain ⟨hg, es, ck, hb, hok⟩ := h.2 r e
  exact ⟨hg, es, ck, (hk r e).trans hb, hok⟩⟩
theorem MIs.lt {W : World} {g : Nat} {xs : List α} {m : Option Nat} (h : MIs W g en xs m) : ∀ r, m = some r → r < W.heap.size := fun r e => by
  obtain ⟨_, es, ck, hb, _⟩ := h.2 r e
  exact (Array.getElem?_eq_some_iff.1 hb).1
theorem MIs.at {W : World} {g r : Nat} {xs : List α} (h : MIs W g en xs (some r)) : ∃ es ck, W.heap[r]? = some (.map es ck) := by
  obtain ⟨_, es, ck, hb, _⟩ := h.2 r rfl
  exact ⟨es, ck, hb⟩
theorem MIs.through {W W' : World} {g : Nat} {xs : List α} {m : Option Nat} (h : MIs W g en xs m) (hb : Below W.heap.size W W') : MIs W' g en xs m := h.keep fun r e => hb.block r (h.lt r e)
theorem MIs.drew {W : World} {g : Nat} {xs : List α} {m : Option Nat} (h : MIs W g en xs m) : MIs W.drew g en xs m := h
end

section
variable {α : Type} [DecidableEq α]
/-- With this one known too. -/
def also (x : α) (xs : List α) : List α := if x ∈ xs then xs else xs ++ [x]
/-- The how manieth it is. -/
def ord (x : α) (xs : List α) : Nat := xs.idxOf x + 1
theorem also_mem {x : α} {xs : List α} (h : x ∈ xs) : also x xs = xs := if_pos h
theorem also_new {x : α} {xs : List α} (h : x ∉ xs) : also x xs = xs ++ [x] := if_neg h
theorem mem_also (x : α) (xs : List α) : x ∈ also x xs := by
  unfold also
  split
  · assumption
  · simp
theorem mem_also_of {x y : α} {xs : List α} (h : y ∈ xs) : y ∈ also x xs := by
  unfold also
  split
  · exact h
  · simp [h]
theorem mem_also_iff {x y : α} {xs : List α} : y ∈ also x xs ↔ y ∈ xs ∨ y = x := by
  unfold also
  split
  · rename_i h
    constructor
    · exact .inl
    · rintro (h1 | rfl)
      · exact h1
      · exact h
  · simp
theorem ord_also {x y : α} {xs : List α} (h : y ∈ xs) : ord y (also x xs) = ord y xs := by
  unfold also ord
  split
  · rfl
  · rw [List.idxOf_append, if_pos h]
theorem ord_new {x : α} {xs : List α} (h : x ∉ xs) : ord x (also x xs) = xs.length + 1 := by
  rw [also_new h]
  unfold ord
  rw [List.idxOf_append, if_neg h]
  simp [Nat.add_comm]
theorem also_length (x : α) (xs : List α) : (also x xs).length ≤ xs.length + 1 := by
  unfold also
  split <;> simp
theorem also_le (x : α) (xs : List α) : xs.length ≤ (also x xs).length := by
  unfold also
  split <;> simp
theorem ord_le {x : α} {xs : List α} (h : x ∈ xs) : ord x xs ≤ xs.length := List.idxOf_lt_length_of_mem h
theorem ord_inj {x y : α} {xs : List α} (hx : x ∈ xs) (hy : y ∈ xs) : ord x xs = ord y xs ↔ x = y := by
  constructor
  · intro h
    unfold ord at h
    have h' : xs.idxOf x = xs.idxOf y := by omega
    have h1 := List.getElem_idxOf (List.idxOf_lt_length_of_mem hx)
    have h2 := List.getElem_idxOf (List.idxOf_lt_length_of_mem hy)
    rw [← h1, ← h2]
    simp [h']
  · rintro rfl
    rfl

/-- A kind of keys: how they stand in a map, and what the language says of them. -/
structure Keyed (P : Program) (mt kt vt : TypeId) (en : α → Value) : Prop where
  map : P.underlying mt = some (.map kt vt)
  wide : (match P.underlying kt with | some (.array _ _) | some (.struct _) => true | _ => false) = true
  eql : ∀ x y w, (Op.equal kt (en x) (en y)).run P w = .ok (decide (x = y)) w
  chk : ∀ em x w, (Instr.checkKey em 10000 kt (en x)).run P w = .ok () w
  zero : ∀ w, (zeroValue vt).run P w = .ok (.int .u64 0) w

variable {P : Program} {mt kt vt : TypeId} {en : α → Value}
theorem run_findAsking_ord (hk : Keyed P mt kt vt en) (x : α) (w : World) : ∀ (xs : List α) (es : List MapEntry) (k b : Nat), es.map kv = ents en xs b →
    (Instr.findAsking kt (en x) es k).run P w = .ok (if x ∈ xs then some (k + xs.idxOf x, .int .u64 ((b + xs.idxOf x : Nat) : Int)) else none) w
  | [], es, k, b, h => by
    obtain rfl : es = [] := by simpa [ents] using h
    simp [Instr.findAsking]
  | y :: xs, [], k, b, h => by simp [ents] at h
  | y :: xs, e :: es, k, b, h => by
    rw [ents_cons, List.map_cons, List.cons.injEq] at h
    obtain ⟨h1, h2⟩ := h
    have e1 : e.key = en y := congrArg Prod.fst h1
    have e2 : e.val = .int .u64 (b : Int) := congrArg Prod.snd h1
    have ih := run_findAsking_ord hk x w xs es (k + 1) (b + 1) h2
    have hq := hk.eql x y w
    by_cases hxy : x = y
    · subst hxy
      simp [Instr.findAsking, e1, hq, e2]
    · have hne : ¬ y = x := fun e => hxy e.symm
      simp only [Instr.findAsking, Sem.run_bind, e1, hq, Result.andThen_ok, hxy, decide_false, Bool.false_eq_true, if_false, ih, List.mem_cons, false_or]
      by_cases hm : x ∈ xs
      · have hi : (y :: xs).idxOf x = xs.idxOf x + 1 := by rw [List.idxOf_cons, beq_eq_false_iff_ne.2 hne]; rfl
        simp only [hm, if_true, hi, Result.ok.injEq, Option.some.injEq, Prod.mk.injEq, Value.int.injEq, true_and, and_true]
        omega
      · simp [hm]
theorem run_findKey_ord (hk : Keyed P mt kt vt en) (x : α) (w : World) (xs : List α) (es : List MapEntry) (h : es.map kv = ents en xs 1) :
    (Instr.findKey kt (en x) es).run P w = .ok (if x ∈ xs then some (xs.idxOf x, .int .u64 ((ord x xs : Nat) : Int)) else none) w := by
  rw [run_findKey_eq (P := P) (w := w) hk.wide, run_findAsking_ord hk x w xs es 0 1 h]
  unfold ord
  simp [Nat.add_comm]

/-- what a lookup says -/
def look (x : α) (xs : List α) : Int := if x ∈ xs then (ord x xs : Int) else 0
theorem run_lookup_ord (hk : Keyed P mt kt vt en) {W : World} {g : Nat} {xs : List α} {m : Option Nat} (h : MIs W g en xs m) (x : α) (W' : World) (hW : ∀ r, m = some r → W'.heap[r]? = W.heap[r]?) :
    (Instr.lookup mt (.map m) (en x) true).run P W' = .ok (.tuple #[.int .u64 (look x xs), .bool (decide (x ∈ xs))]) W' := by
  unfold Instr.lookup look
  simp only [Sem.run_bind, run_underlying hk.map, Result.andThen_ok]
  cases m with
  | none =>
    obtain rfl := h.1 rfl
    have hf := run_findKey_ord hk x W' [] [] rfl
    simp [Sem.run_bind, hk.chk, hf, hk.zero]
  | some r =>
    obtain ⟨_, es, ck, hb, hok⟩ := h.2 r rfl
    have hget : (getObj r).run P W' = .ok (.map es ck) W' := by simp [getObj, Sem.run, (hW r rfl).trans hb]
    have hf := run_findKey_ord hk x W' xs es.toList hok
    by_cases hm : x ∈ xs
    · simp [Sem.run_bind, hget, hk.chk, hf, hm]
    · simp [Sem.run_bind, hget, hk.chk, hf, hm, hk.zero]
theorem run_lookup_hit (hk : Keyed P mt kt vt en) {W : World} {g : Nat} {xs : List α} {m : Option Nat} (h : MIs W g en xs m) (x : α) (hx : x ∈ xs) (W' : World) (hW : ∀ r, m = some r → W'.heap[r]? = W.heap[r]?) :
    (Instr.lookup mt (.map m) (en x) true).run P W' = .ok (.tuple #[.int .u64 (ord x xs : Int), .bool true]) W' := by
  rw [run_lookup_ord hk h x W' hW, look, if_pos hx, decide_eq_true hx]
theorem run_lookup_miss (hk : Keyed P mt kt vt en) {W : World} {g : Nat} {xs : List α} {m : Option Nat} (h : MIs W g en xs m) (x : α) (hx : x ∉ xs) (W' : World) (hW : ∀ r, m = some r → W'.heap[r]? = W.heap[r]?) :
    (Instr.lookup mt (.map m) (en x) true).run P W' = .ok (.tuple #[.int .u64 0, .bool false]) W' := by
  rw [run_lookup_ord hk h x W' hW, look, if_neg hx, decide_eq_false hx]
/-- A new key is laid in: it is the last one. -/
theorem run_update_ord (hk : Keyed P mt kt vt en) {W : World} {g : Nat} {xs : List α} {r : Nat} (h : MIs W g en xs (some r)) (x : α) (hx : x ∉ xs) :
    ∃ W', (Instr.mapUpdate mt (.map (some r)) (en x) (.int .u64 ((xs.length + 1 : Nat) : Int))).run P W = .ok () W' ∧ MIs W' g en (also x xs) (some r) ∧ W.grownBy W' (some r) := by
  obtain ⟨hg, es, ck, hb, hok⟩ := h.2 r rfl
  have hlt : r < W.heap.size := (Array.getElem?_eq_some_iff.1 hb).1
  have hget : (getObj r).run P W = .ok (.map es ck) W := by simp [getObj, Sem.run, hb]
  have hset : ∀ o : Obj, (setObj r o).run P W = .ok () { W with heap := W.heap.setIfInBounds r o } := fun o => by simp [setObj, Sem.run, hb]
  have hf := run_findKey_ord hk x W xs es.toList hok
  refine ⟨{ W with heap := W.heap.setIfInBounds r (.map (es.push { key := en x, val := .int .u64 ((xs.length + 1 : Nat) : Int), born := ck }) (ck + 1)) }, ?_, ⟨(by simp), fun r' e => ?_⟩, ⟨rfl, rfl, rfl, by simp, fun k _ hne => ?_⟩⟩
  · unfold Instr.mapUpdate
    simp only [Sem.run_bind, run_underlying hk.map, Result.andThen_ok, hget, hk.chk, hf, if_neg hx]
    exact hset _
  · obtain rfl := Option.some.inj e
    refine ⟨hg, _, _, Array.getElem?_setIfInBounds_self_of_lt hlt, ?_⟩
    rw [also_new hx, ents_snoc, Array.toList_push, List.map_append, hok]
    simp [kv, Nat.add_comm]
  · exact Array.getElem?_setIfInBounds_ne (by intro e; exact hne (by rw [e]))
/-- how many they are -/
theorem run_len_ord (hk : Keyed P mt kt vt en) {W : World} {g : Nat} {xs : List α} {m : Option Nat} (h : MIs W g en xs m) (ty : TypeId) (W' : World) (hW : ∀ r, m = some r → W'.heap[r]? = W.heap[r]?) :
    (Builtin.len_ #[mt] ty #[.map m]).run P W' = .ok (.int .i64 (xs.length : Int)) W' := by
  cases m with
  | none =>
    obtain rfl := h.1 rfl
    simp [Builtin.len_, run_underlying hk.map, goInt]
  | some r =>
    obtain ⟨_, es, ck, hb, hok⟩ := h.2 r rfl
    have hget : (getObj r).run P W' = .ok (.map es ck) W' := by simp [getObj, Sem.run, (hW r rfl).trans hb]
    have hl : es.size = xs.length := by
      have := congrArg List.length hok
      simpa [ents_length] using this
    simp [Builtin.len_, run_underlying hk.map, goInt, hget, hl]
/-- An update with a new key, at a step of a region that draws. -/
theorem step_update_ord (hk : Keyed P mt kt vt en) {ops : Array Oper} {o : Oper} {a : Act} {W : World} {K : Act → World → Prop} {R : Exit → Act → World → Prop} {E : Prop} (hw : Region.wanted o (yielded ops a.tmps) = true) (m x v : Operand)
    (ho : o.op = .mapUpdate mt m x v) {g : Nat} {xs : List α} {r : Nat} (hm : MIs W g en xs (some r)) (z : α) (hz : z ∉ xs) (hem : a.eval m = .map (some r)) (hex : a.eval x = en z) (hev : a.eval v = .int .u64 ((xs.length + 1 : Nat) : Int))
    (h : ∀ W', MIs W' g en (also z xs) (some r) → W.grownBy W' (some r) → K (a.put o.dst undef) W') : if Region.wanted o (yielded ops a.tmps) = true then Oper.wp P o a W K R else E := by
  rw [if_pos hw]
  obtain ⟨W', hrun, h1, h2⟩ := run_update_ord hk hm z hz
  unfold Oper.wp execOp
  simp only [ho, hem, hex, hev, Sem.run_bind, hrun, Result.andThen_ok]
  exact h W' h1 h2
end

/- The keys of a book. -/
abbrev DK : Type := UInt8 × List UInt8
abbrev TK : Type := Int × Int × List UInt8
abbrev encD (x : DK) : Value := .agg #[.int .u8 (x.1.toNat : Int), .string ⟨x.2.toArray⟩]
abbrev encT (x : TK) : Value := .agg #[.int .i64 x.1, .int .i64 x.2.1, .string ⟨x.2.2.toArray⟩]
theorem str_beq (a b : List UInt8) : ((⟨a.toArray⟩ : ByteArray).toList == (⟨b.toArray⟩ : ByteArray).toList) = decide (a = b) := by
  rw [ByteArray.toList_eq, ByteArray.toList_eq, Bool.eq_iff_iff]
  simp
theorem run_checkKey_int {P : Program} {t : TypeId} {k : IntKind} (ht : P.underlying t = some (.int k)) (em : Bool) (n : Nat) (v : Int) (w : World) : (Instr.checkKey em (n + 1) t (.int k v)).run P w = .ok () w := by
  unfold Instr.checkKey
  simp [run_underlying ht]
theorem run_checkKey_str {P : Program} {t : TypeId} (ht : P.underlying t = some .string) (em : Bool) (n : Nat) (v : ByteArray) (w : World) : (Instr.checkKey em (n + 1) t (.string v)).run P w = .ok () w := by
  unfold Instr.checkKey
  simp [run_underlying ht]
theorem Try.plain_int : Try.prog.plainKey 3 = true := by kernel_rfl
theorem Try.plain_u8 : Try.prog.plainKey 5 = true := by kernel_rfl
theorem Try.plain_str : Try.prog.plainKey 9 = true := by kernel_rfl
theorem Try.eql_T (x y : TK) (w : World) : (Op.equal 158 (encT x) (encT y)).run Try.prog w = .ok (decide (x = y)) w := by
  obtain ⟨a, b, t⟩ := x
  obtain ⟨a', b', t'⟩ := y
  have hb := str_beq t t'
  have p0 : ∀ w, (part 3 #[.int .i64 a, .int .i64 b, .string ⟨t.toArray⟩] 0).run Try.prog w = .ok (.int .i64 a) w := fun w => run_part_plain w Try.plain_int rfl
  have p1 : ∀ w, (part 3 #[.int .i64 a, .int .i64 b, .string ⟨t.toArray⟩] 1).run Try.prog w = .ok (.int .i64 b) w := fun w => run_part_plain w Try.plain_int rfl
  have p2 : ∀ w, (part 9 #[.int .i64 a, .int .i64 b, .string ⟨t.toArray⟩] 2).run Try.prog w = .ok (.string ⟨t.toArray⟩) w := fun w => run_part_plain w Try.plain_str rfl
  have q0 : ∀ w, (part 3 #[.int .i64 a', .int .i64 b', .string ⟨t'.toArray⟩] 0).run Try.prog w = .ok (.int .i64 a') w := fun w => run_part_plain w Try.plain_int rfl
  have q1 : ∀ w, (part 3 #[.int .i64 a', .int .i64 b', .string ⟨t'.toArray⟩] 1).run Try.prog w = .ok (.int .i64 b') w := fun w => run_part_plain w Try.plain_int rfl
  have q2 : ∀ w, (part 9 #[.int .i64 a', .int .i64 b', .string ⟨t'.toArray⟩] 2).run Try.prog w = .ok (.string ⟨t'.toArray⟩) w := fun w => run_part_plain w Try.plain_str rfl
  have e0 : ∀ w, (Op.equalIn 9999 3 (.int .i64 a) (.int .i64 a')).run Try.prog w = .ok (decide (a = a')) w := fun w => by
    rw [show (9999 : Nat) = 9998 + 1 from rfl, run_equalIn_int w 9998 3 .i64 .i64 _ _ Try.underlying3, show (a == a') = decide (a = a') from by rw [Bool.eq_iff_iff]; simp]
  have e1 : ∀ w, (Op.equalIn 9999 3 (.int .i64 b) (.int .i64 b')).run Try.prog w = .ok (decide (b = b')) w := fun w => by
    rw [show (9999 : Nat) = 9998 + 1 from rfl, run_equalIn_int w 9998 3 .i64 .i64 _ _ Try.underlying3, show (b == b') = decide (b = b') from by rw [Bool.eq_iff_iff]; simp]
  have e2 : ∀ w, (Op.equalIn 9999 9 (.string ⟨t.toArray⟩) (.string ⟨t'.toArray⟩)).run Try.prog w = .ok (decide (t = t')) w := fun w => by
    rw [show (9999 : Nat) = 9998 + 1 from rfl, run_equalIn_string w 9998 9 _ _ Try.underlying9, hb]
  unfold Op.equal Op.maxDepth
  rw [show (10000 : Nat) = 9999 + 1 from rfl, run_equalIn_struct w 9999 158 _ _ (by kernel_rfl) (by kernel_rfl)]
  unfold Program.fieldsOf
  rw [Try.underlying158]
  generalize (9999 : Nat) = N at *
  simp only [Op.eqFields, Sem.run_bind, Sem.run_ite, p0, p1, p2, q0, q1, q2, e0, e1, e2, Result.andThen_ok]
  clear p0 p1 p2 q0 q1 q2 e0 e1 e2 hb
  by_cases h1 : a = a' <;> by_cases h2 : b = b' <;> by_cases h3 : t = t' <;> simp [h1, h2, h3]
theorem Try.chk_T (em : Bool) (x : TK) (w : World) : (Instr.checkKey em 10000 158 (encT x)).run Try.prog w = .ok () w := by
  obtain ⟨a, b, t⟩ := x
  have p0 : ∀ w, (part 3 #[.int .i64 a, .int .i64 b, .string ⟨t.toArray⟩] 0).run Try.prog w = .ok (.int .i64 a) w := fun w => run_part_plain w Try.plain_int rfl
  have c0 : ∀ w, (Instr.checkKey em 9999 3 (.int .i64 a)).run Try.prog w = .ok () w := fun w => run_checkKey_int Try.underlying3 em 9998 _ w
  have p1 : ∀ w, (part 3 #[.int .i64 a, .int .i64 b, .string ⟨t.toArray⟩] 1).run Try.prog w = .ok (.int .i64 b) w := fun w => run_part_plain w Try.plain_int rfl
  have c1 : ∀ w, (Instr.checkKey em 9999 3 (.int .i64 b)).run Try.prog w = .ok () w := fun w => run_checkKey_int Try.underlying3 em 9998 _ w
  have p2 : ∀ w, (part 9 #[.int .i64 a, .int .i64 b, .string ⟨t.toArray⟩] 2).run Try.prog w = .ok (.string ⟨t.toArray⟩) w := fun w => run_part_plain w Try.plain_str rfl
  have c2 : ∀ w, (Instr.checkKey em 9999 9 (.string ⟨t.toArray⟩)).run Try.prog w = .ok () w := fun w => run_checkKey_str Try.underlying9 em 9998 _ w
  rw [show (10000 : Nat) = 9999 + 1 from rfl, Instr.checkKey]
  generalize (9999 : Nat) = N at *
  simp only [Sem.run_bind, run_underlying Try.underlying158, Result.andThen_ok]
  simp [*]
theorem Try.keyedT : Keyed Try.prog 104 158 86 encT :=
  ⟨Try.underlying104, by rw [Try.underlying158], Try.eql_T, Try.chk_T, fun w => by kernel_rfl⟩
theorem Try.eql_D (x y : DK) (w : World) : (Op.equal 154 (encD x) (encD y)).run Try.prog w = .ok (decide (x = y)) w := by
  obtain ⟨a, t⟩ := x
  obtain ⟨a', t'⟩ := y
  have hb := str_beq t t'
  have p0 : ∀ w, (part 5 #[.int .u8 (a.toNat : Int), .string ⟨t.toArray⟩] 0).run Try.prog w = .ok (.int .u8 (a.toNat : Int)) w := fun w => run_part_plain w Try.plain_u8 rfl
  have p1 : ∀ w, (part 9 #[.int .u8 (a.toNat : Int), .string ⟨t.toArray⟩] 1).run Try.prog w = .ok (.string ⟨t.toArray⟩) w := fun w => run_part_plain w Try.plain_str rfl
  have q0 : ∀ w, (part 5 #[.int .u8 (a'.toNat : Int), .string ⟨t'.toArray⟩] 0).run Try.prog w = .ok (.int .u8 (a'.toNat : Int)) w := fun w => run_part_plain w Try.plain_u8 rfl
  have q1 : ∀ w, (part 9 #[.int .u8 (a'.toNat : Int), .string ⟨t'.toArray⟩] 1).run Try.prog w = .ok (.string ⟨t'.toArray⟩) w := fun w => run_part_plain w Try.plain_str rfl
  have e0 : ∀ w, (Op.equalIn 9999 5 (.int .u8 (a.toNat : Int)) (.int .u8 (a'.toNat : Int))).run Try.prog w = .ok (decide (a = a')) w := fun w => by
    rw [show (9999 : Nat) = 9998 + 1 from rfl, run_equalIn_int w 9998 5 .u8 .u8 _ _ Try.underlying5, show (((a.toNat : Int) == (a'.toNat : Int)) = decide (a = a')) from by
      rw [Bool.eq_iff_iff, beq_iff_eq, decide_eq_true_iff, ← UInt8.toNat_inj]
      omega]
  have e1 : ∀ w, (Op.equalIn 9999 9 (.string ⟨t.toArray⟩) (.string ⟨t'.toArray⟩)).run Try.prog w = .ok (decide (t = t')) w := fun w => by
    rw [show (9999 : Nat) = 9998 + 1 from rfl, run_equalIn_string w 9998 9 _ _ Try.underlying9, hb]
  unfold Op.equal Op.maxDepth
  rw [show (10000 : Nat) = 9999 + 1 from rfl, run_equalIn_struct w 9999 154 _ _ (by kernel_rfl) (by kernel_rfl)]
  unfold Program.fieldsOf
  rw [Try.underlying154]
  generalize (9999 : Nat) = N at *
  simp only [Op.eqFields, Sem.run_bind, Sem.run_ite, p0, p1, q0, q1, e0, e1, Result.andThen_ok]
  clear p0 p1 q0 q1 e0 e1 hb
  by_cases h1 : a = a' <;> by_cases h3 : t = t' <;> simp [h1, h3]
theorem Try.chk_D (em : Bool) (x : DK) (w : World) : (Instr.checkKey em 10000 154 (encD x)).run Try.prog w = .ok () w := by
  obtain ⟨a, t⟩ := x
  have p0 : ∀ w, (part 5 #[.int .u8 (a.toNat : Int), .string ⟨t.toArray⟩] 0).run Try.prog w = .ok (.int .u8 (a.toNat : Int)) w := fun w => run_part_plain w Try.plain_u8 rfl
  have c0 : ∀ w, (Instr.checkKey em 9999 5 (.int .u8 (a.toNat : Int))).run Try.prog w = .ok () w := fun w => run_checkKey_int Try.underlying5 em 9998 _ w
  have p1 : ∀ w, (part 9 #[.int .u8 (a.toNat : Int), .string ⟨t.toArray⟩] 1).run Try.prog w = .ok (.string ⟨t.toArray⟩) w := fun w => run_part_plain w Try.plain_str rfl
  have c1 : ∀ w, (Instr.checkKey em 9999 9 (.string ⟨t.toArray⟩)).run Try.prog w = .ok () w := fun w => run_checkKey_str Try.underlying9 em 9998 _ w
  rw [show (10000 : Nat) = 9999 + 1 from rfl, Instr.checkKey]
  generalize (9999 : Nat) = N at *
  simp only [Sem.run_bind, run_underlying Try.underlying154, Result.andThen_ok]
  simp [*]
theorem Try.keyedD : Keyed Try.prog 103 154 86 encD :=
  ⟨Try.underlying103, by rw [Try.underlying154], Try.eql_D, Try.chk_D, fun w => by kernel_rfl⟩

/-- Block g is a book that knows these, with these maps. -/
def BM (W : World) (g : Nat) (m1 m2 : Option Nat) (ds : List DK) (ts : List TK) : Prop :=
  Blk W g 106 [.map m1, .map m2] ∧ MIs W g encD ds m1 ∧ MIs W g encT ts m2 ∧ ∀ r, m1 = some r → m2 = some r → False
def BS (W : World) (g : Nat) (ds : List DK) (ts : List TK) : Prop := ∃ m1 m2, BM W g m1 m2 ds ts
theorem BM.through {W W' : World} {g : Nat} {m1 m2 : Option Nat} {ds : List DK} {ts : List TK} (h : BM W g m1 m2 ds ts) (hb : Below W.heap.size W W') : BM W' g m1 m2 ds ts :=
  ⟨h.1.through hb, h.2.1.through hb, h.2.2.1.through hb, h.2.2.2⟩
theorem BS.through {W W' : World} {g : Nat} {ds : List DK} {ts : List TK} (h : BS W g ds ts) (hb : Below W.heap.size W W') : BS W' g ds ts := by
  obtain ⟨m1, m2, h⟩ := h
  exact ⟨m1, m2, h.through hb⟩
theorem BS.lt {W : World} {g : Nat} {ds : List DK} {ts : List TK} (h : BS W g ds ts) : g < W.heap.size := by
  obtain ⟨m1, m2, h⟩ := h
  exact h.1.lt
theorem BS.drew {W : World} {g : Nat} {ds : List DK} {ts : List TK} (h : BS W g ds ts) : BS W.drew g ds ts := h
theorem BM.own1 {W : World} {g r : Nat} {m2 : Option Nat} {ds : List DK} {ts : List TK} (h : BM W g (some r) m2 ds ts) : Own W g r := ⟨_, _, _, 0, h.1, rfl⟩
theorem BM.own2 {W : World} {g r : Nat} {m1 : Option Nat} {ds : List DK} {ts : List TK} (h : BM W g m1 (some r) ds ts) : Own W g r := ⟨_, _, _, 1, h.1, rfl⟩
/-- Another block of the caller's is written. -/
theorem BS.grown {W W' : World} {g b : Nat} {ds : List DK} {ts : List TK} {t : TypeId} {cs : List Value} (h : BS W g ds ts) (hb : Blk W b t cs) (ho : W.grownBy W' (some b)) (hg : g ≠ b) : BS W' g ds ts := by
  obtain ⟨m1, m2, h1, h2, h3, h4⟩ := h
  refine ⟨m1, m2, h1.grown ho (fun e => hg (Option.some.inj e)), h2.keep fun r e => ho.block r (h2.lt r e) fun e' => ?_, h3.keep fun r e => ho.block r (h3.lt r e) fun e' => ?_, h4⟩
  · obtain rfl := Option.some.inj e'
    subst e
    obtain ⟨es, ck, hm⟩ := h2.at
    rw [show W.heap[_]? = _ from hb] at hm
    cases hm
  · obtain rfl := Option.some.inj e'
    subst e
    obtain ⟨es, ck, hm⟩ := h3.at
    rw [show W.heap[_]? = _ from hb] at hm
    cases hm

end Go.Proofs.Ytgbobemhogeeeaa
