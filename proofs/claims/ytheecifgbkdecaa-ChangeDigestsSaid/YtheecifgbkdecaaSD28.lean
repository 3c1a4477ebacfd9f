/-
  BkD
-/
import Derived.WideKeyRuns
import Derived.WideLaws
import Derived.RegionTactic
import Derived.ChangeAlike
import Derived.StillTailTactics
import Derived.Deep.QuietTactic
import Derived.Outline
import Derived.Laws.Cover3
import Derived.Test.YtheecifgbkdecaaSD8
namespace Go.Proofs.Ytheecifgbkdecaa

section
open Go.RowKit
/-- A first byte, and a number of eight bytes at the end. -/
def numB (f : UInt8) (n : Nat) : List UInt8 := f :: (List.replicate 23 0 ++ beB n 8)
theorem numB_length (f : UInt8) (n : Nat) : (numB f n).length = 32 := by simp [numB, beB_length]
theorem beB_inj (k : Nat) : ∀ (n m : Nat), n < 256 ^ k → m < 256 ^ k → beB n k = beB m k → n = m := by
  induction k with
  | zero => intro n m hn hm _; simp at hn hm; omega
  | succ k ih =>
    intro n m hn hm h
    simp only [beB] at h
    obtain ⟨h1, h2⟩ := List.append_inj' h rfl
    have h3 : n / 256 = m / 256 := ih _ _ (by rw [Nat.pow_succ] at hn; omega) (by rw [Nat.pow_succ] at hm; omega) h1
    have h4 : (UInt8.ofNat n).toNat = (UInt8.ofNat m).toNat := by simp at h2; rw [h2]
    rw [UInt8.toNat_ofNat', UInt8.toNat_ofNat'] at h4
    omega
theorem numB_inj {f f' : UInt8} {n m : Nat} (hn : n < 18446744073709551616) (hm : m < 18446744073709551616) : numB f n = numB f' m ↔ f = f' ∧ n = m := by
  constructor
  · intro h
    unfold numB at h
    injection h with h1 h2
    refine ⟨h1, beB_inj 8 n m (by omega) (by omega) ?_⟩
    exact List.append_cancel_left h2
  · rintro ⟨rfl, rfl⟩
    rfl

section
variable {α : Type}
/-- The entries of a map that numbers its keys. -/
def ents (en : α → Value) (xs : List α) (b : Nat) : List (Value × Value) := (xs.zipIdx b).map fun p => (en p.1, .int .u64 (p.2 : Int))
theorem ents_cons (en : α → Value) (x : α) (xs : List α) (b : Nat) : ents en (x :: xs) b = (en x, .int .u64 (b : Int)) :: ents en xs (b + 1) := by simp [ents]
theorem ents_snoc (en : α → Value) (x : α) (xs : List α) (b : Nat) : ents en (xs ++ [x]) b = ents en xs b ++ [(en x, .int .u64 ((b + xs.length : Nat) : Int))] := by simp [ents, List.zipIdx_append]
theorem ents_length (en : α → Value) (xs : List α) (b : Nat) : (ents en xs b).length = xs.length := by simp [ents]
def kv (e : MapEntry) : Value × Value := (e.key, e.val)

variable {en : α → Value}
/-- What a map of an object of block g is: none, or the numbers of the keys xs in a block beyond g. -/
def MIs (W : World) (g : Nat) (en : α → Value) (xs : List α) (m : Option Nat) : Prop :=
  (m = none → xs = []) ∧ ∀ r, m = some r → g < r ∧ ∃ es ck, W.heap[r]? = some (.map es ck) ∧ es.toList.map kv = ents en xs 1
theorem MIs.nil {W : World} {g : Nat} : MIs W g en ([] : List α) none := ⟨fun _ => rfl, fun _ h => by cases h⟩
theorem MIs.keep {W W' : World} {g : Nat} {xs : List α} {m : Option Nat} (h : MIs W g en xs m) (hk : ∀ r, m = some r → W'.heap[r]? = W.heap[r]?) : MIs W' g en xs m := ⟨h.1, fun r e => by
  obtain ⟨hg, es, ck, hb, hok⟩ := h.2 r e
  exact ⟨hg, es, ck, (hk r e).trans hb, hok⟩⟩
theorem MIs.lt {W : World} {g : Nat} {xs : List α} {m : Option Nat} (h : MIs W g en xs m) : ∀ r, m = some r → r < W.heap.size := fun r e => by
  obtain ⟨_, es, ck, hb, _⟩ := h.2 r e
  exact (Array.getElem?_eq_some_iff.1 hb).1
theorem MIs.at {W : World} {g r : Nat} {xs : List α} (h : MIs W g en xs (some r)) : ∃ es ck, W.heap[r]? = some (.map es ck) := by
  obtain ⟨_, es, ck, hb, _⟩ := h.2 r rfl
  exact ⟨es, ck, hb⟩
theorem MIs.through {W W' : World} {g : Nat} {xs : List α} {m : Option Nat} (h : MIs W g en xs m) (hb : Below W.heap.size W W') : MIs W' g en xs m := h.keep fun r e => hb.block r (h.lt r e)
theorem MIs.drew {W : World} {g : Nat} {xs : List α} {m : Option Nat} (h : MIs W g en xs m) : MIs W.drew g en xs m := h
end

section
variable {α : Type} [DecidableEq α]
/-- With this one known too. -/
def also (x : α) (xs : List α) : List α := if x ∈ xs then xs else xs ++ [x]
/-- The how manieth it is. -/
def ord (x : α) (xs : List α) : Nat := xs.idxOf x + 1
theorem also_mem {x : α} {xs : List α} (h : x ∈ xs) : also x xs = xs := if_pos h
theorem also_new {x : α} {xs : List α} (h : x ∉ xs) : also x xs = xs ++ [x] := if_neg h
theorem mem_also (x : α) (xs : List α) : x ∈ also x xs := by
  unfold also
  split
  · assumption
  · simp
theorem ord_also {x y : α} {xs : List α} (h : y ∈ xs) : ord y (also x xs) = ord y xs := by
  unfold also ord
  split
  · rfl
  · rw [List.idxOf_append, if_pos h]
theorem ord_new {x : α} {xs : List α} (h : x ∉ xs) : ord x (also x xs) = xs.length + 1 := by
  rw [also_new h]
  unfold ord
  rw [List.idxOf_append, if_neg h]
  simp [Nat.add_comm]
theorem also_length (x : α) (xs : List α) : (also x xs).length ≤ xs.length + 1 := by
  unfold also
  split <;> simp
theorem ord_le {x : α} {xs : List α} (h : x ∈ xs) : ord x xs ≤ xs.length := List.idxOf_lt_length_of_mem h
/-- A kind of keys: how they stand in a map, and what the language says of them. -/
structure Keyed (P : Program) (mt kt vt : TypeId) (en : α → Value) : Prop where
  map : P.underlying mt = some (.map kt vt)
  wide : (match P.underlying kt with | some (.array _ _) | some (.struct _) => true | _ => false) = true
  eql : ∀ x y w, (Op.equal kt (en x) (en y)).run P w = .ok (decide (x = y)) w
  chk : ∀ em x w, (Instr.checkKey em 10000 kt (en x)).run P w = .ok () w
  zero : ∀ w, (zeroValue vt).run P w = .ok (.int .u64 0) w

variable {P : Program} {mt kt vt : TypeId} {en : α → Value}
theorem run_findAsking_ord (hk : Keyed P mt kt vt en) (x : α) (w : World) : ∀ (xs : List α) (es : List MapEntry) (k b : Nat), es.map kv = ents en xs b →
    (Instr.findAsking kt (en x) es k).run P w = .ok (if x ∈ xs then some (k + xs.idxOf x, .int .u64 ((b + xs.idxOf x : Nat) : Int)) else none) w
  | [], es, k, b, h => by
    obtain rfl : es = [] := by simpa [ents] using h
    simp [Instr.findAsking]
  | y :: xs, [], k, b, h => by simp [ents] at h
  | y :: xs, e :: es, k, b, h => by
    rw [ents_cons, List.map_cons, List.cons.injEq] at h
    obtain ⟨h1, h2⟩ := h
    have e1 : e.key = en y := congrArg Prod.fst h1
    have e2 : e.val = .int .u64 (b : Int) := congrArg Prod.snd h1
    have ih := run_findAsking_ord hk x w xs es (k + 1) (b + 1) h2
    have hq := hk.eql x y w
    by_cases hxy : x = y
    · subst hxy
      simp [Instr.findAsking, e1, hq, e2]
    · have hne : ¬ y = x := fun e => hxy e.symm
      simp only [Instr.findAsking, Sem.run_bind, e1, hq, Result.andThen_ok, hxy, decide_false, Bool.false_eq_true, if_false, ih, List.mem_cons, false_or]
      by_cases hm : x ∈ xs
      · have hi : (y :: xs).idxOf x = xs.idxOf x + 1 := by rw [List.idxOf_cons, beq_eq_false_iff_ne.2 hne]; rfl
        simp only [hm, if_true, hi, Result.ok.injEq, Option.some.injEq, Prod.mk.injEq, Value.int.injEq, true_and, and_true]
        omega
      · simp [hm]
theorem run_findKey_ord (hk : Keyed P mt kt vt en) (x : α) (w : World) (xs : List α) (es : List MapEntry) (h : es.map kv = ents en xs 1) :
    (Instr.findKey kt (en x) es).run P w = .ok (if x ∈ xs then some (xs.idxOf x, .int .u64 ((ord x xs : Nat) : Int)) else none) w := by
  rw [run_findKey_eq (P := P) (w := w) hk.wide, run_findAsking_ord hk x w xs es 0 1 h]
  unfold ord
  simp [Nat.add_comm]

/-- what a lookup says -/
def look (x : α) (xs : List α) : Int := if x ∈ xs then (ord x xs : Int) else 0
theorem run_lookup_ord (hk : Keyed P mt kt vt en) {W : World} {g : Nat} {xs : List α} {m : Option Nat} (h : MIs W g en xs m) (x : α) (W' : World) (hW : ∀ r, m = some r → W'.heap[r]? = W.heap[r]?) :
    (Instr.lookup mt (.map m) (en x) true).run P W' = .ok (.tuple #[.int .u64 (look x xs), .bool (decide (x ∈ xs))]) W' := by
  unfold Instr.lookup look
  simp only [Sem.run_bind, run_underlying hk.map, Result.andThen_ok]
  cases m with
  | none =>
    obtain rfl := h.1 rfl
    have hf := run_findKey_ord hk x W' [] [] rfl
    simp [Sem.run_bind, hk.chk, hf, hk.zero]
  | some r =>
    obtain ⟨_, es, ck, hb, hok⟩ := h.2 r rfl
    have hget : (getObj r).run P W' = .ok (.map es ck) W' := by simp [getObj, Sem.run, (hW r rfl).trans hb]
    have hf := run_findKey_ord hk x W' xs es.toList hok
    by_cases hm : x ∈ xs
    · simp [Sem.run_bind, hget, hk.chk, hf, hm]
    · simp [Sem.run_bind, hget, hk.chk, hf, hm, hk.zero]
theorem run_lookup_hit (hk : Keyed P mt kt vt en) {W : World} {g : Nat} {xs : List α} {m : Option Nat} (h : MIs W g en xs m) (x : α) (hx : x ∈ xs) (W' : World) (hW : ∀ r, m = some r → W'.heap[r]? = W.heap[r]?) :
    (Instr.lookup mt (.map m) (en x) true).run P W' = .ok (.tuple #[.int .u64 (ord x xs : Int), .bool true]) W' := by
  rw [run_lookup_ord hk h x W' hW, look, if_pos hx, decide_eq_true hx]
theorem run_lookup_miss (hk : Keyed P mt kt vt en) {W : World} {g : Nat} {xs : List α} {m : Option Nat} (h : MIs W g en xs m) (x : α) (hx : x ∉ xs) (W' : World) (hW : ∀ r, m = some r → W'.heap[r]? = W.heap[r]?) :
    (Instr.lookup mt (.map m) (en x) true).run P W' = .ok (.tuple #[.int .u64 0, .bool false]) W' := by
  rw [run_lookup_ord hk h x W' hW, look, if_neg hx, decide_eq_false hx]
/-- A new key is laid in: it is the last one. -/
theorem run_update_ord (hk : Keyed P mt kt vt en) {W : World} {g : Nat} {xs : List α} {r : Nat} (h : MIs W g en xs (some r)) (x : α) (hx : x ∉ xs) :
    ∃ W', (Instr.mapUpdate mt (.map (some r)) (en x) (.int .u64 ((xs.length + 1 : Nat) : Int))).run P W = .ok () W' ∧ MIs W' g en (also x xs) (some r) ∧ W.grownBy W' (some r) := by
  obtain ⟨hg, es, ck, hb, hok⟩ := h.2 r rfl
  have hlt : r < W.heap.size := (Array.getElem?_eq_some_iff.1 hb).1
  have hget : (getObj r).run P W = .ok (.map es ck) W := by simp [getObj, Sem.run, hb]
  have hset : ∀ o : Obj, (setObj r o).run P W = .ok () { W with heap := W.heap.setIfInBounds r o } := fun o => by simp [setObj, Sem.run, hb]
  have hf := run_findKey_ord hk x W xs es.toList hok
  refine ⟨{ W with heap := W.heap.setIfInBounds r (.map (es.push { key := en x, val := .int .u64 ((xs.length + 1 : Nat) : Int), born := ck }) (ck + 1)) }, ?_, ⟨(by simp), fun r' e => ?_⟩, ⟨rfl, rfl, rfl, by simp, fun k _ hne => ?_⟩⟩
  · unfold Instr.mapUpdate
    simp only [Sem.run_bind, run_underlying hk.map, Result.andThen_ok, hget, hk.chk, hf, if_neg hx]
    exact hset _
  · obtain rfl := Option.some.inj e
    refine ⟨hg, _, _, Array.getElem?_setIfInBounds_self_of_lt hlt, ?_⟩
    rw [also_new hx, ents_snoc, Array.toList_push, List.map_append, hok]
    simp [kv, Nat.add_comm]
  · exact Array.getElem?_setIfInBounds_ne (by intro e; exact hne (by rw [e]))
/-- how many they are -/
theorem run_len_ord (hk : Keyed P mt kt vt en) {W : World} {g : Nat} {xs : List α} {m : Option Nat} (h : MIs W g en xs m) (ty : TypeId) (W' : World) (hW : ∀ r, m = some r → W'.heap[r]? = W.heap[r]?) :
    (Builtin.len_ #[mt] ty #[.map m]).run P W' = .ok (.int .i64 (xs.length : Int)) W' := by
  cases m with
  | none =>
    obtain rfl := h.1 rfl
    simp [Builtin.len_, run_underlying hk.map, goInt]
  | some r =>
    obtain ⟨_, es, ck, hb, hok⟩ := h.2 r rfl
    have hget : (getObj r).run P W' = .ok (.map es ck) W' := by simp [getObj, Sem.run, (hW r rfl).trans hb]
    have hl : es.size = xs.length := by
      have := congrArg List.length hok
      simpa [ents_length] using this
    simp [Builtin.len_, run_underlying hk.map, goInt, hget, hl]
/-- An update with a new key, at a step of a region that draws. -/
theorem step_update_ord (hk : Keyed P mt kt vt en) {ops : Array Oper} {o : Oper} {a : Act} {W : World} {K : Act → World → Prop} {R : Exit → Act → World → Prop} {E : Prop} (hw : Region.wanted o (yielded ops a.tmps) = true) (m x v : Operand)
    (ho : o.op = .mapUpdate mt m x v) {g : Nat} {xs : List α} {r : Nat} (hm : MIs W g en xs (some r)) (z : α) (hz : z ∉ xs) (hem : a.eval m = .map (some r)) (hex : a.eval x = en z) (hev : a.eval v = .int .u64 ((xs.length + 1 : Nat) : Int))
    (h : ∀ W', MIs W' g en (also z xs) (some r) → W.grownBy W' (some r) → K (a.put o.dst undef) W') : if Region.wanted o (yielded ops a.tmps) = true then Oper.wp P o a W K R else E := by
  rw [if_pos hw]
  obtain ⟨W', hrun, h1, h2⟩ := run_update_ord hk hm z hz
  unfold Oper.wp execOp
  simp only [ho, hem, hex, hev, Sem.run_bind, hrun, Result.andThen_ok]
  exact h W' h1 h2
end

/- The keys of a book. -/
abbrev DK : Type := UInt8 × List UInt8
abbrev TK : Type := Int × Int × List UInt8
abbrev encD (x : DK) : Value := .agg #[.int .u8 (x.1.toNat : Int), .string ⟨x.2.toArray⟩]
abbrev encT (x : TK) : Value := .agg #[.int .i64 x.1, .int .i64 x.2.1, .string ⟨x.2.2.toArray⟩]
theorem str_beq (a b : List UInt8) : ((⟨a.toArray⟩ : ByteArray).toList == (⟨b.toArray⟩ : ByteArray).toList) = decide (a = b) := by
  rw [ByteArray.toList_eq, ByteArray.toList_eq, Bool.eq_iff_iff]
  simp
theorem run_checkKey_int {P : Program} {t : TypeId} {k : IntKind} (ht : P.underlying t = some (.int k)) (em : Bool) (n : Nat) (v : Int) (w : World) : (Instr.checkKey em (n + 1) t (.int k v)).run P w = .ok () w := by
  unfold Instr.checkKey
  simp [run_underlying ht]
theorem run_checkKey_str {P : Program} {t : TypeId} (ht : P.underlying t = some .string) (em : Bool) (n : Nat) (v : ByteArray) (w : World) : (Instr.checkKey em (n + 1) t (.string v)).run P w = .ok () w := by
  unfold Instr.checkKey
  simp [run_underlying ht]
theorem Try.plain_u8 : Try.prog.plainKey 5 = true := by kernel_rfl
theorem Try.plain_str : Try.prog.plainKey 9 = true := by kernel_rfl
theorem Try.eql_D (x y : DK) (w : World) : (Op.equal 162 (encD x) (encD y)).run Try.prog w = .ok (decide (x = y)) w := by
  obtain ⟨a, t⟩ := x
  obtain ⟨a', t'⟩ := y
  have hb := str_beq t t'
  have p0 : ∀ w, (part 5 #[.int .u8 (a.toNat : Int), .string ⟨t.toArray⟩] 0).run Try.prog w = .ok (.int .u8 (a.toNat : Int)) w := fun w => run_part_plain w Try.plain_u8 rfl
  have p1 : ∀ w, (part 9 #[.int .u8 (a.toNat : Int), .string ⟨t.toArray⟩] 1).run Try.prog w = .ok (.string ⟨t.toArray⟩) w := fun w => run_part_plain w Try.plain_str rfl
  have q0 : ∀ w, (part 5 #[.int .u8 (a'.toNat : Int), .string ⟨t'.toArray⟩] 0).run Try.prog w = .ok (.int .u8 (a'.toNat : Int)) w := fun w => run_part_plain w Try.plain_u8 rfl
  have q1 : ∀ w, (part 9 #[.int .u8 (a'.toNat : Int), .string ⟨t'.toArray⟩] 1).run Try.prog w = .ok (.string ⟨t'.toArray⟩) w := fun w => run_part_plain w Try.plain_str rfl
  have e0 : ∀ w, (Op.equalIn 9999 5 (.int .u8 (a.toNat : Int)) (.int .u8 (a'.toNat : Int))).run Try.prog w = .ok (decide (a = a')) w := fun w => by
    rw [show (9999 : Nat) = 9998 + 1 from rfl, run_equalIn_int w 9998 5 .u8 .u8 _ _ Try.underlying5, show (((a.toNat : Int) == (a'.toNat : Int)) = decide (a = a')) from by
      rw [Bool.eq_iff_iff, beq_iff_eq, decide_eq_true_iff, ← UInt8.toNat_inj]
      omega]
  have e1 : ∀ w, (Op.equalIn 9999 9 (.string ⟨t.toArray⟩) (.string ⟨t'.toArray⟩)).run Try.prog w = .ok (decide (t = t')) w := fun w => by
    rw [show (9999 : Nat) = 9998 + 1 from rfl, run_equalIn_string w 9998 9 _ _ Try.underlying9, hb]
  unfold Op.equal Op.maxDepth
  rw [show (10000 : Nat) = 9999 + 1 from rfl, run_equalIn_struct w 9999 162 _ _ (by kernel_rfl) (by kernel_rfl)]
  unfold Program.fieldsOf
  rw [Try.underlying162]
  generalize (9999 : Nat) = N at *
  simp only [Op.eqFields, Sem.run_bind, Sem.run_ite, p0, p1, q0, q1, e0, e1, Result.andThen_ok]
  clear p0 p1 q0 q1 e0 e1 hb
  by_cases h1 : a = a' <;> by_cases h3 : t = t' <;> simp [h1, h3]
theorem Try.chk_D (em : Bool) (x : DK) (w : World) : (Instr.checkKey em 10000 162 (encD x)).run Try.prog w = .ok () w := by
  obtain ⟨a, t⟩ := x
  have p0 : ∀ w, (part 5 #[.int .u8 (a.toNat : Int), .string ⟨t.toArray⟩] 0).run Try.prog w = .ok (.int .u8 (a.toNat : Int)) w := fun w => run_part_plain w Try.plain_u8 rfl
  have c0 : ∀ w, (Instr.checkKey em 9999 5 (.int .u8 (a.toNat : Int))).run Try.prog w = .ok () w := fun w => run_checkKey_int Try.underlying5 em 9998 _ w
  have p1 : ∀ w, (part 9 #[.int .u8 (a.toNat : Int), .string ⟨t.toArray⟩] 1).run Try.prog w = .ok (.string ⟨t.toArray⟩) w := fun w => run_part_plain w Try.plain_str rfl
  have c1 : ∀ w, (Instr.checkKey em 9999 9 (.string ⟨t.toArray⟩)).run Try.prog w = .ok () w := fun w => run_checkKey_str Try.underlying9 em 9998 _ w
  rw [show (10000 : Nat) = 9999 + 1 from rfl, Instr.checkKey]
  generalize (9999 : Nat) = N at *
  simp only [Sem.run_bind, run_underlying Try.underlying162, Result.andThen_ok]
  simp [*]
theorem Try.keyedD : Keyed Try.prog 93 162 70 encD :=
  ⟨Try.underlying93, by rw [Try.underlying162], Try.eql_D, Try.chk_D, fun w => by kernel_rfl⟩

/-- Block g is a book that knows these, with these maps. -/
def BM (W : World) (g : Nat) (m1 m2 : Option Nat) (ds : List DK) (ts : List TK) : Prop :=
  Blk W g 96 [.map m1, .map m2] ∧ MIs W g encD ds m1 ∧ MIs W g encT ts m2 ∧ ∀ r, m1 = some r → m2 = some r → False
def BS (W : World) (g : Nat) (ds : List DK) (ts : List TK) : Prop := ∃ m1 m2, BM W g m1 m2 ds ts
theorem BM.through {W W' : World} {g : Nat} {m1 m2 : Option Nat} {ds : List DK} {ts : List TK} (h : BM W g m1 m2 ds ts) (hb : Below W.heap.size W W') : BM W' g m1 m2 ds ts :=
  ⟨h.1.through hb, h.2.1.through hb, h.2.2.1.through hb, h.2.2.2⟩
theorem BS.through {W W' : World} {g : Nat} {ds : List DK} {ts : List TK} (h : BS W g ds ts) (hb : Below W.heap.size W W') : BS W' g ds ts := by
  obtain ⟨m1, m2, h⟩ := h
  exact ⟨m1, m2, h.through hb⟩
theorem BS.lt {W : World} {g : Nat} {ds : List DK} {ts : List TK} (h : BS W g ds ts) : g < W.heap.size := by
  obtain ⟨m1, m2, h⟩ := h
  exact h.1.lt
theorem BS.drew {W : World} {g : Nat} {ds : List DK} {ts : List TK} (h : BS W g ds ts) : BS W.drew g ds ts := h
/-- Another block of the caller's is written. -/
theorem BS.grown {W W' : World} {g b : Nat} {ds : List DK} {ts : List TK} {t : TypeId} {cs : List Value} (h : BS W g ds ts) (hb : Blk W b t cs) (ho : W.grownBy W' (some b)) (hg : g ≠ b) : BS W' g ds ts := by
  obtain ⟨m1, m2, h1, h2, h3, h4⟩ := h
  refine ⟨m1, m2, h1.grown ho (fun e => hg (Option.some.inj e)), h2.keep fun r e => ho.block r (h2.lt r e) fun e' => ?_, h3.keep fun r e => ho.block r (h3.lt r e) fun e' => ?_, h4⟩
  · obtain rfl := Option.some.inj e'
    subst e
    obtain ⟨es, ck, hm⟩ := h2.at
    rw [show W.heap[_]? = _ from hb] at hm
    cases hm
  · obtain rfl := Option.some.inj e'
    subst e
    obtain ⟨es, ck, hm⟩ := h3.at
    rw [show W.heap[_]? = _ from hb] at hm
    cases hm
end

section
open Go.RowKit
theorem numB_splice (f : UInt8) (n : Nat) : splice ((vs zero32).set 0 (.int .u8 (f.toNat : Int))) 24 (vs (beB n 8)) = vs (numB f n) := by
  have h : splice ((vs zero32).set 0 (.int .u8 (f.toNat : Int))) 24 (vs (beB n 8)) = ((vs zero32).set 0 (.int .u8 (f.toNat : Int))).take 24 ++ (vs (beB n 8) ++ ((vs zero32).set 0 (.int .u8 (f.toNat : Int))).drop (24 + (vs (beB n 8)).length)) := by simp [splice]
  rw [h, vs_length, beB_length]
  simp [zero32, vs, numB, u8, List.replicate]

set_option maxHeartbeats 4000000 in
set_option maxRecDepth 100000 in
theorem numbered_any (f : UInt8) (n : Nat) (hn : n < 18446744073709551616) (w : World) :
    Calls Try.prog 135 #[.int .u8 (f.toNat : Int), .int .u64 (n : Int)] w fun e w' => e = .returned (.agg (vs (numB f n)).toArray) ∧ Below w.heap.size w w' := by
  have hput : ∀ W, Calls Try.prog 67 #[.slice none 0 0, .int .u64 (n : Int), .int .i64 8] W fun e w' => ∃ A' c', e = .returned (.slice A' 8 c') ∧ By w' (fun _ => True) A' 8 (beB n 8) ∧ Below W.heap.size W w' := fun W => by
    refine (put_any (fun _ => True) none 0 0 [] _ 8 (by omega) (by omega) W By.none_ (by omega) (by omega)).mono ?_
    rintro e w' ⟨v, rfl, ho, hb⟩
    have e1 : putN 0 8 = 8 := rfl
    have e2 : putB [] (n : Int).toNat 8 = beB n 8 := by rw [Int.toNat_natCast]; rfl
    rw [e1, e2] at ho
    obtain ⟨A', c', rfl, _⟩ := own_form ho
    exact ⟨A', c', rfl, (By.of_own ho).weak fun _ _ => trivial, hb⟩
  obtain ⟨r, hr⟩ : ∃ r, r = vs (numB f n) := ⟨_, rfl⟩
  have hrl : r.length = 32 := by rw [hr, vs_length, numB_length]
  have hro : r.toArray.all (·.oneCell') = true := by rw [hr]; exact one_u8
  obtain ⟨z, hz⟩ : ∃ z, z = (vs zero32).set 0 (.int .u8 (f.toNat : Int)) := ⟨_, rfl⟩
  have hzl : z.length = 32 := by rw [hz]; simp [vs_length, zero32]
  have hsp : splice z 24 (vs (beB n 8)) = r := by rw [hz, hr]; exact numB_splice f n
  have hsz : ∀ W : World, (sizeOf 5).run Try.prog W = .ok 1 W := fun W => by kernel_rfl
  have hbl : (vs (beB n 8)).length = 8 := by rw [vs_length, beB_length]
  have HPut := Lib.hid hput
  have HRl := Lib.hid hrl
  have HRo := Lib.hid hro
  have HZl := Lib.hid hzl
  have HSp := Lib.hid hsp
  have HBl := Lib.hid hbl
  rw [← hr]
  clear hput hr hrl hro hzl hsp hbl
  go_enter Try.func135, Try.ntmps135
  go_wp2_with (refine wpList_store_cell rfl 5 (.tmp 7) (.tmp 6) rfl (w.heap.size + 1) 0 rfl (.int .u8 (f.toNat : Int)) rfl rfl rfl hsz 39 (vs zero32) (Blk.fresh (by simp) (by kernel_rfl)) (by decide) ?_; intro w1 hb1 ho1; rw [← hz] at hb1; have HB1 := Lib.hid hb1; have HA1 : Hid (Blk w1 w.heap.size 39 (vs zero32)) := Lib.hid (((Blk.fresh rfl (by kernel_rfl)).alloc _).grown ho1 (fun e => absurd (Option.some.inj e) (by omega))); have HX1 : Hid (Below w.heap.size w w1) := Lib.hid ((((Below.refl _ w).alloc (Nat.le_refl _) _).alloc (by simp) _).grown ho1 (by simp only [World.size_alloc]; omega) (fun k hk => Option.some.inj hk ▸ Nat.le_succ _)); clear hb1 ho1)
  obtain ⟨b4, hb4⟩ : ∃ b4, b4 = w.heap.size := ⟨_, rfl⟩
  rw [← hb4] at HB1 HA1
  rw [← hb4]
  obtain ⟨b5, hb5⟩ : ∃ b5, b5 = b4 + 1 := ⟨_, rfl⟩
  rw [← hb5] at HB1
  rw [← hb5]
  have h45 : b4 ≠ b5 := by omega
  have hw4 : w.heap.size ≤ b4 := by omega
  have hw5 : w.heap.size ≤ b5 := by omega
  clear hb4 hb5 hz
  have hsl : ∀ W : World, (Instr.sliceAt 39 (.pointer (some ⟨b5, 0, none⟩)) (some (.int .i64 24)) none none).run Try.prog W = .ok (.slice (some ⟨b5, 24, none⟩) 8 8) W := fun W => by
    have h := run_sliceArr_l (P := Try.prog) W 39 5 32 b5 0 .i64 24 Try.underlying39 (by kernel_rfl) (by omega) (by omega)
    simpa using h
  try dsimp only [Act.put]
  refine wp_region_held_drew (S := fun _ => True) (by kernel_rfl) trivial (fun hHeld => ?_)
  change wpAnyH _ _ _ _ _ _ #[false, false, false, false] _ _
  refine wpAnyH_take (i := 0) (v := (.slice (some ⟨b5, 24, none⟩) 8 8)) rfl (by kernel_rfl) (by kernel_rfl) (by kernel_rfl) (fun _ _ _ h => h) (Or.inl ⟨by kernel_rfl, fun w hSw => ?_⟩) (by assumption) ?_
  · (try dsimp only at hSw); go_simp <;> (try rfl)
  change wpAnyH _ _ _ _ _ _ _ (Act.put _ (some (8 : Nat)) (.slice (some ⟨b5, 24, none⟩) 8 8)) _
  simp only [Act.put, List.setIfInBounds_toArray, List.set_cons_zero, List.set_cons_succ]
  refine wpAnyH_take (i := 1) (v := (.int .u64 (n : Int))) rfl (by kernel_rfl) (by kernel_rfl) (by kernel_rfl) (fun _ _ _ h => h) (Or.inl ⟨by kernel_rfl, fun w hSw => ?_⟩) (by assumption) ?_
  · (try dsimp only at hSw); go_simp <;> (try rfl)
  change wpAnyH _ _ _ _ _ _ _ (Act.put _ (some (9 : Nat)) (.int .u64 (n : Int))) _
  simp only [Act.put, List.setIfInBounds_toArray, List.set_cons_zero, List.set_cons_succ]
  refine wpAnyH_ready (rs := [2]) (by kernel_rfl) (by simp) ?_
  refine AllReadyH.cons rfl (fun K hK => ?_) AllReadyH.nil
  go_simp
  refine (HPut.out _).mono ?_
  rintro e wa ⟨Aa, ca, rfl, hya, hb⟩; have HXa := Lib.hid (HX1.out.drew.trans (hb.mono HX1.out.size)); have HBa := Lib.hid (HB1.out.drew.through hb); have HAa := Lib.hid (HA1.out.drew.through hb); have HYa := Lib.hid hya; clear hb hya
  go_wp2_with fail
  refine hK.out _ _ trivial (fun hHeld1 => ?_)
  clear hHeld hK K
  have hHeld := hHeld1
  clear hHeld1
  refine wpAnyH_ready (rs := [3]) (by kernel_rfl) (by simp) ?_
  refine AllReadyH.cons (o := ⟨some 11, .call { callee := .builtin .copy, args := #[.tmp 8, .tmp 10], argTypes := #[28, 28] }, _, _, _, none⟩) rfl (fun K hK => ?_) AllReadyH.nil
  refine step_copy_blk rfl (.tmp 8) (.tmp 10) 28 28 rfl 5 Try.underlying28 (by kernel_rfl) b5 24 8 8 Aa 8 ca (by simp [Act.eval]) (by simp [Act.eval]) z 39 HBa.out (vs (beB n 8)) 8 HBl.out (by decide) (by omega) (HYa.out.srcAll (by rw [HBl.out]; omega)) (by rw [HZl.out]; omega) vs_one ?_; intro wb hbb hob; rw [HSp.out] at hbb; have HBb := Lib.hid hbb; have HAb := Lib.hid (HAa.out.grown hob (fun e => h45 (Option.some.inj e))); have HXb := Lib.hid (HXa.out.grown hob HXa.out.size (fun k hk => Option.some.inj hk ▸ hw5)); clear hbb hob
  refine hK.out _ _ trivial (fun hHeld1 => ?_)
  clear hHeld hK K
  have hHeld := hHeld1
  clear hHeld1
  change wpAnyH _ _ _ _ _ _ _ (Act.put _ (some (11 : Nat)) (.int .i64 8)) _
  simp only [Act.put, List.setIfInBounds_toArray, List.set_cons_zero, List.set_cons_succ]
  refine wpAnyH_done (by kernel_rfl) ?_ _
  go_wp2_with (first | (refine wpList_load_blk rfl 39 (.tmp 5) rfl b5 rfl 39 r _ HBb.out Try.underlying39 rfl (by rw [HRl.out]; kernel_rfl) ?_) | (refine wpList_store_row rfl 39 (.tmp 4) (.tmp 12) rfl b4 r.toArray rfl rfl 39 (vs zero32).toArray HAb.out (by rw [List.size_toArray, HRl.out]; kernel_rfl) (by rw [List.size_toArray, List.size_toArray, HRl.out]; rfl) HRo.out ?_))
  refine bodyPost_ret (v := .agg r.toArray) (results_cell_row rfl _ _ b4 39 _ (0, 0) _ rfl (HAb.out.row _) Try.underlying39 rfl ?r1) rfl ⟨rfl, below_row HXb.out _ hw4 _⟩
  rw [List.size_toArray, HRl.out]; kernel_rfl
end

section
open Go.RowKit
theorem Try.make_mapD (w : World) : (Instr.makeMap 93 none).run Try.prog w = .ok (.map (some w.heap.size)) (w.alloc (.map #[] 0)) := by kernel_rfl
theorem Try.agg_mapD (w : World) : (isAgg 93).run Try.prog w = .ok false w := by kernel_rfl
theorem Try.size_mapD (w : World) : (sizeOf 93).run Try.prog w = .ok 1 w := by kernel_rfl
theorem boxD (x : DK) : ∃ kcs : List Value, encD x = .agg kcs.toArray ∧ kcs.length = 2 := ⟨_, rfl, rfl⟩

theorem blk_ne_mapD {W : World} {k r : Nat} {t : TypeId} {cs : List Value} (h : Blk W k t cs) (hm : ∃ es ck, W.heap[r]? = some (.map es ck)) : some k ≠ some r := fun e => by
  have e := Option.some.inj e
  subst e
  obtain ⟨es, ck, hm⟩ := hm
  unfold Blk at h
  rw [hm] at h
  cases h
theorem freshD {w wz : World} {g : Nat} {kcs : List Value} {m2 : Option Nat} {ds : List DK} {ts : List TK} (hnil : ds = []) (hb : Blk w g 96 [.map none, .map m2]) (ho : MIs w g encT ts m2)
    (hbz : Blk wz g 96 ([.map none, .map m2].set 0 (.map (some (w.heap.size + 1))))) (hgz : ((w.alloc (.cells kcs.toArray 162)).drew.alloc (.map #[] 0)).grownBy wz (some g)) :
    Blk wz g 96 [.map (some (w.heap.size + 1)), .map m2] ∧ Blk wz w.heap.size 162 kcs ∧ MIs wz g encD ds (some (w.heap.size + 1)) ∧ MIs wz g encT ts m2 ∧ KF g w wz ∧ (∀ k, m2 = some k → k ≠ w.heap.size + 1) ∧
    wz.cell? ⟨g, 0, none⟩ = some (.map (some (w.heap.size + 1))) ∧ ∀ ty, (Builtin.len_ #[93] ty #[.map (some (w.heap.size + 1))]).run Try.prog wz = .ok (.int .i64 0) wz := by
  have hg := hb.lt
  have hsz : (w.alloc (.cells kcs.toArray 162)).drew.heap.size = w.heap.size + 1 := by simp
  have hsz2 : ((w.alloc (.cells kcs.toArray 162)).drew.alloc (.map #[] 0)).heap.size = w.heap.size + 1 + 1 := by simp
  have hx : Below w.heap.size w (w.alloc (.cells kcs.toArray 162)).drew := ((Below.refl _ w).alloc (Nat.le_refl _) _).drew
  have hB : Blk wz g 96 [.map (some (w.heap.size + 1)), .map m2] := hbz
  have hM : MIs wz g encD ds (some (w.heap.size + 1)) := by
    subst hnil
    refine ⟨(fun e => by cases e), fun r hr => ?_⟩
    obtain rfl := Option.some.inj hr
    refine ⟨by omega, #[], 0, ?_, rfl⟩
    rw [hgz.block (w.heap.size + 1) (by omega) (fun e => by have := Option.some.inj e; omega), ← hsz]
    exact heap_alloc_new _ _
  have ho1 : MIs ((w.alloc (.cells kcs.toArray 162)).drew.alloc (.map #[] 0)) g encT ts m2 := (ho.through hx).through ((Below.refl _ _).alloc (Nat.le_refl _) _)
  refine ⟨hB, ?_, hM, ?_, ?_, fun k e => ?_, hB.cellAt rfl, fun ty => ?_⟩
  · exact ((Blk.drew (Blk.fresh rfl rfl)).alloc _).grown hgz (fun e => by have := Option.some.inj e; omega)
  · exact ho1.keep fun k e => hgz.block k (ho1.lt k e) (fun e' => by
      have := Option.some.inj e'
      have := (ho.2 k e).1
      omega)
  · exact (KF.of_below hg hx).trans (KF.newMap (Blk.drew (hb.alloc _)) (by rw [hsz]; exact hbz) hgz)
  · have := ho.lt k e
    omega
  · have h := run_len_ord Try.keyedD hM ty wz (fun _ _ => rfl)
    rw [hnil] at h
    exact h

set_option maxHeartbeats 4000000 in
set_option maxRecDepth 100000 in
theorem ordD_hit (g : Nat) (m1 m2 : Option Nat) (ds : List DK) (ts : List TK) (x : DK) (hx : x ∈ ds) (w : World) (h : BM w g m1 m2 ds ts) :
    Calls Try.prog 136 #[.pointer (some ⟨g, 0, none⟩), encD x] w fun e w' => e = .returned (.int .u64 (ord x ds : Int)) ∧ Below w.heap.size w w' := by
  obtain ⟨kcs, hkv, hkl⟩ := boxD x
  have hb := h.1
  have hml := fun r e => (h.2.1).lt r e
  obtain ⟨o, ho⟩ : ∃ o : Int, o = (ord x ds : Int) := ⟨_, rfl⟩
  have hlk : ∀ W', (∀ r, m1 = some r → W'.heap[r]? = w.heap[r]?) → (Instr.lookup 93 (.map m1) (.agg kcs.toArray) true).run Try.prog W' = .ok (.tuple #[.int .u64 o, .bool true]) W' := fun W' hW => by
    have h1 := run_lookup_hit Try.keyedD h.2.1 x hx W' hW
    rw [hkv, ← ho] at h1
    exact h1
  have HB0 := Lib.hid hb
  have HMl := Lib.hid hml
  have HKl := Lib.hid hkl
  have HLk := Lib.hid hlk
  rw [← ho, hkv]
  clear h hb hml hkv hkl ho hlk hx
  go_enter Try.func136, Try.ntmps136
  go_wp2
  try dsimp only [Act.put]
  refine wp_region_held_drew (S := fun W => Blk W g 96 [.map m1, .map m2] ∧ Blk W w.heap.size 162 kcs ∧ (∀ r, m1 = some r → W.heap[r]? = w.heap[r]?)) (by kernel_rfl) ⟨(HB0.out.alloc _).drew, Blk.drew (Blk.fresh rfl rfl), fun r e => Below.heap_alloc w _ r (HMl.out r e)⟩ (fun hHeld => ?_)
  change wpAnyH _ _ _ _ _ _ #[false, false, false, false, false, false, false, false, false, false] _ _
  refine wpAnyH_take (i := 0) (v := (.pointer (some ⟨g, 0, none⟩))) rfl (by kernel_rfl) (by kernel_rfl) (by kernel_rfl) (fun _ _ _ h => h) (Or.inl ⟨by kernel_rfl, fun w hSw => ?_⟩) (by assumption) ?_
  · (try dsimp only at hSw); go_simp <;> (try rfl)
  change wpAnyH _ _ _ _ _ _ _ (Act.put _ (some (9 : Nat)) (.pointer (some ⟨g, 0, none⟩))) _
  simp only [Act.put, List.setIfInBounds_toArray, List.set_cons_zero, List.set_cons_succ]
  refine wpAnyH_take (i := 1) (v := (.pointer (some ⟨g, 0, none⟩))) rfl (by kernel_rfl) (by kernel_rfl) (by kernel_rfl) (fun _ _ _ h => h) (Or.inl ⟨by kernel_rfl, fun w hSw => ?_⟩) (by assumption) ?_
  · (try dsimp only at hSw); go_simp <;> (try rfl)
  change wpAnyH _ _ _ _ _ _ _ (Act.put _ (some (10 : Nat)) (.pointer (some ⟨g, 0, none⟩))) _
  simp only [Act.put, List.setIfInBounds_toArray, List.set_cons_zero, List.set_cons_succ]
  refine wpAnyH_take (i := 2) (v := (.map m1)) rfl (by kernel_rfl) (by kernel_rfl) (by kernel_rfl) (fun _ _ _ h => h) (yields_load_at (by kernel_rfl) 93 (.tmp 10) rfl (.pointer (some ⟨g, 0, none⟩)) (by simp [Act.eval]) (.map m1) (fun W hW => load_one' (Try.agg_mapD W) (hW.1.cellAt rfl))) (by assumption) ?_
  change wpAnyH _ _ _ _ _ _ _ (Act.put _ (some (11 : Nat)) (.map m1)) _
  simp only [Act.put, List.setIfInBounds_toArray, List.set_cons_zero, List.set_cons_succ]
  refine wpAnyH_take (i := 3) (v := (.agg kcs.toArray)) rfl (by kernel_rfl) (by kernel_rfl) (by kernel_rfl) (fun _ _ _ h => h) (yields_load_at (by kernel_rfl) 162 (.tmp 3) rfl (.pointer (some ⟨w.heap.size, 0, none⟩)) (by simp [Act.eval]) (.agg kcs.toArray) (fun W hW => hW.2.1.loadAt 162 _ Try.underlying162 rfl (by rw [HKl.out]; kernel_rfl))) (by assumption) ?_
  change wpAnyH _ _ _ _ _ _ _ (Act.put _ (some (12 : Nat)) (.agg kcs.toArray)) _
  simp only [Act.put, List.setIfInBounds_toArray, List.set_cons_zero, List.set_cons_succ]
  refine wpAnyH_take (i := 4) (v := (.tuple #[.int .u64 o, .bool true])) rfl (by kernel_rfl) (by kernel_rfl) (by kernel_rfl) (fun _ _ _ h => h) (yields_lookup (by kernel_rfl) 93 (.tmp 11) (.tmp 12) rfl (.map m1) (.agg kcs.toArray) (by simp [Act.eval]) (by simp [Act.eval]) (.tuple #[.int .u64 o, .bool true]) (fun W hW => HLk.out W hW.2.2)) (by assumption) ?_
  change wpAnyH _ _ _ _ _ _ _ (Act.put _ (some (13 : Nat)) (.tuple #[.int .u64 o, .bool true])) _
  simp only [Act.put, List.setIfInBounds_toArray, List.set_cons_zero, List.set_cons_succ]
  refine wpAnyH_take (i := 5) (v := (.tuple #[.int .u64 o, .bool true])) rfl (by kernel_rfl) (by kernel_rfl) (by kernel_rfl) (fun _ _ _ h => h) (Or.inl ⟨by kernel_rfl, fun w hSw => ?_⟩) (by assumption) ?_
  · (try dsimp only at hSw); go_simp <;> (try rfl)
  change wpAnyH _ _ _ _ _ _ _ (Act.put _ (some (8 : Nat)) (.tuple #[.int .u64 o, .bool true])) _
  simp only [Act.put, List.setIfInBounds_toArray, List.set_cons_zero, List.set_cons_succ]
  refine wpAnyH_take (i := 6) (v := (.int .u64 o)) rfl (by kernel_rfl) (by kernel_rfl) (by kernel_rfl) (fun _ _ _ h => h) (Or.inl ⟨by kernel_rfl, fun w hSw => ?_⟩) (by assumption) ?_
  · (try dsimp only at hSw); go_simp <;> (try rfl)
  change wpAnyH _ _ _ _ _ _ _ (Act.put _ (some (14 : Nat)) (.int .u64 o)) _
  simp only [Act.put, List.setIfInBounds_toArray, List.set_cons_zero, List.set_cons_succ]
  refine wpAnyH_take (i := 7) (v := (.bool true)) rfl (by kernel_rfl) (by kernel_rfl) (by kernel_rfl) (fun _ _ _ h => h) (Or.inl ⟨by kernel_rfl, fun w hSw => ?_⟩) (by assumption) ?_
  · (try dsimp only at hSw); go_simp <;> (try rfl)
  change wpAnyH _ _ _ _ _ _ _ (Act.put _ (some (15 : Nat)) (.bool true)) _
  simp only [Act.put, List.setIfInBounds_toArray, List.set_cons_zero, List.set_cons_succ]
  refine wpAnyH_take (i := 8) (v := (.int .u64 o)) rfl (by kernel_rfl) (by kernel_rfl) (by kernel_rfl) (fun _ _ _ h => h) (Or.inl ⟨by kernel_rfl, fun w hSw => ?_⟩) (by assumption) ?_
  · (try dsimp only at hSw); go_simp <;> (try rfl)
  change wpAnyH _ _ _ _ _ _ _ (Act.put _ (some (5 : Nat)) (.int .u64 o)) _
  simp only [Act.put, List.setIfInBounds_toArray, List.set_cons_zero, List.set_cons_succ]
  refine wpAnyH_take (i := 9) (v := (.bool true)) rfl (by kernel_rfl) (by kernel_rfl) (by kernel_rfl) (fun _ _ _ h => h) (Or.inl ⟨by kernel_rfl, fun w hSw => ?_⟩) (by assumption) ?_
  · (try dsimp only at hSw); go_simp <;> (try rfl)
  change wpAnyH _ _ _ _ _ _ _ (Act.put _ (some (6 : Nat)) (.bool true)) _
  simp only [Act.put, List.setIfInBounds_toArray, List.set_cons_zero, List.set_cons_succ]
  refine wpAnyH_done (by kernel_rfl) ?_ _
  go_wp2
  go_ret
  exact ⟨rfl, (((Below.refl _ w).alloc (Nat.le_refl _) _).drew)⟩

set_option maxHeartbeats 4000000 in
set_option maxRecDepth 100000 in
theorem ordD_some (g : Nat) (m2 : Option Nat) (r : Nat) (ds : List DK) (ts : List TK) (x : DK) (hx : x ∉ ds) (w : World) (h : BM w g (some r) m2 ds ts) (hl : ds.length < 9223372036854775807) :
    Calls Try.prog 136 #[.pointer (some ⟨g, 0, none⟩), encD x] w fun e w' => e = .returned (.int .u64 (ord x (also x ds) : Int)) ∧ BS w' g (also x ds) ts ∧ KF g w w' := by
  obtain ⟨kcs, hkv, hkl⟩ := boxD x
  have hb := h.1
  have hml := fun r e => (h.2.1).lt r e
  have hom := h.2.2.1
  have hord : ((ord x (also x ds) : Nat) : Int) = ((ds.length + 1 : Nat) : Int) := by rw [ord_new hx]
  have hmi : MIs w g encD ds (some r) := h.2.1
  have hne : ∀ k, m2 = some k → k ≠ r := fun k e e' => by
    subst e'
    exact h.2.2.2 _ rfl e
  obtain ⟨L, hL⟩ : ∃ L : Int, L = (ds.length : Int) := ⟨_, rfl⟩
  have hL1 : L % 18446744073709551616 = L := by omega
  have hL2 : (L + 1) % 18446744073709551616 = L + 1 := by omega
  have hnum : L + 1 = ((ds.length + 1 : Nat) : Int) := by omega
  have hlk : ∀ W', (∀ r', some r = some r' → W'.heap[r']? = w.heap[r']?) → (Instr.lookup 93 (.map (some r)) (.agg kcs.toArray) true).run Try.prog W' = .ok (.tuple #[.int .u64 0, .bool false]) W' := fun W' hW => by
    have h1 := run_lookup_miss Try.keyedD hmi x hx W' hW
    rw [hkv] at h1
    exact h1
  have hq := fun (W : World) (m : Option Nat) => run_eql_map_nil (P := Try.prog) W 93 162 70 m Try.underlying93
  have hlen := fun (ty : TypeId) => run_len_ord Try.keyedD hmi ty (w.alloc (.cells kcs.toArray 162)).drew (fun r e => Below.heap_alloc w _ r (hmi.lt r e))
  rw [← hL] at hlen
  have c1 : w.cell? ⟨g, 0, none⟩ = some (.map (some r)) := hb.cellAt rfl
  have hg := hb.lt
  have HB0 := Lib.hid hb
  have HMl := Lib.hid hml
  have HKl := Lib.hid hkl
  have HKv := Lib.hid hkv
  have HLk := Lib.hid hlk
  have HMi := Lib.hid hmi
  have HOm := Lib.hid hom
  have HNx := Lib.hid hx
  have HNe := Lib.hid hne
  have HNum := Lib.hid hnum
  have HOrd := Lib.hid (hord.trans hnum.symm)
  rw [hkv]
  clear h hb hml hkv hkl hlk hx hmi hom hne hord hnum hL
  go_enter Try.func136, Try.ntmps136
  go_wp2
  try dsimp only [Act.put]
  refine wp_region_held_drew (S := fun W => Blk W g 96 [.map (some r), .map m2] ∧ Blk W w.heap.size 162 kcs ∧ (∀ r1, some r = some r1 → W.heap[r1]? = w.heap[r1]?)) (by kernel_rfl) ⟨(HB0.out.alloc _).drew, Blk.drew (Blk.fresh rfl rfl), fun r e => Below.heap_alloc w _ r (HMl.out r e)⟩ (fun hHeld => ?_)
  change wpAnyH _ _ _ _ _ _ #[false, false, false, false, false, false, false, false, false, false] _ _
  refine wpAnyH_take (i := 0) (v := (.pointer (some ⟨g, 0, none⟩))) rfl (by kernel_rfl) (by kernel_rfl) (by kernel_rfl) (fun _ _ _ h => h) (Or.inl ⟨by kernel_rfl, fun w hSw => ?_⟩) (by assumption) ?_
  · (try dsimp only at hSw); go_simp <;> (try rfl)
  change wpAnyH _ _ _ _ _ _ _ (Act.put _ (some (9 : Nat)) (.pointer (some ⟨g, 0, none⟩))) _
  simp only [Act.put, List.setIfInBounds_toArray, List.set_cons_zero, List.set_cons_succ]
  refine wpAnyH_take (i := 1) (v := (.pointer (some ⟨g, 0, none⟩))) rfl (by kernel_rfl) (by kernel_rfl) (by kernel_rfl) (fun _ _ _ h => h) (Or.inl ⟨by kernel_rfl, fun w hSw => ?_⟩) (by assumption) ?_
  · (try dsimp only at hSw); go_simp <;> (try rfl)
  change wpAnyH _ _ _ _ _ _ _ (Act.put _ (some (10 : Nat)) (.pointer (some ⟨g, 0, none⟩))) _
  simp only [Act.put, List.setIfInBounds_toArray, List.set_cons_zero, List.set_cons_succ]
  refine wpAnyH_take (i := 2) (v := (.map (some r))) rfl (by kernel_rfl) (by kernel_rfl) (by kernel_rfl) (fun _ _ _ h => h) (yields_load_at (by kernel_rfl) 93 (.tmp 10) rfl (.pointer (some ⟨g, 0, none⟩)) (by simp [Act.eval]) (.map (some r)) (fun W hW => load_one' (Try.agg_mapD W) (hW.1.cellAt rfl))) (by assumption) ?_
  change wpAnyH _ _ _ _ _ _ _ (Act.put _ (some (11 : Nat)) (.map (some r))) _
  simp only [Act.put, List.setIfInBounds_toArray, List.set_cons_zero, List.set_cons_succ]
  refine wpAnyH_take (i := 3) (v := (.agg kcs.toArray)) rfl (by kernel_rfl) (by kernel_rfl) (by kernel_rfl) (fun _ _ _ h => h) (yields_load_at (by kernel_rfl) 162 (.tmp 3) rfl (.pointer (some ⟨w.heap.size, 0, none⟩)) (by simp [Act.eval]) (.agg kcs.toArray) (fun W hW => hW.2.1.loadAt 162 _ Try.underlying162 rfl (by rw [HKl.out]; kernel_rfl))) (by assumption) ?_
  change wpAnyH _ _ _ _ _ _ _ (Act.put _ (some (12 : Nat)) (.agg kcs.toArray)) _
  simp only [Act.put, List.setIfInBounds_toArray, List.set_cons_zero, List.set_cons_succ]
  refine wpAnyH_take (i := 4) (v := (.tuple #[.int .u64 0, .bool false])) rfl (by kernel_rfl) (by kernel_rfl) (by kernel_rfl) (fun _ _ _ h => h) (yields_lookup (by kernel_rfl) 93 (.tmp 11) (.tmp 12) rfl (.map (some r)) (.agg kcs.toArray) (by simp [Act.eval]) (by simp [Act.eval]) (.tuple #[.int .u64 0, .bool false]) (fun W hW => HLk.out W hW.2.2)) (by assumption) ?_
  change wpAnyH _ _ _ _ _ _ _ (Act.put _ (some (13 : Nat)) (.tuple #[.int .u64 0, .bool false])) _
  simp only [Act.put, List.setIfInBounds_toArray, List.set_cons_zero, List.set_cons_succ]
  refine wpAnyH_take (i := 5) (v := (.tuple #[.int .u64 0, .bool false])) rfl (by kernel_rfl) (by kernel_rfl) (by kernel_rfl) (fun _ _ _ h => h) (Or.inl ⟨by kernel_rfl, fun w hSw => ?_⟩) (by assumption) ?_
  · (try dsimp only at hSw); go_simp <;> (try rfl)
  change wpAnyH _ _ _ _ _ _ _ (Act.put _ (some (8 : Nat)) (.tuple #[.int .u64 0, .bool false])) _
  simp only [Act.put, List.setIfInBounds_toArray, List.set_cons_zero, List.set_cons_succ]
  refine wpAnyH_take (i := 6) (v := (.int .u64 0)) rfl (by kernel_rfl) (by kernel_rfl) (by kernel_rfl) (fun _ _ _ h => h) (Or.inl ⟨by kernel_rfl, fun w hSw => ?_⟩) (by assumption) ?_
  · (try dsimp only at hSw); go_simp <;> (try rfl)
  change wpAnyH _ _ _ _ _ _ _ (Act.put _ (some (14 : Nat)) (.int .u64 0)) _
  simp only [Act.put, List.setIfInBounds_toArray, List.set_cons_zero, List.set_cons_succ]
  refine wpAnyH_take (i := 7) (v := (.bool false)) rfl (by kernel_rfl) (by kernel_rfl) (by kernel_rfl) (fun _ _ _ h => h) (Or.inl ⟨by kernel_rfl, fun w hSw => ?_⟩) (by assumption) ?_
  · (try dsimp only at hSw); go_simp <;> (try rfl)
  change wpAnyH _ _ _ _ _ _ _ (Act.put _ (some (15 : Nat)) (.bool false)) _
  simp only [Act.put, List.setIfInBounds_toArray, List.set_cons_zero, List.set_cons_succ]
  refine wpAnyH_take (i := 8) (v := (.int .u64 0)) rfl (by kernel_rfl) (by kernel_rfl) (by kernel_rfl) (fun _ _ _ h => h) (Or.inl ⟨by kernel_rfl, fun w hSw => ?_⟩) (by assumption) ?_
  · (try dsimp only at hSw); go_simp <;> (try rfl)
  change wpAnyH _ _ _ _ _ _ _ (Act.put _ (some (5 : Nat)) (.int .u64 0)) _
  simp only [Act.put, List.setIfInBounds_toArray, List.set_cons_zero, List.set_cons_succ]
  refine wpAnyH_take (i := 9) (v := (.bool false)) rfl (by kernel_rfl) (by kernel_rfl) (by kernel_rfl) (fun _ _ _ h => h) (Or.inl ⟨by kernel_rfl, fun w hSw => ?_⟩) (by assumption) ?_
  · (try dsimp only at hSw); go_simp <;> (try rfl)
  change wpAnyH _ _ _ _ _ _ _ (Act.put _ (some (6 : Nat)) (.bool false)) _
  simp only [Act.put, List.setIfInBounds_toArray, List.set_cons_zero, List.set_cons_succ]
  refine wpAnyH_done (by kernel_rfl) ?_ _
  go_wp2
  obtain ⟨b3, hb3⟩ : ∃ b3, b3 = w.heap.size := ⟨_, rfl⟩
  have HB : Hid (Blk (w.alloc (.cells kcs.toArray 162)).drew g 96 [.map (some r), .map m2]) := Lib.hid (HB0.out.alloc _).drew
  have H3 : Hid (Blk (w.alloc (.cells kcs.toArray 162)).drew b3 162 kcs) := Lib.hid (Blk.drew (Blk.fresh hb3 rfl))
  have HM : Hid (MIs (w.alloc (.cells kcs.toArray 162)).drew g encD ds (some r)) := Lib.hid ((HMi.out.through ((Below.refl _ w).alloc (Nat.le_refl _) _)).drew)
  have HO : Hid (MIs (w.alloc (.cells kcs.toArray 162)).drew g encT ts m2) := Lib.hid ((HOm.out.through ((Below.refl _ w).alloc (Nat.le_refl _) _)).drew)
  have HF : Hid (KF g w (w.alloc (.cells kcs.toArray 162)).drew) := Lib.hid ((KF.of_below hg ((Below.refl _ w).alloc (Nat.le_refl _) _)).drew)
  rw [← hb3]
  clear hb3 hlen c1
  generalize (w.alloc (.cells kcs.toArray 162)).drew = wz at *
  try dsimp only [Act.put]
  refine wp_region_held_drew (S := fun W => Blk W g 96 [.map (some r), .map m2] ∧ Blk W b3 162 kcs) (by kernel_rfl) ⟨HB.out.drew, H3.out.drew⟩ (fun hHeld => ?_)
  change wpAnyH _ _ _ _ _ _ #[false, false, false, false, false, false] _ _
  refine wpAnyH_take (i := 0) (v := (.pointer (some ⟨g, 0, none⟩))) rfl (by kernel_rfl) (by kernel_rfl) (by kernel_rfl) (fun _ _ _ h => h) (Or.inl ⟨by kernel_rfl, fun w hSw => ?_⟩) (by assumption) ?_
  · (try dsimp only at hSw); go_simp <;> (try rfl)
  change wpAnyH _ _ _ _ _ _ _ (Act.put _ (some (31 : Nat)) (.pointer (some ⟨g, 0, none⟩))) _
  simp only [Act.put, List.setIfInBounds_toArray, List.set_cons_zero, List.set_cons_succ]
  refine wpAnyH_take (i := 1) (v := (.pointer (some ⟨g, 0, none⟩))) rfl (by kernel_rfl) (by kernel_rfl) (by kernel_rfl) (fun _ _ _ h => h) (Or.inl ⟨by kernel_rfl, fun w hSw => ?_⟩) (by assumption) ?_
  · (try dsimp only at hSw); go_simp <;> (try rfl)
  change wpAnyH _ _ _ _ _ _ _ (Act.put _ (some (32 : Nat)) (.pointer (some ⟨g, 0, none⟩))) _
  simp only [Act.put, List.setIfInBounds_toArray, List.set_cons_zero, List.set_cons_succ]
  refine wpAnyH_take (i := 2) (v := (.map (some r))) rfl (by kernel_rfl) (by kernel_rfl) (by kernel_rfl) (fun _ _ _ h => h) (yields_load_at (by kernel_rfl) 93 (.tmp 32) rfl (.pointer (some ⟨g, 0, none⟩)) (by simp [Act.eval]) (.map (some r)) (fun W hW => load_one' (Try.agg_mapD W) (hW.1.cellAt rfl))) (by assumption) ?_
  change wpAnyH _ _ _ _ _ _ _ (Act.put _ (some (33 : Nat)) (.map (some r))) _
  simp only [Act.put, List.setIfInBounds_toArray, List.set_cons_zero, List.set_cons_succ]
  refine wpAnyH_take (i := 3) (v := (.agg kcs.toArray)) rfl (by kernel_rfl) (by kernel_rfl) (by kernel_rfl) (fun _ _ _ h => h) (yields_load_at (by kernel_rfl) 162 (.tmp 3) rfl (.pointer (some ⟨b3, 0, none⟩)) (by simp [Act.eval]) (.agg kcs.toArray) (fun W hW => hW.2.loadAt 162 _ Try.underlying162 rfl (by rw [HKl.out]; kernel_rfl))) (by assumption) ?_
  change wpAnyH _ _ _ _ _ _ _ (Act.put _ (some (34 : Nat)) (.agg kcs.toArray)) _
  simp only [Act.put, List.setIfInBounds_toArray, List.set_cons_zero, List.set_cons_succ]
  refine wpAnyH_take (i := 4) (v := (.int .u64 (L + 1))) rfl (by kernel_rfl) (by kernel_rfl) (by kernel_rfl) (fun _ _ _ h => h) (Or.inl ⟨by kernel_rfl, fun w hSw => ?_⟩) (by assumption) ?_
  · (try dsimp only at hSw); go_simp <;> (try rfl)
  change wpAnyH _ _ _ _ _ _ _ (Act.put _ (some (35 : Nat)) (.int .u64 (L + 1))) _
  simp only [Act.put, List.setIfInBounds_toArray, List.set_cons_zero, List.set_cons_succ]
  refine wpAnyH_ready (rs := [5]) (by kernel_rfl) (by simp) ?_
  refine AllReadyH.cons (o := ⟨none, .mapUpdate 93 (.tmp 33) (.tmp 34) (.tmp 35), _, _, _, none⟩) rfl (fun K hK => ?_) AllReadyH.nil
  refine step_update_ord Try.keyedD (by kernel_rfl) (.tmp 33) (.tmp 34) (.tmp 35) rfl HM.out.drew x HNx.out (by simp [Act.eval]) (by simp [Act.eval, HKv.out]) (by simp [Act.eval, HNum.out]) ?_; intro wu hmu hgu; have HMu := Lib.hid hmu; have hmap := HM.out.at; have HBu := Lib.hid (HB.out.drew.grown hgu (blk_ne_mapD HB.out.drew hmap)); have H3u := Lib.hid (H3.out.drew.grown hgu (blk_ne_mapD H3.out.drew hmap)); have HOu := Lib.hid (HO.out.keep (fun k e => hgu.block k (HO.out.lt k e) (fun e' => HNe.out k e (Option.some.inj e')))); have HFu := Lib.hid (HF.out.drew.trans (KF.turn hgu (HM.out.2 r rfl).1 ⟨_, _, _, 0, HB.out.drew, rfl⟩ hmap)); clear hmu hgu hmap
  refine hK.out _ _ ⟨HBu.out, H3u.out⟩ (fun hHeld1 => ?_)
  clear hHeld hK K
  have hHeld := hHeld1
  clear hHeld1
  change wpAnyH _ _ _ _ _ _ _ (Act.put _ none undef) _
  simp only [Act.put]
  refine wpAnyH_done (by kernel_rfl) ?_ _
  go_wp2
  go_ret
  exact ⟨by rw [HOrd.out]; rfl, ⟨some r, m2, HBu.out, HMu.out, HOu.out, fun k e1 e2 => HNe.out k e2 (Option.some.inj e1).symm⟩, HFu.out⟩

set_option maxHeartbeats 4000000 in
set_option maxRecDepth 100000 in
theorem ordD_none (g : Nat) (m2 : Option Nat) (ds : List DK) (ts : List TK) (x : DK) (hx : x ∉ ds) (w : World) (h : BM w g none m2 ds ts) :
    Calls Try.prog 136 #[.pointer (some ⟨g, 0, none⟩), encD x] w fun e w' => e = .returned (.int .u64 (ord x (also x ds) : Int)) ∧ BS w' g (also x ds) ts ∧ KF g w w' := by
  obtain ⟨kcs, hkv, hkl⟩ := boxD x
  have hb := h.1
  have hml := fun r e => (h.2.1).lt r e
  have hom := h.2.2.1
  have hord : ((ord x (also x ds) : Nat) : Int) = ((ds.length + 1 : Nat) : Int) := by rw [ord_new hx]
  have hnil : ds = [] := (h.2.1).1 rfl
  have hmi : MIs w g encD ds none := h.2.1
  have hlk : ∀ W', (∀ r', (none : Option Nat) = some r' → W'.heap[r']? = w.heap[r']?) → (Instr.lookup 93 (.map none) (.agg kcs.toArray) true).run Try.prog W' = .ok (.tuple #[.int .u64 0, .bool false]) W' := fun W' hW => by
    have h1 := run_lookup_miss Try.keyedD hmi x hx W' hW
    rw [hkv] at h1
    exact h1
  have hq := fun (W : World) (m : Option Nat) => run_eql_map_nil (P := Try.prog) W 93 162 70 m Try.underlying93
  have hmk := Try.make_mapD
  have c1 : w.cell? ⟨g, 0, none⟩ = some (.map none) := hb.cellAt rfl
  have hg := hb.lt
  have hnum : (((ds.length + 1 : Nat)) : Int) = 1 := by rw [hnil]; rfl
  have HB0 := Lib.hid hb
  have HMl := Lib.hid hml
  have HKl := Lib.hid hkl
  have HKv := Lib.hid hkv
  have HLk := Lib.hid hlk
  have HOm := Lib.hid hom
  have HNx := Lib.hid hx
  have HNil := Lib.hid hnil
  have HNum := Lib.hid hnum
  have HOrd := Lib.hid (hord.trans hnum)
  rw [hkv]
  clear h hb hml hkv hkl hlk hx hmi hom hord hnil hnum
  go_enter Try.func136, Try.ntmps136
  go_wp2
  try dsimp only [Act.put]
  refine wp_region_held_drew (S := fun W => Blk W g 96 [.map none, .map m2] ∧ Blk W w.heap.size 162 kcs ∧ (∀ r, (none : Option Nat) = some r → W.heap[r]? = w.heap[r]?)) (by kernel_rfl) ⟨(HB0.out.alloc _).drew, Blk.drew (Blk.fresh rfl rfl), fun r e => Below.heap_alloc w _ r (HMl.out r e)⟩ (fun hHeld => ?_)
  change wpAnyH _ _ _ _ _ _ #[false, false, false, false, false, false, false, false, false, false] _ _
  refine wpAnyH_take (i := 0) (v := (.pointer (some ⟨g, 0, none⟩))) rfl (by kernel_rfl) (by kernel_rfl) (by kernel_rfl) (fun _ _ _ h => h) (Or.inl ⟨by kernel_rfl, fun w hSw => ?_⟩) (by assumption) ?_
  · (try dsimp only at hSw); go_simp <;> (try rfl)
  change wpAnyH _ _ _ _ _ _ _ (Act.put _ (some (9 : Nat)) (.pointer (some ⟨g, 0, none⟩))) _
  simp only [Act.put, List.setIfInBounds_toArray, List.set_cons_zero, List.set_cons_succ]
  refine wpAnyH_take (i := 1) (v := (.pointer (some ⟨g, 0, none⟩))) rfl (by kernel_rfl) (by kernel_rfl) (by kernel_rfl) (fun _ _ _ h => h) (Or.inl ⟨by kernel_rfl, fun w hSw => ?_⟩) (by assumption) ?_
  · (try dsimp only at hSw); go_simp <;> (try rfl)
  change wpAnyH _ _ _ _ _ _ _ (Act.put _ (some (10 : Nat)) (.pointer (some ⟨g, 0, none⟩))) _
  simp only [Act.put, List.setIfInBounds_toArray, List.set_cons_zero, List.set_cons_succ]
  refine wpAnyH_take (i := 2) (v := (.map none)) rfl (by kernel_rfl) (by kernel_rfl) (by kernel_rfl) (fun _ _ _ h => h) (yields_load_at (by kernel_rfl) 93 (.tmp 10) rfl (.pointer (some ⟨g, 0, none⟩)) (by simp [Act.eval]) (.map none) (fun W hW => load_one' (Try.agg_mapD W) (hW.1.cellAt rfl))) (by assumption) ?_
  change wpAnyH _ _ _ _ _ _ _ (Act.put _ (some (11 : Nat)) (.map none)) _
  simp only [Act.put, List.setIfInBounds_toArray, List.set_cons_zero, List.set_cons_succ]
  refine wpAnyH_take (i := 3) (v := (.agg kcs.toArray)) rfl (by kernel_rfl) (by kernel_rfl) (by kernel_rfl) (fun _ _ _ h => h) (yields_load_at (by kernel_rfl) 162 (.tmp 3) rfl (.pointer (some ⟨w.heap.size, 0, none⟩)) (by simp [Act.eval]) (.agg kcs.toArray) (fun W hW => hW.2.1.loadAt 162 _ Try.underlying162 rfl (by rw [HKl.out]; kernel_rfl))) (by assumption) ?_
  change wpAnyH _ _ _ _ _ _ _ (Act.put _ (some (12 : Nat)) (.agg kcs.toArray)) _
  simp only [Act.put, List.setIfInBounds_toArray, List.set_cons_zero, List.set_cons_succ]
  refine wpAnyH_take (i := 4) (v := (.tuple #[.int .u64 0, .bool false])) rfl (by kernel_rfl) (by kernel_rfl) (by kernel_rfl) (fun _ _ _ h => h) (yields_lookup (by kernel_rfl) 93 (.tmp 11) (.tmp 12) rfl (.map none) (.agg kcs.toArray) (by simp [Act.eval]) (by simp [Act.eval]) (.tuple #[.int .u64 0, .bool false]) (fun W hW => HLk.out W hW.2.2)) (by assumption) ?_
  change wpAnyH _ _ _ _ _ _ _ (Act.put _ (some (13 : Nat)) (.tuple #[.int .u64 0, .bool false])) _
  simp only [Act.put, List.setIfInBounds_toArray, List.set_cons_zero, List.set_cons_succ]
  refine wpAnyH_take (i := 5) (v := (.tuple #[.int .u64 0, .bool false])) rfl (by kernel_rfl) (by kernel_rfl) (by kernel_rfl) (fun _ _ _ h => h) (Or.inl ⟨by kernel_rfl, fun w hSw => ?_⟩) (by assumption) ?_
  · (try dsimp only at hSw); go_simp <;> (try rfl)
  change wpAnyH _ _ _ _ _ _ _ (Act.put _ (some (8 : Nat)) (.tuple #[.int .u64 0, .bool false])) _
  simp only [Act.put, List.setIfInBounds_toArray, List.set_cons_zero, List.set_cons_succ]
  refine wpAnyH_take (i := 6) (v := (.int .u64 0)) rfl (by kernel_rfl) (by kernel_rfl) (by kernel_rfl) (fun _ _ _ h => h) (Or.inl ⟨by kernel_rfl, fun w hSw => ?_⟩) (by assumption) ?_
  · (try dsimp only at hSw); go_simp <;> (try rfl)
  change wpAnyH _ _ _ _ _ _ _ (Act.put _ (some (14 : Nat)) (.int .u64 0)) _
  simp only [Act.put, List.setIfInBounds_toArray, List.set_cons_zero, List.set_cons_succ]
  refine wpAnyH_take (i := 7) (v := (.bool false)) rfl (by kernel_rfl) (by kernel_rfl) (by kernel_rfl) (fun _ _ _ h => h) (Or.inl ⟨by kernel_rfl, fun w hSw => ?_⟩) (by assumption) ?_
  · (try dsimp only at hSw); go_simp <;> (try rfl)
  change wpAnyH _ _ _ _ _ _ _ (Act.put _ (some (15 : Nat)) (.bool false)) _
  simp only [Act.put, List.setIfInBounds_toArray, List.set_cons_zero, List.set_cons_succ]
  refine wpAnyH_take (i := 8) (v := (.int .u64 0)) rfl (by kernel_rfl) (by kernel_rfl) (by kernel_rfl) (fun _ _ _ h => h) (Or.inl ⟨by kernel_rfl, fun w hSw => ?_⟩) (by assumption) ?_
  · (try dsimp only at hSw); go_simp <;> (try rfl)
  change wpAnyH _ _ _ _ _ _ _ (Act.put _ (some (5 : Nat)) (.int .u64 0)) _
  simp only [Act.put, List.setIfInBounds_toArray, List.set_cons_zero, List.set_cons_succ]
  refine wpAnyH_take (i := 9) (v := (.bool false)) rfl (by kernel_rfl) (by kernel_rfl) (by kernel_rfl) (fun _ _ _ h => h) (Or.inl ⟨by kernel_rfl, fun w hSw => ?_⟩) (by assumption) ?_
  · (try dsimp only at hSw); go_simp <;> (try rfl)
  change wpAnyH _ _ _ _ _ _ _ (Act.put _ (some (6 : Nat)) (.bool false)) _
  simp only [Act.put, List.setIfInBounds_toArray, List.set_cons_zero, List.set_cons_succ]
  refine wpAnyH_done (by kernel_rfl) ?_ _
  go_wp2_with (refine wpList_store_cell rfl 93 (.tmp 24) (.tmp 23) rfl g 0 rfl _ rfl rfl rfl Try.size_mapD 96 [.map none, .map m2] (Blk.alloc (Blk.drew (HB0.out.alloc _)) _) (by simp) ?_; intro wz hbz hgz; obtain ⟨hB, h3, hM, hO, hF, hN, c2, hlen⟩ := freshD HNil.out HB0.out HOm.out hbz hgz; clear hbz hgz)
  obtain ⟨b3, hb3⟩ : ∃ b3, b3 = w.heap.size := ⟨_, rfl⟩
  obtain ⟨r, hr⟩ : ∃ r, r = w.heap.size + 1 := ⟨_, rfl⟩
  rw [← hr] at hB hM hN
  rw [← hb3] at h3
  have HB := Lib.hid hB
  have H3 := Lib.hid h3
  have HM := Lib.hid hM
  have HO := Lib.hid hO
  have HF := Lib.hid hF
  have HNe := Lib.hid hN
  clear hB h3 hM hO hF hN c2 hlen
  rw [← hb3]
  clear hb3 hr
  try dsimp only [Act.put]
  refine wp_region_held_drew (S := fun W => Blk W g 96 [.map (some r), .map m2] ∧ Blk W b3 162 kcs) (by kernel_rfl) ⟨HB.out.drew, H3.out.drew⟩ (fun hHeld => ?_)
  change wpAnyH _ _ _ _ _ _ #[false, false, false, false, false, false] _ _
  refine wpAnyH_take (i := 0) (v := (.pointer (some ⟨g, 0, none⟩))) rfl (by kernel_rfl) (by kernel_rfl) (by kernel_rfl) (fun _ _ _ h => h) (Or.inl ⟨by kernel_rfl, fun w hSw => ?_⟩) (by assumption) ?_
  · (try dsimp only at hSw); go_simp <;> (try rfl)
  change wpAnyH _ _ _ _ _ _ _ (Act.put _ (some (31 : Nat)) (.pointer (some ⟨g, 0, none⟩))) _
  simp only [Act.put, List.setIfInBounds_toArray, List.set_cons_zero, List.set_cons_succ]
  refine wpAnyH_take (i := 1) (v := (.pointer (some ⟨g, 0, none⟩))) rfl (by kernel_rfl) (by kernel_rfl) (by kernel_rfl) (fun _ _ _ h => h) (Or.inl ⟨by kernel_rfl, fun w hSw => ?_⟩) (by assumption) ?_
  · (try dsimp only at hSw); go_simp <;> (try rfl)
  change wpAnyH _ _ _ _ _ _ _ (Act.put _ (some (32 : Nat)) (.pointer (some ⟨g, 0, none⟩))) _
  simp only [Act.put, List.setIfInBounds_toArray, List.set_cons_zero, List.set_cons_succ]
  refine wpAnyH_take (i := 2) (v := (.map (some r))) rfl (by kernel_rfl) (by kernel_rfl) (by kernel_rfl) (fun _ _ _ h => h) (yields_load_at (by kernel_rfl) 93 (.tmp 32) rfl (.pointer (some ⟨g, 0, none⟩)) (by simp [Act.eval]) (.map (some r)) (fun W hW => load_one' (Try.agg_mapD W) (hW.1.cellAt rfl))) (by assumption) ?_
  change wpAnyH _ _ _ _ _ _ _ (Act.put _ (some (33 : Nat)) (.map (some r))) _
  simp only [Act.put, List.setIfInBounds_toArray, List.set_cons_zero, List.set_cons_succ]
  refine wpAnyH_take (i := 3) (v := (.agg kcs.toArray)) rfl (by kernel_rfl) (by kernel_rfl) (by kernel_rfl) (fun _ _ _ h => h) (yields_load_at (by kernel_rfl) 162 (.tmp 3) rfl (.pointer (some ⟨b3, 0, none⟩)) (by simp [Act.eval]) (.agg kcs.toArray) (fun W hW => hW.2.loadAt 162 _ Try.underlying162 rfl (by rw [HKl.out]; kernel_rfl))) (by assumption) ?_
  change wpAnyH _ _ _ _ _ _ _ (Act.put _ (some (34 : Nat)) (.agg kcs.toArray)) _
  simp only [Act.put, List.setIfInBounds_toArray, List.set_cons_zero, List.set_cons_succ]
  refine wpAnyH_take (i := 4) (v := (.int .u64 1)) rfl (by kernel_rfl) (by kernel_rfl) (by kernel_rfl) (fun _ _ _ h => h) (Or.inl ⟨by kernel_rfl, fun w hSw => ?_⟩) (by assumption) ?_
  · (try dsimp only at hSw); go_simp <;> (try rfl)
  change wpAnyH _ _ _ _ _ _ _ (Act.put _ (some (35 : Nat)) (.int .u64 1)) _
  simp only [Act.put, List.setIfInBounds_toArray, List.set_cons_zero, List.set_cons_succ]
  refine wpAnyH_ready (rs := [5]) (by kernel_rfl) (by simp) ?_
  refine AllReadyH.cons (o := ⟨none, .mapUpdate 93 (.tmp 33) (.tmp 34) (.tmp 35), _, _, _, none⟩) rfl (fun K hK => ?_) AllReadyH.nil
  refine step_update_ord Try.keyedD (by kernel_rfl) (.tmp 33) (.tmp 34) (.tmp 35) rfl HM.out.drew x HNx.out (by simp [Act.eval]) (by simp [Act.eval, HKv.out]) (by simp [Act.eval, HNum.out]) ?_; intro wu hmu hgu; have HMu := Lib.hid hmu; have hmap := HM.out.at; have HBu := Lib.hid (HB.out.drew.grown hgu (blk_ne_mapD HB.out.drew hmap)); have H3u := Lib.hid (H3.out.drew.grown hgu (blk_ne_mapD H3.out.drew hmap)); have HOu := Lib.hid (HO.out.keep (fun k e => hgu.block k (HO.out.lt k e) (fun e' => HNe.out k e (Option.some.inj e')))); have HFu := Lib.hid (HF.out.drew.trans (KF.turn hgu (HM.out.2 r rfl).1 ⟨_, _, _, 0, HB.out.drew, rfl⟩ hmap)); clear hmu hgu hmap
  refine hK.out _ _ ⟨HBu.out, H3u.out⟩ (fun hHeld1 => ?_)
  clear hHeld hK K
  have hHeld := hHeld1
  clear hHeld1
  change wpAnyH _ _ _ _ _ _ _ (Act.put _ none undef) _
  simp only [Act.put]
  refine wpAnyH_done (by kernel_rfl) ?_ _
  go_wp2
  go_ret
  exact ⟨by rw [HOrd.out]; rfl, ⟨some r, m2, HBu.out, HMu.out, HOu.out, fun k e1 e2 => HNe.out k e2 (Option.some.inj e1).symm⟩, HFu.out⟩

theorem ordD_any (g : Nat) (ds : List DK) (ts : List TK) (x : DK) (w : World) (h : BS w g ds ts) (hl : ds.length < 9223372036854775807) :
    Calls Try.prog 136 #[.pointer (some ⟨g, 0, none⟩), encD x] w fun e w' => e = .returned (.int .u64 (ord x (also x ds) : Int)) ∧ BS w' g (also x ds) ts ∧ KF g w w' := by
  obtain ⟨m1, m2, h⟩ := h
  by_cases hx : x ∈ ds
  · refine (ordD_hit g m1 m2 ds ts x hx w h).mono ?_
    rintro e w' ⟨rfl, hb⟩
    rw [also_mem hx]
    exact ⟨rfl, ⟨m1, m2, h.through hb⟩, KF.of_below h.1.lt hb⟩
  · cases m1 with
    | none => exact ordD_none g m2 ds ts x hx w h
    | some r => exact ordD_some g m2 r ds ts x hx w h hl
end

section
open Go.RowKit
end

section
open Go.RowKit
theorem str_any (Q : Nat → Prop) {A : Option Addr} {n : Nat} (c : Nat) {t : List UInt8} {W : World} (h : By W Q A n t) : (convert 28 9 (.slice A n c)).run Try.prog W = .ok (.string ⟨t.toArray⟩) W :=
  run_string_by W 28 9 5 Try.underlying28 Try.underlying5 Try.underlying9 Q A n c t h
theorem Try.agg_u8 (w : World) : (isAgg 5).run Try.prog w = .ok false w := by kernel_rfl
end

section
open Go.RowKit

end

section
open Go.RowKit
/-- a kind, as a byte -/
def kb (k : Int) : UInt8 := UInt8.ofNat (k % 256).toNat
theorem kb_wrap (k : Int) : IntKind.u8.wrap k = ((kb k).toNat : Int) := by
  simp only [IntKind.wrap, IntKind.bits, IntKind.signed]
  unfold kb
  rw [UInt8.toNat_ofNat']
  simp
  omega
theorem kb_mod (k : Int) : k % 256 = ((kb k).toNat : Int) := by
  unfold kb
  rw [UInt8.toNat_ofNat']
  omega

set_option maxHeartbeats 4000000 in
set_option maxRecDepth 100000 in
theorem bdig_any (Q : Nat → Prop) (g : Nat) (ds : List DK) (ts : List TK) (k : Int) (t : List UInt8) (A : Option Addr) (n c : Nat) (w : World) (h : BS w g ds ts) (hby : By w Q A n t) (hl : ds.length < 1000000000) :
    Calls Try.prog 133 #[.pointer (some ⟨g, 0, none⟩), .int .i64 k, .slice A n c] w fun e w' => e = .returned (.agg (vs (numB (kb k) (ord (kb k, t) (also (kb k, t) ds)))).toArray) ∧ BS w' g (also (kb k, t) ds) ts ∧ KF g w w' := by
  have hg := h.lt
  have HS := Lib.hid h
  obtain ⟨r, hr⟩ : ∃ r, r = vs (numB (kb k) (ord (kb k, t) (also (kb k, t) ds))) := ⟨_, rfl⟩
  have hrl : r.length = 32 := by rw [hr, vs_length, numB_length]
  have hro : r.toArray.all (·.oneCell') = true := by rw [hr]; exact one_u8
  obtain ⟨s, hs⟩ : ∃ s : ByteArray, s = ⟨t.toArray⟩ := ⟨_, rfl⟩
  have hcv : ∀ o, (convert 28 9 (.slice A n c)).run Try.prog (w.alloc o) = .ok (.string s) (w.alloc o) := fun o => by rw [hs]; exact str_any Q c (hby.alloc o)
  have hord : ∀ W, BS W g ds ts → Calls Try.prog 136 #[.pointer (some ⟨g, 0, none⟩), .agg #[.int .u8 ((kb k).toNat : Int), .string s]] W fun e w' => e = .returned (.int .u64 (ord (kb k, t) (also (kb k, t) ds) : Int)) ∧ BS w' g (also (kb k, t) ds) ts ∧ KF g W w' := fun W h1 => by
    rw [hs]
    exact ordD_any g ds ts (kb k, t) W h1 (by omega)
  have hnb : ∀ W, Calls Try.prog 135 #[.int .u8 ((kb k).toNat : Int), .int .u64 (ord (kb k, t) (also (kb k, t) ds) : Int)] W fun e w' => e = .returned (.agg r.toArray) ∧ Below W.heap.size W w' := fun W => by
    rw [hr]
    have h1 := ord_le (mem_also (kb k, t) ds)
    have h2 := also_length (kb k, t) ds
    exact numbered_any (kb k) _ (by omega) W
  generalize (ord (kb k, t) (also (kb k, t) ds) : Int) = o at hord hnb
  have HRl := Lib.hid hrl
  have HRo := Lib.hid hro
  have HOrd := Lib.hid hord
  have HNb := Lib.hid hnb
  rw [← hr]
  have hkw := kb_wrap k
  have hkm := kb_mod k
  clear h hby hr hrl hro hs hord hnb
  go_enter Try.func133, Try.ntmps133
  go_wp2_with (refine wpList_store_blk rfl 162 (.tmp 7) (.tmp 15) rfl (w.heap.size + 1) [.int .u8 ((kb k).toNat : Int), .string s] rfl rfl 162 [.int .u8 0, .string ⟨#[]⟩] (Blk.fresh (by simp) (by kernel_rfl)) (by kernel_rfl) rfl (by simp [Value.oneCell']) ?_; intro w1 hb1 ho1; have HB1 := Lib.hid hb1; have HA1 : Hid (Blk w1 w.heap.size 40 (vs zero32)) := Lib.hid (((Blk.fresh rfl (by kernel_rfl)).alloc _).grown ho1 (fun e => absurd (Option.some.inj e) (by omega))); have HL1 : Hid (Below w.heap.size w w1) := Lib.hid ((((Below.refl _ w).alloc (Nat.le_refl _) _).alloc (by simp) _).grown ho1 (by simp only [World.size_alloc]; omega) (fun k hk => Option.some.inj hk ▸ Nat.le_succ _)); clear hb1 ho1)
  have HX1 : Hid (KF g w w1) := Lib.hid (KF.of_below hg HL1.out)
  have HS1 : Hid (BS w1 g ds ts) := Lib.hid (HS.out.through HL1.out)
  obtain ⟨b6, hb6⟩ : ∃ b6, b6 = w.heap.size := ⟨_, rfl⟩
  obtain ⟨b7, hb7⟩ : ∃ b7, b7 = w.heap.size + 1 := ⟨_, rfl⟩
  have h6w : w.heap.size ≤ b6 := by omega
  have h67 : b6 ≠ b7 := by omega
  have h6g : g < b6 := by omega
  have h7g : g < b7 := by omega
  rw [← hb6] at HA1
  rw [← hb7] at HB1
  rw [← hb7, ← hb6]
  clear hb6 hb7
  try dsimp only [Act.put]
  refine wp_region_held_drew (S := fun W => Blk W b7 162 [.int .u8 ((kb k).toNat : Int), .string s]) (by kernel_rfl) HB1.out.drew (fun hHeld => ?_)
  change wpAnyH _ _ _ _ _ _ #[false, false, false, false, false, false, false, false, false] _ _
  refine wpAnyH_take (i := 0) (v := (.pointer (some ⟨b7, 0, none⟩))) rfl (by kernel_rfl) (by kernel_rfl) (by kernel_rfl) (fun _ _ _ h => h) (Or.inl ⟨by kernel_rfl, fun w hSw => ?_⟩) (by assumption) ?_
  · (try dsimp only at hSw); go_simp <;> (try rfl)
  change wpAnyH _ _ _ _ _ _ _ (Act.put _ (some (16 : Nat)) (.pointer (some ⟨b7, 0, none⟩))) _
  simp only [Act.put, List.setIfInBounds_toArray, List.set_cons_zero, List.set_cons_succ]
  refine wpAnyH_take (i := 1) (v := (.int .u8 ((kb k).toNat : Int))) rfl (by kernel_rfl) (by kernel_rfl) (by kernel_rfl) (fun _ _ _ h => h) (yields_load_at (by kernel_rfl) 5 (.tmp 16) rfl (.pointer (some ⟨b7, 0, none⟩)) (by simp [Act.eval]) (.int .u8 ((kb k).toNat : Int)) (fun W hW => load_one' (Try.agg_u8 W) (hW.cellAt rfl))) (by assumption) ?_
  change wpAnyH _ _ _ _ _ _ _ (Act.put _ (some (17 : Nat)) (.int .u8 ((kb k).toNat : Int))) _
  simp only [Act.put, List.setIfInBounds_toArray, List.set_cons_zero, List.set_cons_succ]
  refine wpAnyH_take (i := 2) (v := (.pointer (some ⟨g, 0, none⟩))) rfl (by kernel_rfl) (by kernel_rfl) (by kernel_rfl) (fun _ _ _ h => h) (Or.inl ⟨by kernel_rfl, fun w hSw => ?_⟩) (by assumption) ?_
  · (try dsimp only at hSw); go_simp <;> (try rfl)
  change wpAnyH _ _ _ _ _ _ _ (Act.put _ (some (18 : Nat)) (.pointer (some ⟨g, 0, none⟩))) _
  simp only [Act.put, List.setIfInBounds_toArray, List.set_cons_zero, List.set_cons_succ]
  refine wpAnyH_take (i := 3) (v := (.pointer (some ⟨g, 0, none⟩))) rfl (by kernel_rfl) (by kernel_rfl) (by kernel_rfl) (fun _ _ _ h => h) (Or.inl ⟨by kernel_rfl, fun w hSw => ?_⟩) (by assumption) ?_
  · (try dsimp only at hSw); go_simp <;> (try rfl)
  change wpAnyH _ _ _ _ _ _ _ (Act.put _ (some (19 : Nat)) (.pointer (some ⟨g, 0, none⟩))) _
  simp only [Act.put, List.setIfInBounds_toArray, List.set_cons_zero, List.set_cons_succ]
  refine wpAnyH_take (i := 4) (v := (.pointer (some ⟨g, 0, none⟩))) rfl (by kernel_rfl) (by kernel_rfl) (by kernel_rfl) (fun _ _ _ h => h) (Or.inl ⟨by kernel_rfl, fun w hSw => ?_⟩) (by assumption) ?_
  · (try dsimp only at hSw); go_simp <;> (try rfl)
  change wpAnyH _ _ _ _ _ _ _ (Act.put _ (some (20 : Nat)) (.pointer (some ⟨g, 0, none⟩))) _
  simp only [Act.put, List.setIfInBounds_toArray, List.set_cons_zero, List.set_cons_succ]
  refine wpAnyH_take (i := 5) (v := (.agg #[.int .u8 ((kb k).toNat : Int), .string s])) rfl (by kernel_rfl) (by kernel_rfl) (by kernel_rfl) (fun _ _ _ h => h) (yields_load_at (by kernel_rfl) 162 (.tmp 7) rfl (.pointer (some ⟨b7, 0, none⟩)) (by simp [Act.eval]) (.agg #[.int .u8 ((kb k).toNat : Int), .string s]) (fun W hW => hW.loadAt 162 _ Try.underlying162 rfl (by kernel_rfl))) (by assumption) ?_
  change wpAnyH _ _ _ _ _ _ _ (Act.put _ (some (21 : Nat)) (.agg #[.int .u8 ((kb k).toNat : Int), .string s])) _
  simp only [Act.put, List.setIfInBounds_toArray, List.set_cons_zero, List.set_cons_succ]
  refine wpAnyH_ready (rs := [6]) (by kernel_rfl) (by simp) ?_
  refine AllReadyH.cons rfl (fun K hK => ?_) AllReadyH.nil
  go_simp
  refine (HOrd.out _ HS1.out.drew).mono ?_
  rintro e wa ⟨rfl, hsa, hfa⟩; have HSa := Lib.hid hsa; have HXa := Lib.hid (HX1.out.drew.trans hfa); have HBa := Lib.hid (hfa.blk HB1.out.drew (Nat.ne_of_gt h7g)); have HAa := Lib.hid (hfa.blk HA1.out.drew (Nat.ne_of_gt h6g)); clear hsa hfa
  go_wp2_with fail
  refine hK.out _ _ HBa.out (fun hHeld1 => ?_)
  clear hHeld hK K
  have hHeld := hHeld1
  clear hHeld1
  refine wpAnyH_ready (rs := [7]) (by kernel_rfl) (by simp) ?_
  refine AllReadyH.cons rfl (fun K hK => ?_) AllReadyH.nil
  go_simp
  refine (HNb.out _).mono ?_
  rintro e wb ⟨rfl, hb⟩; have HSb := Lib.hid (HSa.out.through hb); have HXb := Lib.hid (HXa.out.below hg hb); have HBb := Lib.hid (HBa.out.through hb); have HAb := Lib.hid (HAa.out.through hb); clear hb
  go_wp2_with fail
  refine hK.out _ _ HBb.out (fun hHeld1 => ?_)
  clear hHeld hK K
  have hHeld := hHeld1
  clear hHeld1
  refine wpAnyH_ready (rs := [8]) (by kernel_rfl) (by simp) ?_
  refine AllReadyH.cons (o := ⟨none, .store 40 (.tmp 6) (.tmp 23), _, _, _, none⟩) rfl (fun K hK => ?_) AllReadyH.nil
  refine step_store_blk rfl 40 (.tmp 6) (.tmp 23) rfl b6 r (by simp [Act.eval]) (by simp [Act.eval]) 40 (vs zero32) HAb.out (by rw [HRl.out]; kernel_rfl) (by rw [HRl.out]; rfl) HRo.out ?_; intro wc hbc hoc; have HBc := Lib.hid (HBb.out.grown hoc (fun e => h67 (Option.some.inj e).symm)); have HAc := Lib.hid hbc; have HSc := Lib.hid (HSb.out.grown HAb.out hoc (Nat.ne_of_lt h6g)); have HXc := Lib.hid (HXb.out.grownB hoc h6w hg); clear hbc hoc
  refine hK.out _ _ HBc.out (fun hHeld1 => ?_)
  clear hHeld hK K
  have hHeld := hHeld1
  clear hHeld1
  change wpAnyH _ _ _ _ _ _ _ (Act.put _ none undef) _
  simp only [Act.put]
  refine wpAnyH_done (by kernel_rfl) ?_ _
  go_wp2
  refine bodyPost_ret (v := .agg r.toArray) (results_cell_row rfl _ _ b6 40 _ (0, 0) _ rfl HAc.out Try.underlying40 rfl ?r1) rfl ⟨rfl, HSc.out, HXc.out⟩
  rw [List.size_toArray, HRl.out]; kernel_rfl

end

section
open Go.RowKit
theorem bnew_any (w : World) :
    Calls Try.prog 17 #[] w fun e w' => e = .returned (.pointer (some ⟨w.heap.size, 0, none⟩)) ∧ BS w' w.heap.size [] [] ∧ Below w.heap.size w w' := by
  go_enter Try.func17, Try.ntmps17
  go_wp2
  go_ret
  exact ⟨rfl, ⟨none, none, Blk.fresh rfl (by kernel_rfl), MIs.nil, MIs.nil, fun r h => by cases h⟩, (Below.refl _ w).alloc (Nat.le_refl _) _⟩
end

end Go.Proofs.Ytheecifgbkdecaa
