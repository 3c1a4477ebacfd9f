/-
  Joined: Mg.
-/
import Derived.MapKept
import GoSem.Instr.MapEntry
import Derived.Test.YtpolofehkckaoaaUH1
namespace Go.Proofs.Ytpolofehkckaoaa
open Go.RowKit

section
variable {κ : Type} [DecidableEq κ]
/-- the first that is so, and where it stands -/
def fndK (x : κ) : List (κ × Value) → Nat → Option (Nat × Value)
 | [], _ => none
 | p :: l, i => if x = p.1 then some (i, p.2) else fndK x l (i + 1)
def getK (x : κ) : List (κ × Value) → Option Value
 | [] => none
 | p :: l => if x = p.1 then some p.2 else getK x l
def putK (x : κ) (v : Value) : List (κ × Value) → List (κ × Value)
 | [] => [(x, v)]
 | p :: l => if x = p.1 then (x, v) :: l else p :: putK x v l
def delK (x : κ) : List (κ × Value) → List (κ × Value)
 | [] => []
 | p :: l => if x = p.1 then l else p :: delK x l
/-- as mapEntry leaves it -/
def entK (x : κ) (z : Value) : List (κ × Value) → List (κ × Value)
 | [] => [(x, z)]
 | p :: l => if x = p.1 then p :: l else p :: entK x z l
theorem fnd_spec (x : κ) (v z : Value) : ∀ (L : List (κ × Value)) (k : Nat), (fndK x L k = none ∧ getK x L = none ∧ putK x v L = L ++ [(x, v)] ∧ delK x L = L ∧ entK x z L = L ++ [(x, z)]) ∨
  ∃ i u, fndK x L k = some (k + i, u) ∧ getK x L = some u ∧ L[i]? = some (x, u) ∧ putK x v L = L.set i (x, v) ∧ delK x L = L.eraseIdx i ∧ entK x z L = L
 | [], k => .inl ⟨rfl, rfl, rfl, rfl, rfl⟩
 | p :: l, k => by
  by_cases h : x = p.1
  ·refine .inr ⟨0, p.2, ?_, ?_, ?_, ?_, ?_, ?_⟩
   ·rw [fndK, if_pos h]; rfl
   ·rw [getK, if_pos h]
   ·rw [h]; rfl
   ·rw [putK, if_pos h]; rfl
   ·rw [delK, if_pos h]; rfl
   ·rw [entK, if_pos h]
  ·rcases fnd_spec x v z l (k + 1) with ⟨h1, h2, h3, h4, h5⟩ | ⟨i, u, h1, h2, h3, h4, h5, h6⟩
   ·refine .inl ⟨?_, ?_, ?_, ?_, ?_⟩
    ·rw [fndK, if_neg h, h1]
    ·rw [getK, if_neg h, h2]
    ·rw [putK, if_neg h, h3]; rfl
    ·rw [delK, if_neg h, h4]
    ·rw [entK, if_neg h, h5]; rfl
   ·refine .inr ⟨i + 1, u, ?_, ?_, ?_, ?_, ?_, ?_⟩
    ·rw [fndK, if_neg h, h1]; congr 2; omega
    ·rw [getK, if_neg h, h2]
    ·simpa using h3
    ·rw [putK, if_neg h, h4]; rfl
    ·rw [delK, if_neg h, h5]; rfl
    ·rw [entK, if_neg h, h6]
theorem get_put (x q : κ) (v : Value) : ∀ L : List (κ × Value), getK q (putK x v L) = if q = x then some v else getK q L
 | [] => by
  simp only [putK, getK]
 | p :: l => by
  unfold putK
  by_cases h : x = p.1
  ·rw [if_pos h]
   simp only [getK]
   by_cases hq : q = x
   ·rw [if_pos hq, if_pos hq]
   ·rw [if_neg hq, if_neg hq, if_neg (fun e => hq (e.trans h.symm))]
  ·rw [if_neg h]
   simp only [getK]
   by_cases hq : q = p.1
   ·rw [if_pos hq, if_pos hq, if_neg (fun e => h (e.symm.trans hq))]
   ·rw [if_neg hq, if_neg hq]
    exact get_put x q v l
theorem get_none {x : κ} : ∀ {L : List (κ × Value)}, x ∉ L.map Prod.fst → getK x L = none
 | [], _ => rfl
 | p :: l, h => by
  rw [List.map_cons, List.mem_cons, not_or] at h
  rw [getK, if_neg h.1]
  exact get_none h.2
theorem get_del (x q : κ) : ∀ {L : List (κ × Value)}, (L.map Prod.fst).Nodup → getK q (delK x L) = if q = x then none else getK q L
 | [], _ => by simp [delK, getK]
 | p :: l, hn => by
  rw [List.map_cons, List.nodup_cons] at hn
  unfold delK
  by_cases h : x = p.1
  ·rw [if_pos h]
   simp only [getK]
   by_cases hq : q = x
   ·rw [if_pos hq]
    exact get_none (by rw [hq, h]; exact hn.1)
   ·rw [if_neg hq, if_neg (fun e => hq (e.trans h.symm))]
  ·rw [if_neg h]
   simp only [getK]
   by_cases hq : q = p.1
   ·rw [if_pos hq, if_pos hq, if_neg (fun e => h (e.symm.trans hq))]
   ·rw [if_neg hq, if_neg hq]
    exact get_del x q hn.2
theorem mem_put {x : κ} {v : Value} {p : κ × Value} : ∀ {L : List (κ × Value)}, p ∈ putK x v L → p = (x, v) ∨ p ∈ L
 | [], h => .inl (List.mem_singleton.1 h)
 | a :: l, h => by
  unfold putK at h
  split at h
  ·rcases List.mem_cons.1 h with h | h
   ·exact .inl h
   ·exact .inr (List.mem_cons_of_mem _ h)
  ·rcases List.mem_cons.1 h with h | h
   ·exact .inr (by rw [h]; exact List.mem_cons_self ..)
   ·exact (mem_put h).imp id (List.mem_cons_of_mem _)
theorem keys_put {x : κ} {v : Value} : ∀ {L : List (κ × Value)}, (putK x v L).map Prod.fst = if x ∈ L.map Prod.fst then L.map Prod.fst else L.map Prod.fst ++ [x]
 | [] => by simp [putK]
 | p :: l => by
  unfold putK
  by_cases h : x = p.1
  ·rw [if_pos h, if_pos (by rw [h]; simp)]
   simp [h]
  ·rw [if_neg h, List.map_cons, keys_put, List.map_cons]
   by_cases hm : x ∈ l.map Prod.fst
   ·rw [if_pos hm, if_pos (List.mem_cons_of_mem _ hm)]
   ·rw [if_neg hm, if_neg (fun e => by rcases List.mem_cons.1 e with e | e; exact h e; exact hm e)]
    rfl
theorem nodup_put {x : κ} {v : Value} {L : List (κ × Value)} (h : (L.map Prod.fst).Nodup) : ((putK x v L).map Prod.fst).Nodup := by
 rw [keys_put]
 split
 ·exact h
 ·rename_i hm
  exact List.nodup_append.2 ⟨h, by simp, fun a ha b hb => by rw [List.mem_singleton.1 hb]; exact fun e => hm (e ▸ ha)⟩
theorem sub_del {x : κ} : ∀ {L : List (κ × Value)}, (delK x L).Sublist L
 | [] => List.Sublist.refl _
 | p :: l => by
  unfold delK
  split
  ·exact List.sublist_cons_self ..
  ·exact sub_del.cons_cons _
theorem get_ent (x q : κ) (z : Value) : ∀ L : List (κ × Value), getK q (entK x z L) = if q = x then some ((getK x L).getD z) else getK q L
 | [] => by
  simp only [entK, getK]
  by_cases h : q = x
  ·rw [if_pos h, if_pos h]; rfl
  ·rw [if_neg h, if_neg h]
 | p :: l => by
  unfold entK
  by_cases h : x = p.1
  ·rw [if_pos h]
   simp only [getK]
   by_cases hq : q = x
   ·rw [if_pos hq, if_pos (hq.trans h), if_pos h]; rfl
   ·rw [if_neg hq]
  ·rw [if_neg h]
   simp only [getK]
   by_cases hq : q = x
   ·rw [if_pos hq, if_neg (fun e => h (hq.symm.trans e)), if_neg h, get_ent x q z l, if_pos hq]
   ·rw [if_neg hq, get_ent x q z l, if_neg hq]
def kvE (e : MapEntry) : Value × Value := (e.key, e.val)
def encK (enc : κ → Value) (L : List (κ × Value)) : List (Value × Value) := L.map fun p => (enc p.1, p.2)
/-- what is asked of a type of keys -/
structure KeyT (P : Program) (kt : TypeId) (enc : κ → Value) (ok : κ → Prop) : Prop where
 find : ∀ (x : κ), ok x → ∀ (es : List MapEntry) (L : List (κ × Value)), es.map kvE = encK enc L → (∀ p ∈ L, ok p.1) → ∀ w, (Instr.findKey kt (enc x) es).run P w = .ok (fndK x L 0) w
 chk : ∀ (em : Bool) (x : κ) (w : World), ok x → (Instr.checkKey em 10000 kt (enc x)).run P w = .ok () w
 bits : ∀ x, ok x → Instr.sameBits 10000 (enc x) (enc x) = true
variable {P : Program} {kt vt mt : TypeId} {enc : κ → Value} {ok : κ → Prop}
theorem find_now {d : TypeDesc} {x : κ} (heq : ∀ y, Instr.sameNow d (enc x) (enc y) = some (decide (x = y))) : ∀ (L : List (κ × Value)) (es : List MapEntry) (k : Nat), es.map kvE = encK enc L → Instr.findNow d (enc x) es k = some (fndK x L k)
 | [], [], k, _ => rfl
 | [], e :: es, k, h => by simp [encK] at h
 | p :: l, [], k, h => by simp [encK] at h
 | p :: l, e :: es, k, h => by
  simp only [encK, List.map_cons, List.cons.injEq] at h
  obtain ⟨h1, h2⟩ := h
  have e1 : e.key = enc p.1 := congrArg Prod.fst h1
  have e2 : e.val = p.2 := congrArg Prod.snd h1
  unfold Instr.findNow fndK
  rw [e1, heq]
  by_cases hxp : x = p.1
  ·simp [hxp, e2]
  ·simp only [hxp, decide_false, if_false]
   exact find_now heq l es (k + 1) h2
theorem KeyT.now {d : TypeDesc} (hd : P.underlying kt = some d) (heq : ∀ x y, Instr.sameNow d (enc x) (enc y) = some (decide (x = y)))
  (hc : ∀ (em : Bool) (x : κ) (w : World), ok x → (Instr.checkKey em 10000 kt (enc x)).run P w = .ok () w) (hb : ∀ x, ok x → Instr.sameBits 10000 (enc x) (enc x) = true) : KeyT P kt enc ok :=
 ⟨fun x _ es L h _ _ => Go.MapKept.run_findKey hd (find_now (heq x) L es 0 h), hc, hb⟩

/-- a map that holds this -/
def MpIs (W : World) (r : Nat) (E : List (Value × Value)) : Prop := ∃ es ck, W.heap[r]? = some (.map es ck) ∧ es.toList.map kvE = E ∧ (∀ x ∈ es.toList, x.born < ck) ∧ (es.toList.map (·.born)).Nodup
theorem MpIs.lt {W : World} {r : Nat} {E : List (Value × Value)} (h : MpIs W r E) : r < W.heap.size := by
 obtain ⟨es, ck, hb, _⟩ := h
 exact (Array.getElem?_eq_some_iff.1 hb).1
theorem MpIs.keep {W W' : World} {r : Nat} {E : List (Value × Value)} (h : MpIs W r E) (hb : W'.heap[r]? = W.heap[r]?) : MpIs W' r E := by
 obtain ⟨es, ck, h1, h2⟩ := h
 exact ⟨es, ck, hb.trans h1, h2⟩
theorem MpIs.through {W W' : World} {r : Nat} {E : List (Value × Value)} (h : MpIs W r E) (hb : Below W.heap.size W W') : MpIs W' r E := h.keep (hb.block r h.lt)
theorem MpIs.grown {W W' : World} {r : Nat} {E : List (Value × Value)} {row : Option Nat} (h : MpIs W r E) (hg : W.grownBy W' row) (hne : some r ≠ row) : MpIs W' r E := h.keep (hg.block r h.lt hne)
theorem MpIs.made (W : World) : MpIs (W.alloc (.map #[] 0)) W.heap.size [] := ⟨#[], 0, by show (W.heap.push _)[W.heap.size]? = _; simp, rfl, by simp, by simp⟩
theorem mp_kept {W : World} {r : Nat} {E : List (Value × Value)} {t : TypeId} {cs : List Value} {g : Nat} (h : MpIs W r E) (hb : Blk W g t cs) : g ≠ r := fun e => by
 obtain ⟨es, ck, h1, _⟩ := h
 have h2 : W.heap[g]? = _ := hb
 rw [e, h1] at h2
 exact absurd h2 (by simp)

section
variable {W : World} {r : Nat} {L : List (κ × Value)}
theorem MpIs.look (K : KeyT P kt enc ok) (hm : P.underlying mt = some (.map kt vt)) (h : MpIs W r (encK enc L)) (hL : ∀ p ∈ L, ok p.1) {x : κ} (hx : ok x) {z : Value} (hz : (zeroValue vt).run P W = .ok z W) :
  (Instr.lookup mt (.map (some r)) (enc x) false).run P W = .ok ((getK x L).getD z) W := by
 obtain ⟨es, ck, hb, hk, _⟩ := h
 have hget := Go.MapKept.run_getObj_map (P := P) hb
 have hf := K.find x hx es.toList L hk hL W
 have hc := fun em => K.chk em x W hx
 unfold Instr.lookup
 simp only [Sem.run_bind, run_underlying hm, Result.andThen_ok]
 rcases fnd_spec x z z L 0 with ⟨h1, h2, _⟩ | ⟨i, u, h1, h2, _⟩
 ·rw [h1] at hf
  simp [Sem.run_bind, hget, hc, hf, h2, hz]
 ·rw [h1] at hf
  simp [Sem.run_bind, hget, hc, hf, h2]
theorem MpIs.look2 (K : KeyT P kt enc ok) (hm : P.underlying mt = some (.map kt vt)) (h : MpIs W r (encK enc L)) (hL : ∀ p ∈ L, ok p.1) {x : κ} (hx : ok x) {z : Value} (hz : (zeroValue vt).run P W = .ok z W) :
  (Instr.lookup mt (.map (some r)) (enc x) true).run P W = .ok (.tuple #[(getK x L).getD z, .bool (getK x L).isSome]) W := by
 obtain ⟨es, ck, hb, hk, _⟩ := h
 have hget := Go.MapKept.run_getObj_map (P := P) hb
 have hf := K.find x hx es.toList L hk hL W
 have hc := fun em => K.chk em x W hx
 unfold Instr.lookup
 simp only [Sem.run_bind, run_underlying hm, Result.andThen_ok]
 rcases fnd_spec x z z L 0 with ⟨h1, h2, _⟩ | ⟨i, u, h1, h2, _⟩
 ·rw [h1] at hf
  simp [Sem.run_bind, hget, hc, hf, h2, hz]
 ·rw [h1] at hf
  simp [Sem.run_bind, hget, hc, hf, h2]
theorem grown_map (_ : r < W.heap.size) (o : Obj) : W.grownBy { W with heap := W.heap.setIfInBounds r o } (some r) := ⟨rfl, rfl, rfl, by simp, fun k _ hne => Array.getElem?_setIfInBounds_ne (by intro e; exact hne (by rw [e]))⟩
theorem kv_push {es : Array MapEntry} {E : List (Value × Value)} (h : es.toList.map kvE = E) (e : MapEntry) : (es.push e).toList.map kvE = E ++ [kvE e] := by
 rw [Array.toList_push, List.map_append, h]; rfl
theorem born_push {es : Array MapEntry} {ck : Nat} (h1 : ∀ x ∈ es.toList, x.born < ck) (h2 : (es.toList.map (·.born)).Nodup) (key val : Value) : (∀ x ∈ (es.push { key, val, born := ck }).toList, x.born < ck + 1) ∧ ((es.push { key, val, born := ck }).toList.map (·.born)).Nodup := by
 rw [Array.toList_push]
 refine ⟨fun x hx => ?_, ?_⟩
 ·rcases List.mem_append.1 hx with hx | hx
  ·exact Nat.lt_succ_of_lt (h1 x hx)
  ·rw [List.mem_singleton.1 hx]; exact Nat.lt_succ_self _
 ·rw [List.map_append]
  refine List.nodup_append.2 ⟨h2, by simp, fun a ha b hb => ?_⟩
  obtain ⟨y, hy, rfl⟩ := List.mem_map.1 ha
  rw [List.map_cons, List.map_nil, List.mem_singleton] at hb
  rw [hb]
  exact Nat.ne_of_lt (h1 y hy)
theorem list_mod {es : Array MapEntry} {i : Nat} (f : MapEntry → MapEntry) : (es.modify i f).toList = es.toList.modify i f := by simp
theorem born_mod {es : Array MapEntry} {ck : Nat} (h1 : ∀ x ∈ es.toList, x.born < ck) (h2 : (es.toList.map (·.born)).Nodup) (i : Nat) (f : MapEntry → MapEntry) (hf : ∀ e, (f e).born = e.born) : (∀ x ∈ (es.modify i f).toList, x.born < ck) ∧ ((es.modify i f).toList.map (·.born)).Nodup := by
 have e : (es.modify i f).toList.map (·.born) = es.toList.map (·.born) := by
  rw [list_mod]
  refine List.ext_getElem? fun j => ?_
  simp only [List.getElem?_map, List.getElem?_modify]
  by_cases hj : i = j
  ·simp [hj, Option.map_map, Function.comp_def, hf]
  ·simp [hj]
 refine ⟨fun x hx => ?_, by rw [e]; exact h2⟩
 have h3 : x.born ∈ (es.modify i f).toList.map (·.born) := List.mem_map.2 ⟨x, hx, rfl⟩
 rw [e] at h3
 obtain ⟨y, hy, h4⟩ := List.mem_map.1 h3
 rw [← h4]
 exact h1 y hy
theorem kv_mod {κ : Type} {enc : κ → Value} {L : List (κ × Value)} {es : Array MapEntry} (hk : es.toList.map kvE = encK enc L) (i : Nat) (x : κ) (v : Value) (f : MapEntry → MapEntry) (hf : ∀ e, es[i]? = some e → kvE (f e) = (enc x, v)) : (es.modify i f).toList.map kvE = encK enc (L.set i (x, v)) := by
 rw [list_mod]
 refine List.ext_getElem? fun j => ?_
 have hj := congrArg (fun l => l[j]?) hk
 simp only [encK, List.getElem?_map, List.getElem?_modify, List.getElem?_set] at hj ⊢
 by_cases h : i = j
 ·subst h
  simp only [if_true]
  have hlen : es.toList.length = L.length := by have := congrArg List.length hk; simpa [encK] using this
  by_cases hi : i < L.length
  ·have hi2 : i < es.toList.length := by omega
   simp only [if_pos hi]
   rw [List.getElem?_eq_getElem hi2]
   show some (kvE (f es.toList[i])) = some (enc x, v)
   rw [hf _ (by rw [← Array.getElem?_toList, List.getElem?_eq_getElem hi2])]
  ·have hi2 : es.toList.length ≤ i := by omega
   simp only [if_neg hi]
   rw [List.getElem?_eq_none hi2]
   rfl
 ·simp only [if_neg h]
  simpa using hj
theorem at_kv {κ : Type} {enc : κ → Value} {L : List (κ × Value)} {es : Array MapEntry} (hk : es.toList.map kvE = encK enc L) {i : Nat} {x : κ} {u : Value} (h : L[i]? = some (x, u)) : ∃ e, es[i]? = some e ∧ e.key = enc x ∧ e.val = u := by
 have hj := congrArg (fun l => l[i]?) hk
 simp only [encK, List.getElem?_map, h, Option.map_some, Array.getElem?_toList] at hj
 obtain ⟨e, h1, h2⟩ := Option.map_eq_some_iff.1 hj
 exact ⟨e, h1, congrArg Prod.fst h2, congrArg Prod.snd h2⟩
theorem MpIs.upd (K : KeyT P kt enc ok) (hm : P.underlying mt = some (.map kt vt)) (h : MpIs W r (encK enc L)) (hL : ∀ p ∈ L, ok p.1) {x : κ} (hx : ok x) (v : Value) :
  ∃ W', (Instr.mapUpdate mt (.map (some r)) (enc x) v).run P W = .ok () W' ∧ MpIs W' r (encK enc (putK x v L)) ∧ W.grownBy W' (some r) := by
 have hlt := h.lt
 obtain ⟨es, ck, hb, hk, hb1, hb2⟩ := h
 have hget := Go.MapKept.run_getObj_map (P := P) hb
 have hset := fun o => Go.MapKept.run_setObj_map (P := P) (o := o) hb
 have hf := K.find x hx es.toList L hk hL W
 have hc := fun em => K.chk em x W hx
 have hat : ∀ o : Obj, ({ W with heap := W.heap.setIfInBounds r o } : World).heap[r]? = some o := fun o => Array.getElem?_setIfInBounds_self_of_lt hlt
 unfold Instr.mapUpdate
 simp only [Sem.run_bind, run_underlying hm, Result.andThen_ok, hget, hc, hf]
 rcases fnd_spec x v v L 0 with ⟨h1, _, h3, _⟩ | ⟨i, u, h1, _, h3, h4, _⟩
 ·rw [h1, h3]
  refine ⟨_, hset _, ⟨_, _, hat _, ?_, (born_push hb1 hb2 _ _).1, (born_push hb1 hb2 _ _).2⟩, grown_map hlt _⟩
  rw [kv_push hk]
  simp [encK, kvE]
 ·rw [h1, h4, Nat.zero_add]
  obtain ⟨e, he, hek, hev⟩ := at_kv hk h3
  have hkeep : (Instr.keyThatStays (((es[i]?).map (·.key)).getD (enc x)) (enc x)).run P W = .ok (enc x) W := by
   rw [he]
   simp only [Option.map_some, Option.getD_some, hek]
   unfold Instr.keyThatStays
   rw [if_pos (K.bits x hx)]
   rfl
  simp only [Sem.run_bind, hkeep, Result.andThen_ok]
  have hbm := born_mod hb1 hb2 i (fun e => { e with key := enc x, val := v }) (fun _ => rfl)
  refine ⟨_, hset _, ⟨_, _, hat _, kv_mod hk i x v (fun e => { e with key := enc x, val := v }) (fun e9 _ => rfl), hbm.1, hbm.2⟩, grown_map hlt _⟩
/-- an entry of this key has this stamp -/
def MpSt (W : World) (r : Nat) (enc : κ → Value) (L : List (κ × Value)) (x : κ) (s : Nat) : Prop := ∃ es ck i u e, W.heap[r]? = some (.map es ck) ∧ es.toList.map kvE = encK enc L ∧ (∀ x ∈ es.toList, x.born < ck) ∧ (es.toList.map (·.born)).Nodup ∧ fndK x L 0 = some (i, u) ∧ es[i]? = some e ∧ e.born = s
theorem MpSt.is {x : κ} {s : Nat} (h : MpSt W r enc L x s) : MpIs W r (encK enc L) := by
 obtain ⟨es, ck, i, u, e, h1, h2, h3, h4, _⟩ := h
 exact ⟨es, ck, h1, h2, h3, h4⟩
theorem MpSt.keep {W' : World} {x : κ} {s : Nat} (h : MpSt W r enc L x s) (hb : W'.heap[r]? = W.heap[r]?) : MpSt W' r enc L x s := by
 obtain ⟨es, ck, i, u, e, h1, h2⟩ := h
 exact ⟨es, ck, i, u, e, hb.trans h1, h2⟩
theorem MpIs.entry (K : KeyT P kt enc ok) (hm : P.underlying mt = some (.map kt vt)) (h : MpIs W r (encK enc L)) (hL : ∀ p ∈ L, ok p.1) {x : κ} (hx : ok x) {z : Value} (hz : (zeroValue vt).run P W = .ok z W) :
  ∃ W' s, (Instr.mapEntry mt (.map (some r)) (enc x)).run P W = .ok (.tuple #[(getK x L).getD z, .int .i64 (s : Nat)]) W' ∧ MpSt W' r enc (entK x z L) x s ∧ W.grownBy W' (some r) := by
 have hlt := h.lt
 obtain ⟨es, ck, hb, hk, hb1, hb2⟩ := h
 have hget := Go.MapKept.run_getObj_map (P := P) hb
 have hset := fun o => Go.MapKept.run_setObj_map (P := P) (o := o) hb
 have hf := K.find x hx es.toList L hk hL W
 have hc := fun em => K.chk em x W hx
 have hat : ∀ o : Obj, ({ W with heap := W.heap.setIfInBounds r o } : World).heap[r]? = some o := fun o => Array.getElem?_setIfInBounds_self_of_lt hlt
 unfold Instr.mapEntry
 simp only [Sem.run_bind, run_underlying hm, Result.andThen_ok, hget, hc, hf]
 rcases fnd_spec x z z L 0 with ⟨h1, h2, h3, _, h5⟩ | ⟨i, u, h1, h2, h3, _, _, h6⟩
 ·rw [h1, h2, h5]
  simp only [Sem.run_bind, hz, Result.andThen_ok, hset]
  have hlen : es.size = L.length := by have := congrArg List.length hk; simpa [encK] using this
  have hfe : fndK x (L ++ [(x, z)]) 0 = some (L.length, z) := by
   rcases fnd_spec x z z (L ++ [(x, z)]) 0 with ⟨g1, g2, _⟩ | ⟨i, u, g1, g2, g3, _⟩
   ·rw [← h3, get_put, if_pos rfl] at g2
    cases g2
   ·rw [g1, Nat.zero_add]
    rw [← h3, get_put, if_pos rfl] at g2
    obtain rfl : z = u := Option.some.inj g2
    by_cases hi : i < L.length
    ·exfalso
     rw [List.getElem?_append_left hi] at g3
     have hm2 : x ∈ L.map Prod.fst := List.mem_map.2 ⟨_, List.mem_of_getElem? g3, rfl⟩
     have : ∀ {L : List (κ × Value)}, x ∈ L.map Prod.fst → getK x L ≠ none := fun {L} => by
      induction L with
      | nil => intro h; cases h
      | cons p l ih =>
       intro h
       unfold getK
       split
       ·simp
       ·rename_i hne
        rcases List.mem_cons.1 h with h | h
        ·exact absurd h hne
        ·exact ih h
     exact this hm2 h2
    ·have : i < (L ++ [(x, z)]).length := (List.getElem?_eq_some_iff.1 g3).1
     simp at this
     congr 2
     omega
  refine ⟨_, ck, rfl, ⟨_, _, L.length, z, { key := enc x, val := z, born := ck }, hat _, ?_, (born_push hb1 hb2 _ _).1, (born_push hb1 hb2 _ _).2, hfe, ?_, rfl⟩, grown_map hlt _⟩
  ·rw [kv_push hk]
   simp [encK, kvE]
  ·rw [← hlen]
   simp
 ·rw [h1, h2, h6, Nat.zero_add]
  obtain ⟨e, he, hek, hev⟩ := at_kv hk h3
  have hkeep : (Instr.keyThatStays (((es[i]?).map (·.key)).getD (enc x)) (enc x)).run P W = .ok (enc x) W := by
   rw [he]
   simp only [Option.map_some, Option.getD_some, hek]
   unfold Instr.keyThatStays
   rw [if_pos (K.bits x hx)]
   rfl
  simp only [Sem.run_bind, hkeep, Result.andThen_ok, hset]
  have hbm := born_mod hb1 hb2 i (fun e => { e with key := enc x }) (fun _ => rfl)
  refine ⟨{ W with heap := W.heap.setIfInBounds r (.map (es.modify i fun e => { e with key := enc x }) ck) }, e.born, by rw [he]; rfl, ⟨_, _, i, u, { e with key := enc x }, hat _, ?_, hbm.1, hbm.2, by rw [h1, Nat.zero_add], ?_, rfl⟩, grown_map hlt _⟩
  ·rw [kv_mod hk i x u (fun e => { e with key := enc x }) (fun e9 he9 => by rw [he] at he9; obtain rfl := Option.some.inj he9; simp [kvE, hev])]
   congr 1
   refine List.ext_getElem? fun j => ?_
   rw [List.getElem?_set]
   split
   ·rename_i hj
    subst hj
    split
    ·exact h3.symm
    ·rename_i hlt2
     rw [List.getElem?_eq_none (by omega)]
   ·rfl
  ·simp [Array.getElem?_modify, he]
theorem find_born : ∀ {l : List MapEntry} {i : Nat} {e : MapEntry}, (l.map (·.born)).Nodup → l[i]? = some e → l.findIdx? (fun x => (x.born : Int) == (e.born : Int)) = some i
 | [], i, e, _, h => by simp at h
 | a :: l, 0, e, _, h => by
  simp at h
  subst h
  simp [List.findIdx?_cons]
 | a :: l, i + 1, e, hn, h => by
  rw [List.map_cons, List.nodup_cons] at hn
  simp only [List.getElem?_cons_succ] at h
  have hne : ((a.born : Int) == (e.born : Int)) = false := by
   simp only [beq_eq_false_iff_ne, ne_eq]
   intro e9
   exact hn.1 (List.mem_map.2 ⟨e, List.mem_of_getElem? h, by omega⟩)
  rw [List.findIdx?_cons, hne, find_born hn.2 h]
  rfl
theorem MpSt.store {x : κ} {s : Nat} (h : MpSt W r enc L x s) (v : Value) :
  ∃ W', (Instr.entryStore mt (.map (some r)) (.int .i64 (s : Nat)) v).run P W = .ok () W' ∧ MpIs W' r (encK enc (putK x v L)) ∧ W.grownBy W' (some r) := by
 have hlt := h.is.lt
 obtain ⟨es, ck, i, u, e, hb, hk, hb1, hb2, hf, he, hs⟩ := h
 have hget := Go.MapKept.run_getObj_map (P := P) hb
 have hset := fun o => Go.MapKept.run_setObj_map (P := P) (o := o) hb
 have hat : ∀ o : Obj, ({ W with heap := W.heap.setIfInBounds r o } : World).heap[r]? = some o := fun o => Array.getElem?_setIfInBounds_self_of_lt hlt
 rcases fnd_spec x v v L 0 with ⟨h1, _⟩ | ⟨i', u', h1, _, h3, h4, _⟩
 ·rw [h1] at hf; cases hf
 ·rw [h1, Nat.zero_add] at hf
  obtain ⟨rfl, rfl⟩ := Prod.mk.inj (Option.some.inj hf)
  obtain ⟨e0, he0, hek, hev⟩ := at_kv hk h3
  rw [he] at he0
  obtain rfl := Option.some.inj he0
  have hfi : es.findIdx? (fun x => (x.born : Int) == (s : Int)) = some i' := by
   have e1 : ∀ (xs : Array MapEntry) (p : MapEntry → Bool), xs.findIdx? p = xs.toList.findIdx? p := fun xs p => by cases xs; simp
   rw [← hs, e1]
   exact find_born hb2 (by rw [Array.getElem?_toList]; exact he)
  rw [h4]
  have hbm := born_mod hb1 hb2 i' (fun e => { e with val := v }) (fun _ => rfl)
  refine ⟨_, ?_, ⟨_, _, hat _, kv_mod hk i' x v (fun e => { e with val := v }) (fun e9 he9 => by rw [he] at he9; obtain rfl := Option.some.inj he9; simp [kvE, hek]), hbm.1, hbm.2⟩, grown_map hlt _⟩
  unfold Instr.entryStore
  simp only [Sem.run_bind, Sem.run_pure, hget, Result.andThen_ok, asInt, asIntOf, hfi, hset]
theorem map_erase {α β : Type} (f : α → β) : ∀ (l : List α) (i : Nat), (l.eraseIdx i).map f = (l.map f).eraseIdx i
 | [], _ => rfl
 | _ :: _, 0 => rfl
 | a :: l, i + 1 => by simp [map_erase f l i]
theorem MpIs.drop (K : KeyT P kt enc ok) (hm : P.underlying mt = some (.map kt vt)) (h : MpIs W r (encK enc L)) (hL : ∀ p ∈ L, ok p.1) {x : κ} (hx : ok x) (ty : TypeId) :
  ∃ W', (Builtin.delete_ #[mt, kt] ty #[.map (some r), enc x]).run P W = .ok (.tuple #[]) W' ∧ MpIs W' r (encK enc (delK x L)) ∧ W.grownBy W' (some r) := by
 have hlt := h.lt
 obtain ⟨es, ck, hb, hk, hb1, hb2⟩ := h
 have hget := Go.MapKept.run_getObj_map (P := P) hb
 have hset := fun o => Go.MapKept.run_setObj_map (P := P) (o := o) hb
 have hf := K.find x hx es.toList L hk hL W
 have hc := fun em => K.chk em x W hx
 have hat : ∀ o : Obj, ({ W with heap := W.heap.setIfInBounds r o } : World).heap[r]? = some o := fun o => Array.getElem?_setIfInBounds_self_of_lt hlt
 rcases fnd_spec x undef undef L 0 with ⟨h1, _, _, h4, _⟩ | ⟨i, u, h1, _, h3, _, h5, _⟩
 ·rw [h1] at hf
  rw [h4]
  refine ⟨_, ?_, ⟨_, _, hat (.map es ck), hk, hb1, hb2⟩, grown_map hlt _⟩
  simp [Builtin.delete_, Sem.run_bind, run_underlying hm, hget, hc, hf, hset]
 ·rw [h1, Nat.zero_add] at hf
  rw [h5]
  obtain ⟨e, he, _, _⟩ := at_kv hk h3
  have hel : (es.eraseIdxIfInBounds i).toList = es.toList.eraseIdx i := by simp
  refine ⟨_, ?_, ⟨_, _, hat (.map (es.eraseIdxIfInBounds i) ck), ?_, fun y hy => ?_, ?_⟩, grown_map hlt _⟩
  ·simp [Builtin.delete_, Sem.run_bind, run_underlying hm, hget, hc, hf, hset]
  ·rw [hel, map_erase, hk]
   unfold encK
   rw [map_erase]
  ·rw [hel] at hy
   exact hb1 y (List.mem_of_mem_eraseIdx hy)
  ·rw [hel, map_erase]
   exact hb2.sublist (List.eraseIdx_sublist ..)
theorem MpIs.len {E : List (Value × Value)} (hm : P.underlying mt = some (.map kt vt)) (h : MpIs W r E) (ty : TypeId) : (Builtin.len_ #[mt] ty #[.map (some r)]).run P W = .ok (.int .i64 (E.length : Int)) W := by
 obtain ⟨es, ck, hb, hk, _⟩ := h
 have hl : es.size = E.length := by
  have := congrArg List.length hk
  simpa using this
 simp [Builtin.len_, run_underlying hm, Go.MapKept.run_getObj_map hb, goInt, Result.andThen, hl]
end
end

end Go.Proofs.Ytpolofehkckaoaa
