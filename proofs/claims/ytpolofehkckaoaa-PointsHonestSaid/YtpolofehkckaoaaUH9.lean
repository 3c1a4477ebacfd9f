/-
  Joined: RqM.
-/
import Derived.Test.YtpolofehkckaoaaUH2
import Derived.Test.YtpolofehkckaoaaUH7
import Derived.Test.YtpolofehkckaoaaUH8
namespace Go.Proofs.Ytpolofehkckaoaa
open Go.RowKit

/-- where an endorsement's tags lie: the parts of a slice -/
abbrev Pl := Option Addr × Nat × Nat
def Pl.val (s : Pl) : Value := .slice s.1 s.2.1 s.2.2
def enC (e : En) (s : Pl) : List Value := [.int .i64 e.og, .slice s.1 s.2.1 s.2.2]
def enR : List En → List Pl → List (List Value) := List.zipWith enC
theorem enR_len {es : List En} {ss : List Pl} (h : es.length = ss.length) : (enR es ss).length = es.length := by
 unfold enR
 rw [List.length_zipWith, h, Nat.min_self]
theorem enR_get {es : List En} {ss : List Pl} {i : Nat} {e : En} {s : Pl} (he : es[i]? = some e) (hs : ss[i]? = some s) : (enR es ss)[i]? = some (enC e s) := by
 unfold enR
 rw [List.getElem?_zipWith, he, hs]
/-- These tags are read at a slice. -/
def TsIn (w : World) (s : Pl) (ts : List (List UInt8)) : Prop := Sl w 32 s.1 s.2.1 (ts.map vs) ∧ (∀ t ∈ ts, t.length = 32) ∧ s.2.1 ≤ s.2.2 ∧ s.2.2 ≤ maxLen
/-- Each endorsement's tags, where they lie. -/
def AllIn (w : World) : List En → List Pl → Prop
 | [], [] => True
 | e :: es, s :: ss => TsIn w s e.ts ∧ AllIn w es ss
 | [], _ :: _ => False
 | _ :: _, [] => False
/-- These endorsements are read at a slice. -/
def EsIn (w : World) (A : Option Addr) (n : Nat) (es : List En) : Prop := ∃ ss, Sl w 2 A n (enR es ss) ∧ AllIn w es ss

section
variable {w w' : World} {A : Option Addr} {n : Nat} {es : List En} {ss : List Pl} {s : Pl} {ts : List (List UInt8)}
theorem TsIn.through (h : TsIn w s ts) (hb : Below w.heap.size w w') : TsIn w' s ts := ⟨h.1.through hb, h.2⟩
theorem TsIn.len (h : TsIn w s ts) : ts.length = s.2.1 := by simpa using h.1.len
theorem TsIn.at (h : TsIn w s ts) {j : Nat} (hj : j < s.2.1) : ∃ g o t, s.1 = some ⟨g, o, none⟩ ∧ ts[j]? = some t ∧ t ∈ ts ∧ ts.drop j = t :: ts.drop (j + 1) ∧ t.length = 32 ∧ w.rangeAt g (o + j * 32) (vs t) := by
 obtain ⟨g, o, cs, e, h1, _, _, h4⟩ := h.1.at hj
 have hl : j < ts.length := by rw [h.len]; exact hj
 rw [List.getElem?_map, List.getElem?_eq_getElem hl] at h1
 simp only [Option.map_some, Option.some.injEq] at h1
 subst h1
 exact ⟨g, o, ts[j], e, List.getElem?_eq_getElem hl, List.getElem_mem hl, List.drop_eq_getElem_cons hl, h.2.1 _ (List.getElem_mem hl), h4⟩
theorem AllIn.mono : ∀ {es : List En} {ss : List Pl}, AllIn w es ss → (∀ s ts, TsIn w s ts → TsIn w' s ts) → AllIn w' es ss
 | [], [], _, _ => trivial
 | _ :: _, _ :: _, h, hm => ⟨hm _ _ h.1, AllIn.mono h.2 hm⟩
 | [], _ :: _, h, _ => h.elim
 | _ :: _, [], h, _ => h.elim
theorem AllIn.len : ∀ {es : List En} {ss : List Pl}, AllIn w es ss → es.length = ss.length
 | [], [], _ => rfl
 | _ :: _, _ :: _, h => by simp [AllIn.len h.2]
 | [], _ :: _, h => h.elim
 | _ :: _, [], h => h.elim
theorem AllIn.at : ∀ {es : List En} {ss : List Pl} {i : Nat} {e : En}, AllIn w es ss → es[i]? = some e → ∃ s, ss[i]? = some s ∧ TsIn w s e.ts
 | [], _, _, _, _, h => by simp at h
 | _ :: _, [], _, _, h, _ => h.elim
 | x :: _, s :: _, 0, e, h, he => by
  simp at he
  subst he
  exact ⟨s, rfl, h.1⟩
 | _ :: _, _ :: _, i + 1, e, h, he => by
  obtain ⟨s, hs, ht⟩ := AllIn.at h.2 (by simpa using he)
  exact ⟨s, by simpa using hs, ht⟩
theorem AllIn.append : ∀ {es : List En} {ss : List Pl} {es' : List En} {ss' : List Pl}, AllIn w es ss → AllIn w es' ss' → AllIn w (es ++ es') (ss ++ ss')
 | [], [], _, _, _, h => h
 | _ :: _, _ :: _, _, _, h, h' => ⟨h.1, AllIn.append h.2 h'⟩
 | [], _ :: _, _, _, h, _ => h.elim
 | _ :: _, [], _, _, h, _ => h.elim
theorem AllIn.take : ∀ {es : List En} {ss : List Pl} (i : Nat), AllIn w es ss → AllIn w (es.take i) (ss.take i)
 | [], [], i, _ => by simp [AllIn]
 | _ :: _, _ :: _, 0, _ => trivial
 | _ :: _, _ :: _, i + 1, h => ⟨h.1, AllIn.take i h.2⟩
 | [], _ :: _, _, h => h.elim
 | _ :: _, [], _, h => h.elim
theorem AllIn.drop : ∀ {es : List En} {ss : List Pl} (i : Nat), AllIn w es ss → AllIn w (es.drop i) (ss.drop i)
 | [], [], i, _ => by simp [AllIn]
 | _ :: _, _ :: _, 0, h => h
 | _ :: _, _ :: _, i + 1, h => AllIn.drop i h.2
 | [], _ :: _, _, h => h.elim
 | _ :: _, [], _, h => h.elim
theorem EsIn.none_ : EsIn w A 0 [] := ⟨[], Sl.none_, trivial⟩
theorem EsIn.through (h : EsIn w A n es) (hb : Below w.heap.size w w') : EsIn w' A n es := by
 obtain ⟨ss, h1, h2⟩ := h
 exact ⟨ss, h1.through hb, h2.mono fun _ _ h => h.through hb⟩
theorem EsIn.alloc (h : EsIn w A n es) (o : Obj) : EsIn (w.alloc o) A n es := h.through ((Below.refl _ w).alloc (Nat.le_refl _) o)
theorem EsIn.len (h : EsIn w A n es) : es.length = n := by
 obtain ⟨ss, h1, h2⟩ := h
 rw [← enR_len h2.len]
 exact h1.len
theorem EsIn.at (h : EsIn w A n es) {i : Nat} (hi : i < n) : ∃ g o e B m c, A = some ⟨g, o, none⟩ ∧ es[i]? = some e ∧ e ∈ es ∧ es.drop i = e :: es.drop (i + 1) ∧ w.rangeAt g (o + i * 2) [.int .i64 e.og, .slice B m c] ∧ TsIn w (B, m, c) e.ts := by
 have hl : i < es.length := by rw [h.len]; exact hi
 obtain ⟨ss, h1, h2⟩ := h
 obtain ⟨g, o, cs, e, h3, _, _, h4⟩ := h1.at hi
 obtain ⟨s, hs, ht⟩ := h2.at (List.getElem?_eq_getElem hl)
 rw [enR_get (List.getElem?_eq_getElem hl) hs] at h3
 injection h3 with h3
 subst h3
 exact ⟨g, o, es[i], s.1, s.2.1, s.2.2, e, List.getElem?_eq_getElem hl, List.getElem_mem hl, List.drop_eq_getElem_cons hl, h4, ht⟩
end

section
variable {w w' : World} {B : Nat} {v : Value} {es : List En} {ss : List Pl} {s : Pl} {ts : List (List UInt8)} {e e2 : TypeId} {k k2 : Nat} {v2 : Value} {xs ys : List (List Value)}
/-- A block that isn't its own is turned. -/
theorem Os.ne {row : Option Nat} (h : Os w B e k v xs) (hb : w.grownBy w' row) (hne : ∀ b, v.ownBlock = some b → row ≠ some b) : Os w' B e k v xs :=
 h.keep fun b _ hl hv => hb.block b hl (fun e => hne b hv e.symm)
end

end Go.Proofs.Ytpolofehkckaoaa
