/-
  A table of keys as a Crypto; a table and a book beside each other.
-/
import Derived.Test.YtnncfhkgcaoomaaDoorVKSign
import Derived.Test.YtnncfhkgcaoomaaDoorVBook
import Derived.Test.YtnncfhkgcaoomaaDoorLF
namespace Go.Proofs.YtnncfhkgcaoomaaDoor
open Go.RowKit

theorem TS.cell {w w' : World} {g b : Nat} {seed : List UInt8} (h : TS w g seed) (hb : ∃ cs t fr, w.heap[b]? = some (.cells cs t fr)) (ho : w.grownBy w' (some b)) (hg : g < b) : TS w' g seed := by
  obtain ⟨m, As, ns, c, hk, hy, h1, h2, hm⟩ := h
  refine ⟨m, As, ns, c, hk.grown ho (fun e => absurd (Option.some.inj e) (Nat.ne_of_lt hg)), hy.lt.keep (fun k hk => ho.block k hk.2 (fun e => by have := hk.1; have := Option.some.inj e; omega)) |>.weak (fun _ h => h.1), h1, h2, hm.keep fun r e => ho.block r (hm.lt r e) (fun e' => ?_)⟩
  obtain rfl := Option.some.inj e'
  obtain ⟨_, es, ck, hmm, _⟩ := hm r e
  obtain ⟨cs, t, fr, hb⟩ := hb
  rw [hmm] at hb
  cases hb
theorem crypt_keys (g : Nat) (seed : List UInt8) (h0 : 0 < g) (h1 : 1 < g) : Crypt (fun _ w => TS w g seed ∧ Tab w) g :=
  ⟨fun _ _ h => h.1.lt, fun _ _ _ h hb => ⟨h.1.through hb, h.2.through hb⟩, fun _ _ _ _ h hb ho hg => ⟨h.1.cell hb ho hg, h.2.only ho (Nat.lt_trans h0 hg) (Nat.lt_trans h1 hg)⟩⟩

theorem sign_keys (g : Nat) (seed : List UInt8) (hs : seed.length ≤ 1000000) (h0 : 0 < g) (h1 : 1 < g) (k f : Int) (body : List UInt8) (tos : List Int) (Q Q' : Nat → Prop) (hQ' : ∀ k, Q' k → k ≠ g)
    (B : Option Addr) (nb cb : Nat) (hnb : nb ≤ 100000) (A : Option Addr) (n c : Nat) (hn : n ≤ 100000) (w : World) (hst : TS w g seed ∧ Tab w) (hyb : By w Q B nb body) (hya : Iv w Q' A n tos) :
    Calls Tryd.prog 7 #[.iface 28 (.pointer (some ⟨g, 0, none⟩)), .int .i64 k, .int .i64 f, .slice B nb cb, .slice A n c] w fun e w' => ∃ B1 c1 A1 c2, e = .returned (.agg #[.int .i64 k, .int .i64 f, .slice B1 nb c1, .slice A1 n c2]) ∧
      By w' (fun b => w.heap.size ≤ b) B1 nb body ∧ Tg w' A1 n ((List.range n).map fun i => tagAB seed f (tos.getD i 0) (kb k :: body)) ∧ (∀ o, A1 = some o → w.heap.size ≤ o.block) ∧ (TS w' g seed ∧ Tab w') ∧ KF g w w' :=
  sign_K (fun _ w => TS w g seed ∧ Tab w) g (crypt_keys g seed h0 h1) k f body tos (fun i => tagAB seed f (tos.getD i 0) (kb k :: body)) (fun _ => tagAB_length _ _ _ _) Q Q' hQ' B nb cb hnb A n c hn w hst hyb hya fun T tc W i hi h2 h3 => by
    refine (tag_tab g _ (fun _ h => h) seed f (tos.getD i 0) (kb k :: body) T (1 + nb) tc W h2.1 hs h0 h1 h3 h2.2 (by omega)).mono ?_
    rintro e w' ⟨he, hts, hf⟩
    exact ⟨he, ⟨hts, h2.2.kf hf h0 h1⟩, hf⟩
theorem check_keys (g : Nat) (seed : List UInt8) (hs : seed.length ≤ 1000000) (h0 : 0 < g) (h1 : 1 < g) (k f who : Int) (body tg : List UInt8) (tgs : List (List UInt8)) (Q : Nat → Prop)
    (B : Option Addr) (nb cb : Nat) (hnb : nb ≤ 100000) (A : Option Addr) (n c j : Nat) (hj : tgs[j]? = some tg) (w : World) (hst : TS w g seed ∧ Tab w) (hyb : By w Q B nb body) (hta : Tg w A n tgs) (hne : ∀ o, A = some o → o.block ≠ g) :
    Calls Tryd.prog 10 #[.iface 28 (.pointer (some ⟨g, 0, none⟩)), .agg #[.int .i64 k, .int .i64 f, .slice B nb cb, .slice A n c], .int .i64 (j : Int), .int .i64 who] w fun e w' => e = .returned (.int .i64 (if tagAB seed f who (kb k :: body) == tg then 0 else 12)) ∧ (TS w' g seed ∧ Tab w') ∧ KF g w w' :=
  check_K (fun _ w => TS w g seed ∧ Tab w) g 0 (crypt_keys g seed h0 h1) k f who body tg tgs _ Q B nb cb hnb A n c j hj w hst hyb hta hne fun T tc W h2 h3 => by
    have htl := hta.2.1 tg (List.mem_of_getElem? hj)
    refine (kcheck_tab g _ (fun _ h => h) seed f who (kb k :: body) tg htl T (1 + nb) tc W h2.1 hs h0 h1 h3 h2.2 (by omega)).mono ?_
    rintro e w' ⟨he, hts, hf⟩
    exact ⟨he, ⟨hts, h2.2.kf hf h0 h1⟩, hf⟩

/-- A table of keys (block gk) and a book (block gb), beside each other. -/
structure Duo (w : World) (gk gb : Nat) (seed : List UInt8) (ts : List TK) : Prop where
  tk : TS w gk seed
  tab : Tab w
  bk : BS w gb [] ts
  apart : ∀ r, Own w gk r → Own w gb r → False
  lt : gk < gb
  h0 : 0 < gk
  h1 : 1 < gk
theorem TS.own_map {w : World} {g r : Nat} {seed : List UInt8} (h : TS w g seed) (ho : Own w g r) : r < w.heap.size ∧ ∃ es ck, w.heap[r]? = some (.map es ck) := by
  obtain ⟨m, As, ns, c, hk, hy, h1, h2, hm⟩ := h
  obtain ⟨cs, t, fr, i, hc, hi⟩ := ho
  have e : some (Obj.cells #[.slice As ns c, .map m] 44 (0, 0)) = some (.cells cs t fr) := (show w.heap[g]? = _ from hk).symm.trans hc
  injection e with e
  injection e with e1 _ _
  subst e1
  match i, hi with
  | 0, hi => simp at hi
  | 1, hi =>
    have hmr : m = some r := by simpa using hi
    obtain ⟨_, es, ck, hb, _⟩ := hm r hmr
    exact ⟨(Array.getElem?_eq_some_iff.1 hb).1, es, ck, hb⟩
  | i + 2, hi => simp at hi
theorem BS.own_map {w : World} {g r : Nat} {ds : List DK} {ts : List TK} (h : BS w g ds ts) (ho : Own w g r) : r < w.heap.size ∧ ∃ es ck, w.heap[r]? = some (.map es ck) := by
  obtain ⟨m1, m2, hk, h1, h2, _⟩ := h
  obtain ⟨cs, t, fr, i, hc, hi⟩ := ho
  have e : some (Obj.cells #[.map m1, .map m2] 48 (0, 0)) = some (.cells cs t fr) := (show w.heap[g]? = _ from hk).symm.trans hc
  injection e with e
  injection e with e1 _ _
  subst e1
  match i, hi with
  | 0, hi =>
    have hmr : m1 = some r := by simpa using hi
    subst hmr
    exact ⟨h1.lt r rfl, h1.at⟩
  | 1, hi =>
    have hmr : m2 = some r := by simpa using hi
    subst hmr
    exact ⟨h2.lt r rfl, h2.at⟩
  | i + 2, hi => simp at hi
theorem Duo.through {w w' : World} {gk gb : Nat} {seed : List UInt8} {ts : List TK} (h : Duo w gk gb seed ts) (hb : Below w.heap.size w w') : Duo w' gk gb seed ts :=
  ⟨h.tk.through hb, h.tab.through hb, h.bk.through hb, fun r h1 h2 => h.apart r (h1.congr (hb.block gk h.tk.lt)) (h2.congr (hb.block gb h.bk.lt)), h.lt, h.h0, h.h1⟩
theorem Duo.drew {w : World} {gk gb : Nat} {seed : List UInt8} {ts : List TK} (h : Duo w gk gb seed ts) : Duo w.drew gk gb seed ts := h.through ((Below.refl _ w).drew)
theorem Duo.cell {w w' : World} {gk gb b : Nat} {seed : List UInt8} {ts : List TK} {t : TypeId} {cs : List Value} (h : Duo w gk gb seed ts) (hb : Blk w b t cs) (ho : w.grownBy w' (some b)) (hg : gb < b) : Duo w' gk gb seed ts :=
  ⟨h.tk.cell ⟨_, _, _, hb⟩ ho (Nat.lt_trans h.lt hg), h.tab.only ho (Nat.lt_trans h.h0 (Nat.lt_trans h.lt hg)) (Nat.lt_trans h.h1 (Nat.lt_trans h.lt hg)), h.bk.cell ⟨_, _, _, hb⟩ ho (Nat.ne_of_gt hg),
   fun r h1 h2 => h.apart r (h1.congr (ho.block gk h.tk.lt (fun e => by have := Option.some.inj e; have := h.lt; omega))) (h2.congr (ho.block gb h.bk.lt (fun e => by have := Option.some.inj e; omega))), h.lt, h.h0, h.h1⟩
/-- A call of the table. -/
theorem Duo.byK {w w' : World} {gk gb : Nat} {seed : List UInt8} {ts : List TK} (h : Duo w gk gb seed ts) (hs : TS w' gk seed ∧ Tab w') (hf : KF gk w w') : Duo w' gk gb seed ts := by
  have hbk : w'.heap[gb]? = w.heap[gb]? := by
    obtain ⟨m1, m2, hk, _⟩ := h.bk
    exact hf.cells gb (Nat.ne_of_gt h.lt) ⟨_, _, _, hk⟩
  refine ⟨hs.1, hs.2, ?_, fun r h1 h2 => ?_, h.lt, h.h0, h.h1⟩
  · obtain ⟨m1, m2, hk, h1, h2, h3⟩ := h.bk
    have key : ∀ r, Own w gb r → w'.heap[r]? = w.heap[r]? := fun r ho => hf.rest r (h.bk.own_map ho).1 (fun e => by
      obtain ⟨_, es, ck, hm⟩ := h.bk.own_map ho
      subst e
      obtain ⟨m, As, ns, c, hkk, _⟩ := h.tk
      rw [show w.heap[_]? = _ from hkk] at hm
      cases hm) (fun ho' => h.apart r ho' ho)
    exact ⟨m1, m2, hbk.trans hk, h1.keep fun r e => key r ⟨_, _, _, 0, hk, by subst e; rfl⟩, h2.keep fun r e => key r ⟨_, _, _, 1, hk, by subst e; rfl⟩, h3⟩
  · have h2' := h2.congr hbk
    rcases hf.own r h1 with h3 | h3
    · exact h.apart r h3 h2'
    · have := (h.bk.own_map h2').1
      omega
/-- A call of the book. -/
theorem Duo.byB {w w' : World} {gk gb : Nat} {seed : List UInt8} {ts ts' : List TK} (h : Duo w gk gb seed ts) (hs : BS w' gb [] ts') (hf : KF gb w w') : Duo w' gk gb seed ts' := by
  have hkk : w'.heap[gk]? = w.heap[gk]? := hf.low.block gk h.lt
  refine ⟨?_, ?_, hs, fun r h1 h2 => ?_, h.lt, h.h0, h.h1⟩
  · obtain ⟨m, As, ns, c, hk, hy, h1, h2, hm⟩ := h.tk
    refine ⟨m, As, ns, c, hkk.trans hk, hy.keep fun k hkl => hf.low.block k (Nat.lt_trans hkl h.lt), h1, h2, hm.keep fun r e => hf.rest r (hm.lt r e) (fun e' => ?_) (fun ho => h.apart r ⟨_, _, _, 1, hk, by subst e; rfl⟩ ho)⟩
    subst e'
    obtain ⟨_, es, ck, hmm, _⟩ := hm _ e
    obtain ⟨m1, m2, hb, _⟩ := h.bk
    rw [show w.heap[_]? = _ from hb] at hmm
    cases hmm
  · exact h.tab.below hf.low (Nat.lt_trans h.h0 h.lt) (Nat.lt_trans h.h1 h.lt)
  · have h1' := h1.congr hkk
    rcases hf.own r h2 with h3 | h3
    · exact h.apart r h1' h3
    · have := (h.tk.own_map h1').1
      omega

end Go.Proofs.YtnncfhkgcaoomaaDoor
