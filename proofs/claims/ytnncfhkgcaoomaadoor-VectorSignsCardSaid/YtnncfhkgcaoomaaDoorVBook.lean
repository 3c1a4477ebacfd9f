/-
  A book as a Crypto: Sign and Check by it.
-/
import Derived.Test.YtnncfhkgcaoomaaDoorVBSign
import Derived.Test.YtnncfhkgcaoomaaDoorBAsk
import Derived.Test.YtnncfhkgcaoomaaDoorBTag
namespace Go.Proofs.YtnncfhkgcaoomaaDoor
open Go.RowKit

theorem BS.cell {W W' : World} {g b : Nat} {ds : List DK} {ts : List TK} (h : BS W g ds ts) (hb : ∃ cs t fr, W.heap[b]? = some (.cells cs t fr)) (ho : W.grownBy W' (some b)) (hg : b ≠ g) : BS W' g ds ts := by
  obtain ⟨m1, m2, h1, h2, h3, h4⟩ := h
  obtain ⟨cs, t, fr, hb⟩ := hb
  refine ⟨m1, m2, h1.grown ho (fun e => hg (Option.some.inj e).symm), h2.keep fun r e => ho.block r (h2.lt r e) fun e' => ?_, h3.keep fun r e => ho.block r (h3.lt r e) fun e' => ?_, h4⟩
  · obtain rfl := Option.some.inj e'
    subst e
    obtain ⟨es, ck, hm⟩ := h2.at
    rw [hm] at hb
    cases hb
  · obtain rfl := Option.some.inj e'
    subst e
    obtain ⟨es, ck, hm⟩ := h3.at
    rw [hm] at hb
    cases hb

/-- The tags known behind i of them. -/
def acc (f : Int) (text : List UInt8) (tos : List Int) (ts : List TK) : Nat → List TK
  | 0 => ts
  | i + 1 => also (f, tos.getD i 0, text) (acc f text tos ts i)
theorem acc_length (f : Int) (text : List UInt8) (tos : List Int) (ts : List TK) (i : Nat) : (acc f text tos ts i).length ≤ ts.length + i := by
  induction i with
  | zero => exact Nat.le_refl _
  | succ i ih =>
    have := also_length ((f, tos.getD i 0, text) : TK) (acc f text tos ts i)
    simp only [acc]
    omega
theorem acc_mem_of {f : Int} {text : List UInt8} {tos : List Int} {ts : List TK} {x : TK} {i : Nat} (h : x ∈ acc f text tos ts i) : ∀ j, x ∈ acc f text tos ts (i + j) ∧ ord x (acc f text tos ts (i + j)) = ord x (acc f text tos ts i)
  | 0 => ⟨h, rfl⟩
  | j + 1 => by
    obtain ⟨h1, h2⟩ := acc_mem_of h j
    exact ⟨mem_also_of h1, (ord_also h1).trans h2⟩
theorem acc_mem {f : Int} {text : List UInt8} {tos : List Int} {ts : List TK} {i n : Nat} (h : i < n) : (f, tos.getD i 0, text) ∈ acc f text tos ts n ∧ ord (f, tos.getD i 0, text) (acc f text tos ts n) = ord (f, tos.getD i 0, text) (acc f text tos ts (i + 1)) := by
  obtain ⟨j, rfl⟩ : ∃ j, n = i + 1 + j := ⟨n - (i + 1), by omega⟩
  exact acc_mem_of (mem_also _ _) j
theorem holds_made {ts : List TK} {x y : TK} (hx : x ∈ ts) (hl : ts.length < 1000000000) : bookHolds ts y (bookTag ts x) = decide (y = x) := by
  unfold bookHolds bookTag
  rw [Bool.eq_iff_iff, Bool.and_eq_true, beq_iff_eq, decide_eq_true_iff, decide_eq_true_iff]
  have h1 := ord_le hx
  constructor
  · rintro ⟨hy, he⟩
    have h2 := ord_le hy
    have h3 := (numB_inj (by omega) (by omega)).1 he
    exact (ord_inj hy hx).1 (by omega)
  · rintro rfl
    exact ⟨hx, rfl⟩

theorem crypt_book (g : Nat) (ds : List DK) (f : Nat → List TK) : Crypt (fun i w => BS w g ds (f i)) g :=
  ⟨fun _ _ h => h.lt, fun _ _ _ h hb => h.through hb, fun _ _ _ _ h hb ho hg => h.cell hb ho (Nat.ne_of_gt hg)⟩

/-- the tags that Sign makes -/
def made (f : Int) (text : List UInt8) (tos : List Int) (ts : List TK) (n i : Nat) : List UInt8 := bookTag (acc f text tos ts n) (f, tos.getD i 0, text)
theorem sign_book (g : Nat) (ds : List DK) (ts : List TK) (k f : Int) (body : List UInt8) (tos : List Int) (Q Q' : Nat → Prop) (hQ' : ∀ k, Q' k → k ≠ g)
    (B : Option Addr) (nb cb : Nat) (hnb : nb ≤ 100000) (A : Option Addr) (n c : Nat) (hn : n ≤ 100000) (hl : ts.length ≤ 100000) (w : World) (hst : BS w g ds ts) (hyb : By w Q B nb body) (hya : Iv w Q' A n tos) :
    Calls Tryd.prog 7 #[.iface 30 (.pointer (some ⟨g, 0, none⟩)), .int .i64 k, .int .i64 f, .slice B nb cb, .slice A n c] w fun e w' => ∃ B1 c1 A1 c2, e = .returned (.agg #[.int .i64 k, .int .i64 f, .slice B1 nb c1, .slice A1 n c2]) ∧
      By w' (fun b => w.heap.size ≤ b) B1 nb body ∧ Tg w' A1 n ((List.range n).map (made f (kb k :: body) tos ts n)) ∧ (∀ o, A1 = some o → w.heap.size ≤ o.block) ∧ BS w' g ds (acc f (kb k :: body) tos ts n) ∧ KF g w w' :=
  sign_B _ g (crypt_book g ds (acc f (kb k :: body) tos ts)) k f body tos (made f (kb k :: body) tos ts n) (fun _ => numB_length _ _) Q Q' hQ' B nb cb hnb A n c hn w hst hyb hya fun T tc W i hi h1 h2 => by
    have hal := acc_length f (kb k :: body) tos ts i
    have h := btag_any _ g ds (acc f (kb k :: body) tos ts i) f (tos.getD i 0) (kb k :: body) T (1 + nb) tc W h1 h2 (by omega)
    have e := (acc_mem (f := f) (text := kb k :: body) (tos := tos) (ts := ts) hi).2
    unfold made bookTag
    rw [e]
    exact h
theorem check_book (g : Nat) (ds : List DK) (ts : List TK) (k f who : Int) (body tg : List UInt8) (tgs : List (List UInt8)) (Q : Nat → Prop)
    (B : Option Addr) (nb cb : Nat) (hnb : nb ≤ 100000) (A : Option Addr) (n c j : Nat) (hj : tgs[j]? = some tg) (hl : ts.length ≤ 1000000) (w : World) (hst : BS w g ds ts) (hyb : By w Q B nb body) (hta : Tg w A n tgs) (hne : ∀ o, A = some o → o.block ≠ g) :
    Calls Tryd.prog 10 #[.iface 30 (.pointer (some ⟨g, 0, none⟩)), .agg #[.int .i64 k, .int .i64 f, .slice B nb cb, .slice A n c], .int .i64 (j : Int), .int .i64 who] w fun e w' => e = .returned (.int .i64 (if bookHolds ts (f, who, kb k :: body) tg then 0 else 12)) ∧ BS w' g ds ts ∧ KF g w w' :=
  check_B (fun _ w => BS w g ds ts) g 0 (crypt_book g ds fun _ => ts) k f who body tg tgs _ Q B nb cb hnb A n c j hj w hst hyb hta hne fun T tc W h1 h2 => by
    have htl := hta.2.1 tg (List.mem_of_getElem? hj)
    refine (bcheck_any _ g ds ts f who (kb k :: body) tg T (1 + nb) tc W h1 h2 (by omega) htl).mono ?_
    rintro e w' ⟨he, hb⟩
    exact ⟨he, h1.through hb, KF.of_below h1.lt hb⟩

end Go.Proofs.YtnncfhkgcaoomaaDoor
