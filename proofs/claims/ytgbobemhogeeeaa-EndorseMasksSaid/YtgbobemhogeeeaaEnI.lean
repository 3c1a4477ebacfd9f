/-
  The program's place: its closures, IndexFunc, first, place.
-/
import Derived.Test.YtgbobemhogeeeaaEnA
import Derived.Laws.Cover1
namespace Go.Proofs.Ytgbobemhogeeeaa
open Go.RowKit

section
variable {α : Type}
/-- the first place at which p holds, or -1 -/
def ixF (p : α → Bool) (l : List α) : Int := match l.findIdx? p with | some i => (i : Int) | none => -1
theorem findIdx?_none_of {p : α → Bool} {l : List α} (h : ∀ x ∈ l, p x = false) : l.findIdx? p = none := by
  rw [List.findIdx?_eq_none_iff]
  simpa using h
theorem findIdx?_of {p : α → Bool} : ∀ {l : List α} {i : Nat} {x : α}, l[i]? = some x → p x = true → (∀ j y, j < i → l[j]? = some y → p y = false) → l.findIdx? p = some i
  | [], i, x, h, _, _ => by simp at h
  | y :: ys, 0, x, h, hp, _ => by
    simp at h
    subst h
    simp [List.findIdx?_cons, hp]
  | y :: ys, i + 1, x, h, hp, hb => by
    have h0 : p y = false := hb 0 y (by omega) rfl
    have h1 := findIdx?_of (l := ys) (i := i) (x := x) (by simpa using h) hp (fun j z hj hz => hb (j + 1) z (by omega) (by simpa using hz))
    simp [List.findIdx?_cons, h0, h1]
theorem findIdx_of_none {p : α → Bool} {l : List α} (h : l.findIdx? p = none) : l.findIdx p = l.length := by
  rw [List.findIdx?_eq_none_iff] at h
  exact List.findIdx_eq_length.2 (by simpa using h)
theorem findIdx_of_some {p : α → Bool} : ∀ {l : List α} {i : Nat}, l.findIdx? p = some i → l.findIdx p = i ∧ ∃ x, l[i]? = some x ∧ p x = true
  | [], i, h => by simp at h
  | y :: ys, i, h => by
    rw [List.findIdx?_cons] at h
    rw [List.findIdx_cons]
    cases hp : p y with
    | true =>
      rw [hp] at h
      simp at h
      subst h
      exact ⟨by simp, y, rfl, hp⟩
    | false =>
      rw [hp] at h
      simp at h
      obtain ⟨k, hk, rfl⟩ := h
      obtain ⟨h1, x, h2, h3⟩ := findIdx_of_some hk
      exact ⟨by simp [h1], x, by simpa using h2, h3⟩
end
theorem ret_i' {a b : Int} (h : a = b) : Ending.returned (Value.int .i64 a) = .returned (.int .i64 b) := by rw [h]
/-- where an organization's endorsement goes, and where those go on that stay behind it -/
def placeE (es : List En) (org : Int) : Nat × Nat := match es.findIdx? (fun e => e.og == org) with
  | some i => (i, i + 1)
  | none => match es.findIdx? (fun e => decide (org < e.og)) with
    | some i => (i, i)
    | none => (es.length, es.length)

set_option maxHeartbeats 1000000 in
theorem pl1_any (x y : Int) (g : Nat) (w : World) (h : Blk w g 3 [.int .i64 y]) : Calls Try.prog 61 #[.int .i64 x, .pointer (some ⟨g, 0, none⟩)] w fun e w' => e = .returned (.bool (x == y)) ∧ w' = w := by
  have c0 := h.cellAt (i := 0) rfl
  clear h
  go_enter Try.func61, Try.ntmps61
  go_wp2
  go_ret
  exact ⟨rfl, rfl⟩
set_option maxHeartbeats 2000000 in
theorem asks1_any (e : En) (B : Option Addr) (m c : Nat) (y : Int) (g gk : Nat) (w : World) (hk : Blk w gk 78 [.func (.func 61) #[] #[.pointer (some ⟨g, 0, none⟩)]]) (h : Blk w g 3 [.int .i64 y]) :
    Calls Try.prog 88 #[.agg #[.int .i64 e.og, .slice B m c], .pointer (some ⟨gk, 0, none⟩)] w fun e' w' => e' = .returned (.bool (e.og == y)) ∧ Below w.heap.size w w' := by
  have c0 := (hk.alloc (.cells #[.int .i64 e.og, .slice B m c] 34)).cellAt (i := 0) rfl
  have HG := Lib.hid (h.alloc (.cells #[.int .i64 e.og, .slice B m c] 34))
  have HX := Lib.hid (below1_ w (.cells #[.int .i64 e.og, .slice B m c] 34))
  clear hk h
  go_enter Try.func88, Try.ntmps88
  go_wp2_with (go_at_call 61; (with_reducible refine (pl1_any _ _ _ _ HG.out).mono ?_); rintro e1 w1 ⟨rfl, rfl⟩; generalize hq : (e.og == y) = qq; have HQ := Lib.hid hq; clear hq)
  go_ret
  exact ⟨by rw [HQ.out]; rfl, HX.out⟩
set_option maxHeartbeats 4000000 in
set_option maxRecDepth 100000 in
theorem idx1_any (es : List En) (A : Option Addr) (n c : Nat) (y : Int) (g gk : Nat) (w : World) (h : EsIn w A n es) (hn : n ≤ 1000000) (hk : Blk w gk 78 [.func (.func 61) #[] #[.pointer (some ⟨g, 0, none⟩)]]) (hg : Blk w g 3 [.int .i64 y]) :
    Calls Try.prog 87 #[.slice A n c, .func (.func 88) #[] #[.pointer (some ⟨gk, 0, none⟩)]] w fun e w' => e = .returned (.int .i64 (ixF (fun e : En => e.og == y) es)) ∧ Below w.heap.size w w' := by
  have HI := Lib.hid h
  have HLn := Lib.hid h.len
  have HIX := Lib.hid Try.ix_en
  have hcall : ∀ (W : World) (e : En) (B : Option Addr) (m c : Nat), Below w.heap.size w W → Calls Try.prog 88 #[.agg #[.int .i64 e.og, .slice B m c], .pointer (some ⟨gk, 0, none⟩)] W fun e' w' => e' = .returned (.bool ((fun e : En => e.og == y) e)) ∧ Below W.heap.size W w' := fun W e B m c hW => asks1_any e B m c y g gk W (hk.through hW) (hg.through hW)
  have HC := Lib.hid hcall
  obtain ⟨pr, hpr⟩ : ∃ pr : En → Bool, (fun e : En => e.og == y) = pr := ⟨_, rfl⟩
  rw [hpr] at HC ⊢
  clear hpr
  obtain ⟨bb, hbb⟩ : ∃ bb, ixF pr es = bb := ⟨_, rfl⟩
  rw [hbb]
  have HBB := Lib.hid hbb
  clear h hbb hcall hk hg
  go_enter Try.func87, Try.ntmps87
  go_wp2
  go_loopw [8] (fun iv wr => ∃ i : Nat, i ≤ n ∧ iv = .int .i64 i ∧ (∀ (j : Nat) (e : En), j < i → es[j]? = some e → pr e = false) ∧ Below w.heap.size w wr) (fun iv _ => n - (intOf iv).toNat)
  case atStart => exact ⟨0, Nat.zero_le _, rfl, fun j y hj _ => absurd hj (Nat.not_lt_zero _), Below.refl _ _⟩
  case round =>
    obtain ⟨i, hi, rfl, hp, hx⟩ := hrel
    have HX := Lib.hid hx
    have HP := Lib.hid hp
    clear hx hp
    by_cases hlt : i < n
    · obtain ⟨ge, o, e, B, m, d, rfl, hxi, _, hd, hrx, _⟩ := (HI.out.through HX.out).at hlt
      have HRx := Lib.hid hrx
      have hix := HIX.out wr ge o n c i hlt
      have hc := fun W hW => HC.out W e B m d hW
      have HXi := Lib.hid hxi
      clear hrx hd hxi
      cases hq : pr e with
      | true =>
        rw [hq] at hc
        have HC2 := Lib.hid hc
        have HE : Hid (ixF pr es = (i : Int)) := Lib.hid (by unfold ixF; rw [findIdx?_of HXi.out hq HP.out])
        clear hc hq
        go_wp2_with (first
          | (refine wpList_load_mid rfl 34 (.tmp 14) rfl ge (o + i * 2) rfl [.int .i64 e.og, .slice B m d] _ HRx.out Try.underlying34 rfl (by kernel_rfl) ?_)
          | (go_at_call 88; (with_reducible refine (HC2.out _ HX.out).mono ?_); rintro e5 w5 ⟨rfl, hb5⟩; have HX5 : Hid (Below w.heap.size w w5) := Lib.hid (below_step HX.out hb5); clear hb5))
        go_ret
        exact ⟨ret_i' (by rw [← HBB.out, HE.out]), HX5.out⟩
      | false =>
        rw [hq] at hc
        have HC2 := Lib.hid hc
        have HQ := Lib.hid hq
        clear hc hq
        go_wp2_with (first
          | (refine wpList_load_mid rfl 34 (.tmp 14) rfl ge (o + i * 2) rfl [.int .i64 e.og, .slice B m d] _ HRx.out Try.underlying34 rfl (by kernel_rfl) ?_)
          | (go_at_call 88; (with_reducible refine (HC2.out _ HX.out).mono ?_); rintro e5 w5 ⟨rfl, hb5⟩; have HX5 : Hid (Below w.heap.size w w5) := Lib.hid (below_step HX.out hb5); clear hb5))
        go_roundw
        case rel => exact ⟨i + 1, by omega, by go_num, fun j y hj hy => (Nat.lt_or_ge j i).elim (fun h9 => HP.out j y h9 hy) (fun h9 => by
          have h8 : j = i := by omega
          subst h8
          rw [HXi.out] at hy
          injection hy with hy
          rw [← hy]
          exact HQ.out), HX5.out⟩
        case measure => simp [intOf]; omega
    · have HE : Hid (ixF pr es = -1) := Lib.hid (by
        unfold ixF
        rw [findIdx?_none_of fun x hx => by
          obtain ⟨j, hj, rfl⟩ := List.mem_iff_getElem.1 hx
          exact HP.out j _ (by have := HLn.out; omega) (List.getElem?_eq_getElem hj)])
      go_wp2
      go_ret
      exact ⟨ret_i' (by rw [← HBB.out, HE.out]), HX.out⟩
set_option maxHeartbeats 2000000 in
theorem first1_any (es : List En) (A : Option Addr) (n c : Nat) (y : Int) (g : Nat) (w : World) (h : EsIn w A n es) (hn : n ≤ 1000000) (hg : Blk w g 3 [.int .i64 y]) :
    Calls Try.prog 60 #[.slice A n c, .func (.func 61) #[] #[.pointer (some ⟨g, 0, none⟩)]] w fun e w' => e = .returned (.int .i64 (ixF (fun e : En => e.og == y) es)) ∧ Below w.heap.size w w' := by
  have HI := Lib.hid (h.alloc (.cells #[.func (.func 61) #[] #[.pointer (some ⟨g, 0, none⟩)]] 78))
  have HG := Lib.hid (hg.alloc (.cells #[.func (.func 61) #[] #[.pointer (some ⟨g, 0, none⟩)]] 78))
  have HK : Hid (Blk (w.alloc (.cells #[.func (.func 61) #[] #[.pointer (some ⟨g, 0, none⟩)]] 78)) w.heap.size 78 [.func (.func 61) #[] #[.pointer (some ⟨g, 0, none⟩)]]) := Lib.hid (Blk.fresh rfl rfl)
  clear h hg
  go_enter Try.func60, Try.ntmps60
  go_wp2_with (go_at_call 87; (with_reducible refine (idx1_any es A n c y g _ _ HI.out hn HK.out HG.out).mono ?_); rintro e1 w1 ⟨rfl, hb1⟩; have HX1 := Lib.hid (below_step (below1_ w (.cells #[.func (.func 61) #[] #[.pointer (some ⟨g, 0, none⟩)]] 78)) hb1); clear hb1)
  go_ret
  exact ⟨rfl, HX1.out⟩

set_option maxHeartbeats 1000000 in
theorem pl2_any (x y : Int) (g : Nat) (w : World) (h : Blk w g 3 [.int .i64 y]) : Calls Try.prog 62 #[.int .i64 x, .pointer (some ⟨g, 0, none⟩)] w fun e w' => e = .returned (.bool (decide (y < x))) ∧ w' = w := by
  have c0 := h.cellAt (i := 0) rfl
  clear h
  go_enter Try.func62, Try.ntmps62
  go_wp2
  go_ret
  exact ⟨rfl, rfl⟩
set_option maxHeartbeats 2000000 in
theorem asks2_any (e : En) (B : Option Addr) (m c : Nat) (y : Int) (g gk : Nat) (w : World) (hk : Blk w gk 78 [.func (.func 62) #[] #[.pointer (some ⟨g, 0, none⟩)]]) (h : Blk w g 3 [.int .i64 y]) :
    Calls Try.prog 88 #[.agg #[.int .i64 e.og, .slice B m c], .pointer (some ⟨gk, 0, none⟩)] w fun e' w' => e' = .returned (.bool (decide (y < e.og))) ∧ Below w.heap.size w w' := by
  have c0 := (hk.alloc (.cells #[.int .i64 e.og, .slice B m c] 34)).cellAt (i := 0) rfl
  have HG := Lib.hid (h.alloc (.cells #[.int .i64 e.og, .slice B m c] 34))
  have HX := Lib.hid (below1_ w (.cells #[.int .i64 e.og, .slice B m c] 34))
  clear hk h
  go_enter Try.func88, Try.ntmps88
  go_wp2_with (go_at_call 62; (with_reducible refine (pl2_any _ _ _ _ HG.out).mono ?_); rintro e1 w1 ⟨rfl, rfl⟩; generalize hq : (decide (y < e.og)) = qq; have HQ := Lib.hid hq; clear hq)
  go_ret
  exact ⟨by rw [HQ.out]; rfl, HX.out⟩
set_option maxHeartbeats 4000000 in
set_option maxRecDepth 100000 in
theorem idx2_any (es : List En) (A : Option Addr) (n c : Nat) (y : Int) (g gk : Nat) (w : World) (h : EsIn w A n es) (hn : n ≤ 1000000) (hk : Blk w gk 78 [.func (.func 62) #[] #[.pointer (some ⟨g, 0, none⟩)]]) (hg : Blk w g 3 [.int .i64 y]) :
    Calls Try.prog 87 #[.slice A n c, .func (.func 88) #[] #[.pointer (some ⟨gk, 0, none⟩)]] w fun e w' => e = .returned (.int .i64 (ixF (fun e : En => decide (y < e.og)) es)) ∧ Below w.heap.size w w' := by
  have HI := Lib.hid h
  have HLn := Lib.hid h.len
  have HIX := Lib.hid Try.ix_en
  have hcall : ∀ (W : World) (e : En) (B : Option Addr) (m c : Nat), Below w.heap.size w W → Calls Try.prog 88 #[.agg #[.int .i64 e.og, .slice B m c], .pointer (some ⟨gk, 0, none⟩)] W fun e' w' => e' = .returned (.bool ((fun e : En => decide (y < e.og)) e)) ∧ Below W.heap.size W w' := fun W e B m c hW => asks2_any e B m c y g gk W (hk.through hW) (hg.through hW)
  have HC := Lib.hid hcall
  obtain ⟨pr, hpr⟩ : ∃ pr : En → Bool, (fun e : En => decide (y < e.og)) = pr := ⟨_, rfl⟩
  rw [hpr] at HC ⊢
  clear hpr
  obtain ⟨bb, hbb⟩ : ∃ bb, ixF pr es = bb := ⟨_, rfl⟩
  rw [hbb]
  have HBB := Lib.hid hbb
  clear h hbb hcall hk hg
  go_enter Try.func87, Try.ntmps87
  go_wp2
  go_loopw [8] (fun iv wr => ∃ i : Nat, i ≤ n ∧ iv = .int .i64 i ∧ (∀ (j : Nat) (e : En), j < i → es[j]? = some e → pr e = false) ∧ Below w.heap.size w wr) (fun iv _ => n - (intOf iv).toNat)
  case atStart => exact ⟨0, Nat.zero_le _, rfl, fun j y hj _ => absurd hj (Nat.not_lt_zero _), Below.refl _ _⟩
  case round =>
    obtain ⟨i, hi, rfl, hp, hx⟩ := hrel
    have HX := Lib.hid hx
    have HP := Lib.hid hp
    clear hx hp
    by_cases hlt : i < n
    · obtain ⟨ge, o, e, B, m, d, rfl, hxi, _, hd, hrx, _⟩ := (HI.out.through HX.out).at hlt
      have HRx := Lib.hid hrx
      have hix := HIX.out wr ge o n c i hlt
      have hc := fun W hW => HC.out W e B m d hW
      have HXi := Lib.hid hxi
      clear hrx hd hxi
      cases hq : pr e with
      | true =>
        rw [hq] at hc
        have HC2 := Lib.hid hc
        have HE : Hid (ixF pr es = (i : Int)) := Lib.hid (by unfold ixF; rw [findIdx?_of HXi.out hq HP.out])
        clear hc hq
        go_wp2_with (first
          | (refine wpList_load_mid rfl 34 (.tmp 14) rfl ge (o + i * 2) rfl [.int .i64 e.og, .slice B m d] _ HRx.out Try.underlying34 rfl (by kernel_rfl) ?_)
          | (go_at_call 88; (with_reducible refine (HC2.out _ HX.out).mono ?_); rintro e5 w5 ⟨rfl, hb5⟩; have HX5 : Hid (Below w.heap.size w w5) := Lib.hid (below_step HX.out hb5); clear hb5))
        go_ret
        exact ⟨ret_i' (by rw [← HBB.out, HE.out]), HX5.out⟩
      | false =>
        rw [hq] at hc
        have HC2 := Lib.hid hc
        have HQ := Lib.hid hq
        clear hc hq
        go_wp2_with (first
          | (refine wpList_load_mid rfl 34 (.tmp 14) rfl ge (o + i * 2) rfl [.int .i64 e.og, .slice B m d] _ HRx.out Try.underlying34 rfl (by kernel_rfl) ?_)
          | (go_at_call 88; (with_reducible refine (HC2.out _ HX.out).mono ?_); rintro e5 w5 ⟨rfl, hb5⟩; have HX5 : Hid (Below w.heap.size w w5) := Lib.hid (below_step HX.out hb5); clear hb5))
        go_roundw
        case rel => exact ⟨i + 1, by omega, by go_num, fun j y hj hy => (Nat.lt_or_ge j i).elim (fun h9 => HP.out j y h9 hy) (fun h9 => by
          have h8 : j = i := by omega
          subst h8
          rw [HXi.out] at hy
          injection hy with hy
          rw [← hy]
          exact HQ.out), HX5.out⟩
        case measure => simp [intOf]; omega
    · have HE : Hid (ixF pr es = -1) := Lib.hid (by
        unfold ixF
        rw [findIdx?_none_of fun x hx => by
          obtain ⟨j, hj, rfl⟩ := List.mem_iff_getElem.1 hx
          exact HP.out j _ (by have := HLn.out; omega) (List.getElem?_eq_getElem hj)])
      go_wp2
      go_ret
      exact ⟨ret_i' (by rw [← HBB.out, HE.out]), HX.out⟩
set_option maxHeartbeats 2000000 in
theorem first2_any (es : List En) (A : Option Addr) (n c : Nat) (y : Int) (g : Nat) (w : World) (h : EsIn w A n es) (hn : n ≤ 1000000) (hg : Blk w g 3 [.int .i64 y]) :
    Calls Try.prog 60 #[.slice A n c, .func (.func 62) #[] #[.pointer (some ⟨g, 0, none⟩)]] w fun e w' => e = .returned (.int .i64 (ixF (fun e : En => decide (y < e.og)) es)) ∧ Below w.heap.size w w' := by
  have HI := Lib.hid (h.alloc (.cells #[.func (.func 62) #[] #[.pointer (some ⟨g, 0, none⟩)]] 78))
  have HG := Lib.hid (hg.alloc (.cells #[.func (.func 62) #[] #[.pointer (some ⟨g, 0, none⟩)]] 78))
  have HK : Hid (Blk (w.alloc (.cells #[.func (.func 62) #[] #[.pointer (some ⟨g, 0, none⟩)]] 78)) w.heap.size 78 [.func (.func 62) #[] #[.pointer (some ⟨g, 0, none⟩)]]) := Lib.hid (Blk.fresh rfl rfl)
  clear h hg
  go_enter Try.func60, Try.ntmps60
  go_wp2_with (go_at_call 87; (with_reducible refine (idx2_any es A n c y g _ _ HI.out hn HK.out HG.out).mono ?_); rintro e1 w1 ⟨rfl, hb1⟩; have HX1 := Lib.hid (below_step (below1_ w (.cells #[.func (.func 62) #[] #[.pointer (some ⟨g, 0, none⟩)]] 78)) hb1); clear hb1)
  go_ret
  exact ⟨rfl, HX1.out⟩

set_option maxHeartbeats 1000000 in
theorem pl3_any (x y : Int) (g : Nat) (w : World) (h : Blk w g 3 [.int .i64 y]) : Calls Try.prog 64 #[.int .i64 x, .pointer (some ⟨g, 0, none⟩)] w fun e w' => e = .returned (.bool (x == y)) ∧ w' = w := by
  have c0 := h.cellAt (i := 0) rfl
  clear h
  go_enter Try.func64, Try.ntmps64
  go_wp2
  go_ret
  exact ⟨rfl, rfl⟩
set_option maxHeartbeats 2000000 in
theorem asks3_any (e : En) (B : Option Addr) (m c : Nat) (y : Int) (g gk : Nat) (w : World) (hk : Blk w gk 78 [.func (.func 64) #[] #[.pointer (some ⟨g, 0, none⟩)]]) (h : Blk w g 3 [.int .i64 y]) :
    Calls Try.prog 88 #[.agg #[.int .i64 e.og, .slice B m c], .pointer (some ⟨gk, 0, none⟩)] w fun e' w' => e' = .returned (.bool (e.og == y)) ∧ Below w.heap.size w w' := by
  have c0 := (hk.alloc (.cells #[.int .i64 e.og, .slice B m c] 34)).cellAt (i := 0) rfl
  have HG := Lib.hid (h.alloc (.cells #[.int .i64 e.og, .slice B m c] 34))
  have HX := Lib.hid (below1_ w (.cells #[.int .i64 e.og, .slice B m c] 34))
  clear hk h
  go_enter Try.func88, Try.ntmps88
  go_wp2_with (go_at_call 64; (with_reducible refine (pl3_any _ _ _ _ HG.out).mono ?_); rintro e1 w1 ⟨rfl, rfl⟩; generalize hq : (e.og == y) = qq; have HQ := Lib.hid hq; clear hq)
  go_ret
  exact ⟨by rw [HQ.out]; rfl, HX.out⟩
set_option maxHeartbeats 4000000 in
set_option maxRecDepth 100000 in
theorem idx3_any (es : List En) (A : Option Addr) (n c : Nat) (y : Int) (g gk : Nat) (w : World) (h : EsIn w A n es) (hn : n ≤ 1000000) (hk : Blk w gk 78 [.func (.func 64) #[] #[.pointer (some ⟨g, 0, none⟩)]]) (hg : Blk w g 3 [.int .i64 y]) :
    Calls Try.prog 87 #[.slice A n c, .func (.func 88) #[] #[.pointer (some ⟨gk, 0, none⟩)]] w fun e w' => e = .returned (.int .i64 (ixF (fun e : En => e.og == y) es)) ∧ Below w.heap.size w w' := by
  have HI := Lib.hid h
  have HLn := Lib.hid h.len
  have HIX := Lib.hid Try.ix_en
  have hcall : ∀ (W : World) (e : En) (B : Option Addr) (m c : Nat), Below w.heap.size w W → Calls Try.prog 88 #[.agg #[.int .i64 e.og, .slice B m c], .pointer (some ⟨gk, 0, none⟩)] W fun e' w' => e' = .returned (.bool ((fun e : En => e.og == y) e)) ∧ Below W.heap.size W w' := fun W e B m c hW => asks3_any e B m c y g gk W (hk.through hW) (hg.through hW)
  have HC := Lib.hid hcall
  obtain ⟨pr, hpr⟩ : ∃ pr : En → Bool, (fun e : En => e.og == y) = pr := ⟨_, rfl⟩
  rw [hpr] at HC ⊢
  clear hpr
  obtain ⟨bb, hbb⟩ : ∃ bb, ixF pr es = bb := ⟨_, rfl⟩
  rw [hbb]
  have HBB := Lib.hid hbb
  clear h hbb hcall hk hg
  go_enter Try.func87, Try.ntmps87
  go_wp2
  go_loopw [8] (fun iv wr => ∃ i : Nat, i ≤ n ∧ iv = .int .i64 i ∧ (∀ (j : Nat) (e : En), j < i → es[j]? = some e → pr e = false) ∧ Below w.heap.size w wr) (fun iv _ => n - (intOf iv).toNat)
  case atStart => exact ⟨0, Nat.zero_le _, rfl, fun j y hj _ => absurd hj (Nat.not_lt_zero _), Below.refl _ _⟩
  case round =>
    obtain ⟨i, hi, rfl, hp, hx⟩ := hrel
    have HX := Lib.hid hx
    have HP := Lib.hid hp
    clear hx hp
    by_cases hlt : i < n
    · obtain ⟨ge, o, e, B, m, d, rfl, hxi, _, hd, hrx, _⟩ := (HI.out.through HX.out).at hlt
      have HRx := Lib.hid hrx
      have hix := HIX.out wr ge o n c i hlt
      have hc := fun W hW => HC.out W e B m d hW
      have HXi := Lib.hid hxi
      clear hrx hd hxi
      cases hq : pr e with
      | true =>
        rw [hq] at hc
        have HC2 := Lib.hid hc
        have HE : Hid (ixF pr es = (i : Int)) := Lib.hid (by unfold ixF; rw [findIdx?_of HXi.out hq HP.out])
        clear hc hq
        go_wp2_with (first
          | (refine wpList_load_mid rfl 34 (.tmp 14) rfl ge (o + i * 2) rfl [.int .i64 e.og, .slice B m d] _ HRx.out Try.underlying34 rfl (by kernel_rfl) ?_)
          | (go_at_call 88; (with_reducible refine (HC2.out _ HX.out).mono ?_); rintro e5 w5 ⟨rfl, hb5⟩; have HX5 : Hid (Below w.heap.size w w5) := Lib.hid (below_step HX.out hb5); clear hb5))
        go_ret
        exact ⟨ret_i' (by rw [← HBB.out, HE.out]), HX5.out⟩
      | false =>
        rw [hq] at hc
        have HC2 := Lib.hid hc
        have HQ := Lib.hid hq
        clear hc hq
        go_wp2_with (first
          | (refine wpList_load_mid rfl 34 (.tmp 14) rfl ge (o + i * 2) rfl [.int .i64 e.og, .slice B m d] _ HRx.out Try.underlying34 rfl (by kernel_rfl) ?_)
          | (go_at_call 88; (with_reducible refine (HC2.out _ HX.out).mono ?_); rintro e5 w5 ⟨rfl, hb5⟩; have HX5 : Hid (Below w.heap.size w w5) := Lib.hid (below_step HX.out hb5); clear hb5))
        go_roundw
        case rel => exact ⟨i + 1, by omega, by go_num, fun j y hj hy => (Nat.lt_or_ge j i).elim (fun h9 => HP.out j y h9 hy) (fun h9 => by
          have h8 : j = i := by omega
          subst h8
          rw [HXi.out] at hy
          injection hy with hy
          rw [← hy]
          exact HQ.out), HX5.out⟩
        case measure => simp [intOf]; omega
    · have HE : Hid (ixF pr es = -1) := Lib.hid (by
        unfold ixF
        rw [findIdx?_none_of fun x hx => by
          obtain ⟨j, hj, rfl⟩ := List.mem_iff_getElem.1 hx
          exact HP.out j _ (by have := HLn.out; omega) (List.getElem?_eq_getElem hj)])
      go_wp2
      go_ret
      exact ⟨ret_i' (by rw [← HBB.out, HE.out]), HX.out⟩
set_option maxHeartbeats 2000000 in
theorem first3_any (es : List En) (A : Option Addr) (n c : Nat) (y : Int) (g : Nat) (w : World) (h : EsIn w A n es) (hn : n ≤ 1000000) (hg : Blk w g 3 [.int .i64 y]) :
    Calls Try.prog 60 #[.slice A n c, .func (.func 64) #[] #[.pointer (some ⟨g, 0, none⟩)]] w fun e w' => e = .returned (.int .i64 (ixF (fun e : En => e.og == y) es)) ∧ Below w.heap.size w w' := by
  have HI := Lib.hid (h.alloc (.cells #[.func (.func 64) #[] #[.pointer (some ⟨g, 0, none⟩)]] 78))
  have HG := Lib.hid (hg.alloc (.cells #[.func (.func 64) #[] #[.pointer (some ⟨g, 0, none⟩)]] 78))
  have HK : Hid (Blk (w.alloc (.cells #[.func (.func 64) #[] #[.pointer (some ⟨g, 0, none⟩)]] 78)) w.heap.size 78 [.func (.func 64) #[] #[.pointer (some ⟨g, 0, none⟩)]]) := Lib.hid (Blk.fresh rfl rfl)
  clear h hg
  go_enter Try.func60, Try.ntmps60
  go_wp2_with (go_at_call 87; (with_reducible refine (idx3_any es A n c y g _ _ HI.out hn HK.out HG.out).mono ?_); rintro e1 w1 ⟨rfl, hb1⟩; have HX1 := Lib.hid (below_step (below1_ w (.cells #[.func (.func 64) #[] #[.pointer (some ⟨g, 0, none⟩)]] 78)) hb1); clear hb1)
  go_ret
  exact ⟨rfl, HX1.out⟩

set_option maxHeartbeats 4000000 in
theorem place_any (es : List En) (A : Option Addr) (n c : Nat) (y : Int) (w : World) (h : EsIn w A n es) (hn : n ≤ 1000000) :
    Calls Try.prog 29 #[.slice A n c, .int .i64 y] w fun e w' => e = .returned (.tuple #[.int .i64 ((placeE es y).1 : Nat), .int .i64 ((placeE es y).2 : Nat)]) ∧ Below w.heap.size w w' := by
  have HLn := Lib.hid h.len
  have HI0 := Lib.hid (h.alloc (.cells #[.int .i64 y] 3))
  have HG0 : Hid (Blk (w.alloc (.cells #[.int .i64 y] 3)) w.heap.size 3 [.int .i64 y]) := Lib.hid (Blk.fresh rfl rfl)
  have HX0 := Lib.hid (below1_ w (.cells #[.int .i64 y] 3))
  clear h
  cases h1 : es.findIdx? (fun e => e.og == y) with
  | some i =>
    have hil : i < 1000000 := by
      obtain ⟨_, x, hx, _⟩ := findIdx_of_some h1
      have h9 := (List.getElem?_eq_some_iff.1 hx).1
      have := HLn.out
      omega
    have HV1 : Hid (ixF (fun e : En => e.og == y) es = (i : Int)) := Lib.hid (by unfold ixF; rw [h1])
    have HPE : Hid (placeE es y = (i, i + 1)) := Lib.hid (by unfold placeE; rw [h1])
    clear h1
    go_enter Try.func29, Try.ntmps29
    go_wp2_with (go_at_call 60; (with_reducible refine (first1_any es A n c y _ _ HI0.out hn HG0.out).mono ?_); rintro e1 w1 ⟨rfl, hb1⟩; rw [HV1.out]; have HX1 := Lib.hid (below_step HX0.out hb1); have HI1 := Lib.hid (HI0.out.through hb1); have HG1 := Lib.hid (HG0.out.through hb1); clear hb1)
    go_ret2
    exact ⟨by rw [HPE.out]; rfl, HX1.out⟩
  | none =>
    have HV1 : Hid (ixF (fun e : En => e.og == y) es = -1) := Lib.hid (by unfold ixF; rw [h1])
    cases h2 : es.findIdx? (fun e => decide (y < e.og)) with
    | some i =>
      have HV2 : Hid (ixF (fun e : En => decide (y < e.og)) es = (i : Int)) := Lib.hid (by unfold ixF; rw [h2])
      have HPE : Hid (placeE es y = (i, i)) := Lib.hid (by unfold placeE; rw [h1]; simp only [h2])
      clear h1 h2
      go_enter Try.func29, Try.ntmps29
      go_wp2_with (first
        | (go_at_call 60; (with_reducible refine (first1_any es A n c y _ _ HI0.out hn HG0.out).mono ?_); rintro e1 w1 ⟨rfl, hb1⟩; rw [HV1.out]; have HX1 := Lib.hid (below_step HX0.out hb1); have HI1 := Lib.hid (HI0.out.through hb1); have HG1 := Lib.hid (HG0.out.through hb1); clear hb1)
        | (go_at_call 60; (with_reducible refine (first2_any es A n c y _ _ HI1.out hn HG1.out).mono ?_); rintro e2 w2 ⟨rfl, hb2⟩; rw [HV2.out]; have HX2 := Lib.hid (below_step HX1.out hb2); have HI2 := Lib.hid (HI1.out.through hb2); have HG2 := Lib.hid (HG1.out.through hb2); clear hb2))
      go_ret2
      exact ⟨by rw [HPE.out]; rfl, HX2.out⟩
    | none =>
      have HV2 : Hid (ixF (fun e : En => decide (y < e.og)) es = -1) := Lib.hid (by unfold ixF; rw [h2])
      have HPE : Hid (placeE es y = (n, n)) := Lib.hid (by unfold placeE; rw [h1]; simp only [h2]; rw [HLn.out])
      clear h1 h2
      go_enter Try.func29, Try.ntmps29
      go_wp2_with (first
        | (go_at_call 60; (with_reducible refine (first1_any es A n c y _ _ HI0.out hn HG0.out).mono ?_); rintro e1 w1 ⟨rfl, hb1⟩; rw [HV1.out]; have HX1 := Lib.hid (below_step HX0.out hb1); have HI1 := Lib.hid (HI0.out.through hb1); have HG1 := Lib.hid (HG0.out.through hb1); clear hb1)
        | (go_at_call 60; (with_reducible refine (first2_any es A n c y _ _ HI1.out hn HG1.out).mono ?_); rintro e2 w2 ⟨rfl, hb2⟩; rw [HV2.out]; have HX2 := Lib.hid (below_step HX1.out hb2); have HI2 := Lib.hid (HI1.out.through hb2); have HG2 := Lib.hid (HG1.out.through hb2); clear hb2))
      go_ret2
      exact ⟨by rw [HPE.out]; rfl, HX2.out⟩

end Go.Proofs.Ytgbobemhogeeeaa
