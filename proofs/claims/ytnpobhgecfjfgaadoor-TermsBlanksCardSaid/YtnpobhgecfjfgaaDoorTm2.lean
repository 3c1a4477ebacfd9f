/-
  A text of a policy that may be, with blanks or without, is read as it. No walk here.
-/
import Derived.Test.YtnpobhgecfjfgaaDoorTm
namespace Go.Proofs.YtnpobhgecfjfgaaDoor

theorem begP_cons (x y : UInt8) (s t : List UInt8) : begP (x :: s) (y :: t) = (decide (x = y) && begP s t) := rfl
theorem begP_nil (t : List UInt8) : begP [] t = true := by cases t <;> rfl
theorem loopP_succ (p : List UInt8 → Option (Fm × List UInt8)) (n : Nat) (t : List UInt8) : loopP p (n + 1) t = (match p (t.drop 1) with
    | none => none
    | some (f, rest) => if begP [41] (bareP rest) then some ([f], (bareP rest).drop 1)
      else if begP [44] (bareP rest) then (match loopP p n (bareP rest) with | none => none | some (l, r) => some (f :: l, r))
      else none) := rfl
theorem loopP_end {p : List UInt8 → Option (Fm × List UInt8)} {n : Nat} {x : UInt8} {t rest r : List UInt8} {f : Fm} (h : p t = some (f, rest)) (hr : bareP rest = 41 :: r) : loopP p (n + 1) (x :: t) = some ([f], r) := by
  rw [loopP_succ, List.drop_one, List.tail_cons, h]
  simp only
  rw [hr, begP_cons, begP_nil]
  rfl
theorem loopP_on {p : List UInt8 → Option (Fm × List UInt8)} {n : Nat} {x : UInt8} {t rest r r' : List UInt8} {f : Fm} {l : List Fm} (h : p t = some (f, rest)) (hr : bareP rest = 44 :: r) (hl : loopP p n (44 :: r) = some (l, r')) : loopP p (n + 1) (x :: t) = some (f :: l, r') := by
  rw [loopP_succ, List.drop_one, List.tail_cons, h]
  simp only
  rw [hr, begP_cons, begP_nil, begP_cons, begP_nil, hl]
  rfl
theorem rowP_of {p : List UInt8 → Option (Fm × List UInt8)} {t u : List UInt8} (h : bareP t = 40 :: u) : rowP p t = loopP p (u.length + 1) (40 :: u) := by
  unfold rowP
  rw [h, begP_cons, begP_nil]
  rfl
theorem polP_all {k : Nat} {t u r : List UInt8} {l : List Fm} (h : bareP t = 97 :: 108 :: 108 :: u) (hr : rowP (polP k) u = some (l, r)) : polP (k + 1) t = some (.mk 0 l.length l, r) := by
  show (if begP [97, 108, 108] (bareP t) then _ else _) = _
  rw [h, begP_cons, begP_cons, begP_cons, begP_nil, if_pos (by decide)]
  simp only [List.drop_succ_cons, List.drop_zero]
  rw [hr]
theorem polP_any {k : Nat} {t u r : List UInt8} {l : List Fm} (h : bareP t = 97 :: 110 :: 121 :: u) (hr : rowP (polP k) u = some (l, r)) : polP (k + 1) t = some (.mk 0 1 l, r) := by
  show (if begP [97, 108, 108] (bareP t) then _ else if begP [97, 110, 121] (bareP t) then _ else _) = _
  rw [h, begP_cons, begP_cons, begP_cons, begP_cons, begP_cons, begP_cons, begP_nil, if_neg (by simp), if_pos (by decide)]
  simp only [List.drop_succ_cons, List.drop_zero]
  rw [hr]
theorem polP_num {k v : Nat} {t u rest : List UInt8} {x : UInt8} (h : bareP t = x :: u) (hx : x ≠ 97) (hn : numP (x :: u) = some (v, rest)) :
    polP (k + 1) t = if begP [111, 102] (bareP rest) then (match rowP (polP k) ((bareP rest).drop 2) with | none => none | some (l, r) => if 1 ≤ v ∧ v ≤ 99 then some (.mk 0 v l, r) else none) else some (.mk v 0 [], rest) := by
  have hd : decide ((97 : UInt8) = x) = false := by simpa using fun e => hx e.symm
  show (if begP [97, 108, 108] (bareP t) then _ else if begP [97, 110, 121] (bareP t) then _ else _) = _
  rw [h, begP_cons, begP_cons, hd, Bool.false_and, Bool.false_and, if_neg (by simp), if_neg (by simp), hn]
  rfl

theorem spT_len : ∀ {ks : List Fm} {u : List UInt8}, SpT ks u → ks.length < u.length
  | [], u, ⟨b, _, e⟩ => by rw [e]; simp
  | k :: ks, u, ⟨b, c, s, v, _, _, _, h, e⟩ => by
    have := spT_len h
    rw [e]
    simp
    omega
/-- what is read of a policy's text -/
def Reads (k : Nat) (f : Fm) : Prop := ∀ (t b r : List UInt8), Sp f t → isBl b → Ends r → polP k (b ++ (t ++ r)) = some (f, r)
theorem loop_sp (k : Nat) : ∀ (ks : List Fm) (k0 : Fm) (n : Nat) (x : UInt8) (c s u r : List UInt8), (∀ f, f ∈ k0 :: ks → Reads k f) → isBl c → Sp k0 s → SpT ks u → ks.length < n → loopP (polP k) n (x :: (c ++ (s ++ (u ++ r)))) = some (k0 :: ks, r)
  | [], k0, n + 1, x, c, s, u, r, hp, hc, hs, ⟨b, hb, e⟩, _ => by
    subst e
    have e2 : b ++ [41] ++ r = b ++ 41 :: r := by simp
    rw [e2]
    exact loopP_end (hp k0 (by simp) s c _ hs hc (ends_bl hb (.inl rfl))) (by rw [bareP_bl _ hb, bareP_ne _ (by decide)])
  | k1 :: ks, k0, n + 1, x, c, s, u, r, hp, hc, hs, ⟨b, c', s', v, hb, hc', hs', hv, e⟩, hn => by
    subst e
    have e2 : b ++ 44 :: (c' ++ (s' ++ v)) ++ r = b ++ 44 :: (c' ++ (s' ++ (v ++ r))) := by simp
    rw [e2]
    refine loopP_on (hp k0 (by simp) s c _ hs hc (ends_bl hb (.inr rfl))) (by rw [bareP_bl _ hb, bareP_ne _ (by decide)]) ?_
    exact loop_sp k ks k1 n 44 c' s' v r (fun f hf => hp f (by simp at hf ⊢; exact .inr hf)) hc' hs' hv (by simp at hn; omega)

theorem row_sp {k : Nat} {k0 : Fm} {ks : List Fm} {b c s u r : List UInt8} (hp : ∀ f, f ∈ k0 :: ks → Reads k f) (hb : isBl b) (hc : isBl c) (hs : Sp k0 s) (hu : SpT ks u) :
    rowP (polP k) (b ++ 40 :: (c ++ (s ++ (u ++ r)))) = some (k0 :: ks, r) := by
  rw [rowP_of (u := c ++ (s ++ (u ++ r))) (by rw [bareP_bl _ hb, bareP_ne _ (by decide)])]
  exact loop_sp k ks k0 _ 40 c s u r hp hc hs hu (by have := spT_len hu; simp; omega)

/-- EVERY TEXT OF A POLICY THAT MAY BE IS READ AS IT, with whatever stands behind it. -/
theorem reads_all (f : Fm) : ∀ k, f.rng 7 = true → f.size ≤ 99 → f.depth ≤ k → Reads k f := by
  induction f using Fm.ind with
  | h o a ks ih =>
    intro k hr hz hd t b r hs hb he
    cases ks with
    | nil =>
      have ho : 0 ≤ o ∧ o < 7 ∧ a = 0 := by simp [Fm.rng] at hr; omega
      cases k with
      | zero => simp [Fm.depth] at hd
      | succ k =>
        have ht : t = digs o.toNat := hs
        subst ht
        obtain ⟨x, u, hx, h32, h97⟩ := digs_head (n := o.toNat) (by omega)
        have hb2 : bareP (b ++ (digs o.toNat ++ r)) = x :: (u ++ r) := by
          rw [bareP_bl _ hb, hx]
          exact bareP_ne _ h32
        have hn : numP (x :: (u ++ r)) = some (o.toNat, r) := by
          have := numP_digs (n := o.toNat) (by omega) (digP_ends he)
          rw [hx] at this
          exact this
        rw [polP_num hb2 h97 hn, ends_of he, if_neg (by simp)]
        rw [ho.2.2, Int.toNat_of_nonneg ho.1]
    | cons k0 ks =>
      simp only [Fm.rng, Bool.and_eq_true, decide_eq_true_eq] at hr
      obtain ⟨hrs, ⟨h1, h2⟩, h3⟩ := hr
      simp only [Fm.size, Fm.sizes] at hz
      simp only [Fm.depth] at hd
      cases k with
      | zero => omega
      | succ k =>
        have hp : ∀ f, f ∈ k0 :: ks → Reads k f := fun f hf => ih f hf k (Fm.rngs_mem hrs hf) (by have := Fm.sizes_mem hf; simp only [Fm.sizes] at this; omega) (by have := Fm.depths_mem hf; omega)
        have hlen : ks.length + 1 ≤ 99 := by have := Fm.length_sizes ks; have := k0.size_pos; omega
        obtain ⟨b', c, s, u, hb', hc, hs', hu, ht⟩ := hs
        subst ht
        have hrow := row_sp (r := r) hp hb' hc hs' hu
        have eapp : ∀ hd' : List UInt8, b ++ (hd' ++ (b' ++ 40 :: (c ++ (s ++ u))) ++ r) = b ++ (hd' ++ (b' ++ 40 :: (c ++ (s ++ (u ++ r))))) := fun hd' => by simp
        rw [eapp]
        unfold headP
        subst h3
        by_cases hal : a = ((ks.length + 1 : Nat) : Int)
        · rw [if_pos hal]
          have := polP_all (k := k) (t := b ++ ([97, 108, 108] ++ (b' ++ 40 :: (c ++ (s ++ (u ++ r)))))) (by rw [bareP_bl _ hb]; exact bareP_ne _ (by decide)) hrow
          rw [this, hal]
          rfl
        · rw [if_neg hal]
          by_cases ha1 : a = 1
          · rw [if_pos ha1]
            have := polP_any (k := k) (t := b ++ ([97, 110, 121] ++ (b' ++ 40 :: (c ++ (s ++ (u ++ r)))))) (by rw [bareP_bl _ hb]; exact bareP_ne _ (by decide)) hrow
            rw [this, ha1]
          · rw [if_neg ha1]
            obtain ⟨x, y, hx, h32, h97⟩ := digs_head (n := a.toNat) (by omega)
            have hb2 : bareP (b ++ (digs a.toNat ++ [111, 102] ++ (b' ++ 40 :: (c ++ (s ++ (u ++ r)))))) = x :: (y ++ (111 :: 102 :: (b' ++ 40 :: (c ++ (s ++ (u ++ r)))))) := by
              rw [bareP_bl _ hb, hx]
              simp only [List.cons_append, List.append_assoc, List.nil_append]
              exact bareP_ne _ h32
            have hn : numP (x :: (y ++ (111 :: 102 :: (b' ++ 40 :: (c ++ (s ++ (u ++ r))))))) = some (a.toNat, 111 :: 102 :: (b' ++ 40 :: (c ++ (s ++ (u ++ r))))) := by
              have := numP_digs (n := a.toNat) (by omega) (r := 111 :: 102 :: (b' ++ 40 :: (c ++ (s ++ (u ++ r))))) (by rw [digP_cons]; rfl)
              rw [hx] at this
              exact this
            rw [polP_num hb2 h97 hn, bareP_ne _ (by decide), begP_cons, begP_cons, begP_nil, if_pos (by decide)]
            simp only [List.drop_succ_cons, List.drop_zero]
            rw [hrow]
            simp only
            rw [if_pos (by omega), Int.toNat_of_nonneg (by omega)]

/-- What is printed is read. -/
theorem parse_sp {f : Fm} {t : List UInt8} {n : Int} (hs : Sp f t) (hl : t.length ≤ 200) (hr : f.rng 7 = true) (hz : f.size ≤ 32) (hd : f.depth ≤ 5) (hc : f.check n = 0) : parseP t n = (f, 0) := by
  have h := reads_all f 10 hr (by omega) (by omega) t [] [] hs isBl_nil ends_nil
  rw [List.nil_append, List.append_nil] at h
  unfold parseP
  rw [if_neg (by omega), h]
  simp only
  rw [if_neg (by simp [bareP]), if_neg (by simp [hc])]

end Go.Proofs.YtnpobhgecfjfgaaDoor
