/-
  NwP ClF NlF
-/
import Derived.Test.YtheecifgbkdecaaSN29
import Derived.Test.YtheecifgbkdecaaSN24
import Derived.Test.YtheecifgbkdecaaSN27
namespace Go.Proofs.Ytheecifgbkdecaa
open Go.RowKit

theorem tval_short {v : Nat} : ∀ {s : Option (List UInt8)}, stL s < v → tval v s = [] ∧ nnext v s = none
 | none, _ => ⟨rfl, rfl⟩
 | some xs, h => by
  have h9 : ¬ v ≤ xs.length := by simp only [stL] at h; omega
  rw [tval_some, nnext_some, if_neg h9, if_neg h9]
  exact ⟨rfl, rfl⟩
/-- a row that isn't too long is the same by both bounds -/
theorem rval_low {M : Nat} {st : Option (List UInt8)} (hM : stL st ≤ M) (h : (rval M st).length ≤ 1048576) : rval M st = rval 1048576 st ∧ rnext M st = rnext 1048576 st := by
 have hs := nnext_stL 4 st
 unfold rval rnext at *
 generalize nval 4 st = v at *
 generalize nnext 4 st = s at *
 by_cases h1 : v ≤ 1048576
 ·rw [if_pos h1, if_pos h1]
  by_cases h2 : v ≤ M
  ·rw [if_pos h2, if_pos h2]; exact ⟨rfl, rfl⟩
  ·rw [if_neg h2, if_neg h2]
   obtain ⟨a, b⟩ := tval_short (v := v) (s := s) (by omega)
   rw [a, b]; exact ⟨rfl, rfl⟩
 ·rw [if_neg h1, if_neg h1]
  by_cases h2 : v ≤ M
  ·rw [if_pos h2, if_pos h2] at *
   cases s with
   | none => exact ⟨rfl, rfl⟩
   | some xs =>
    by_cases h3 : v ≤ xs.length
    ·rw [tval_some, if_pos h3, List.length_take] at h; omega
    ·rw [tval_some, nnext_some, if_neg h3, if_neg h3]; exact ⟨rfl, rfl⟩
  ·rw [if_neg h2, if_neg h2]; exact ⟨rfl, rfl⟩
/-- no row on the way is too long -/
def rowsLow (M : Nat) : Nat → Option (List UInt8) → Prop
 | 0, _ => True
 | k + 1, st => (rval M (nnext 1 st)).length ≤ 1000000 ∧ rowsLow M k (rnext M (nnext 1 st))
def nvGo (M : Nat) (n : Int) : Nat → List Sg → Option (List UInt8) → List Sg × Bool × Option (List UInt8)
 | 0, l, st => (l, true, st)
 | k + 1, l, st => if (parseCh (rval M (nnext 1 st)) n).2 = 0 then nvGo M n k (l ++ [⟨((nval 1 st : Nat) : Int), (parseCh (rval M (nnext 1 st)) n).1⟩]) (rnext M (nnext 1 st)) else (l, false, st)
def finP (view : Int) (r : List Sg × Bool × Option (List UInt8)) (n : Int) : (Int × List Sg) × Int := if r.2.1 = true ∧ r.2.2 = some [] ∧ chkNv view r.1 n = 0 then ((view, r.1), 0) else ((0, []), 2)
def pgNv (xs : List UInt8) (n : Int) : (Int × List Sg) × Int := if badN n = true then ((0, []), 1) else finP (sx 8 (nval 8 (some xs))) (nvGo xs.length n (cval n.toNat (nnext 8 (some xs))) [] (cnext n.toNat (nnext 8 (some xs)))) n
def NvLow (xs : List UInt8) (n : Int) : Prop := rowsLow xs.length (cval n.toNat (nnext 8 (some xs))) (cnext n.toNat (nnext 8 (some xs)))

theorem parseCh_nil (n : Int) : (parseCh [] n).2 ≠ 0 := by
 unfold parseCh
 by_cases hb : badN n = true
 ·rw [if_pos hb]; decide
 rw [if_neg hb]
 have e : (rdCh (some [])).2.2 = none := by
  unfold rdCh
  simp only
  have e8 : nnext 8 (nnext 8 (some ([] : List UInt8))) = none := rfl
  rw [e8, rdPos_to_none, rdPfs_to_none]
  exact rdPfs_to_none _
 unfold finCh
 rw [if_neg (fun h9 => by rw [e] at h9; exact absurd h9.1 (by decide))]
 decide
theorem rval_of_none (M : Nat) : rval M none = [] := by unfold rval; split <;> rfl
theorem nvGo_rd {M : Nat} (n : Int) : ∀ (k : Nat) (l : List Sg) (st : Option (List UInt8)), stL st ≤ M → rowsLow M k st → ((nvGo M n k l st).2.1 = true → (nvGo M n k l st).2.2 = (rdMany (rdSg n) k st).2 ∧ (rdMany (rdSg n) k st).1.all (·.2) = true ∧ (nvGo M n k l st).1 = l ++ (rdMany (rdSg n) k st).1.map (·.1)) ∧ ((nvGo M n k l st).2.1 = false → (rdMany (rdSg n) k st).2 ≠ some [] ∨ (rdMany (rdSg n) k st).1.all (·.2) = false)
 | 0, l, st, _, _ => ⟨fun _ => ⟨rfl, rfl, by simp [nvGo, rdMany_zero]⟩, fun h => by simp [nvGo] at h⟩
 | k + 1, l, none, _, _ => by
  rw [rdMany_none]
  unfold nvGo
  rw [show nnext 1 none = none from rfl, rval_of_none, if_neg (parseCh_nil n)]
  exact ⟨fun h => (nomatch h), fun _ => .inl (fun h => nomatch h)⟩
 | k + 1, l, some xs, hM, h => by
  obtain ⟨h1, h2⟩ := h
  have hs := nnext_stL 1 (some xs)
  obtain ⟨a1, a2⟩ := rval_low (M := M) (st := nnext 1 (some xs)) (by omega) (by omega)
  rw [rdMany_some]
  unfold nvGo rdSg
  simp only
  rw [← a1, ← a2]
  by_cases h0 : (parseCh (rval M (nnext 1 (some xs))) n).2 = 0
  ·rw [if_pos h0]
   have hs2 := rnext_stL M (nnext 1 (some xs))
   obtain ⟨b1, b2⟩ := nvGo_rd (M := M) n k (l ++ [⟨((nval 1 (some xs) : Nat) : Int), (parseCh (rval M (nnext 1 (some xs))) n).1⟩]) (rnext M (nnext 1 (some xs))) (by omega) h2
   refine ⟨fun h9 => ?_, fun h9 => ?_⟩
   ·obtain ⟨c1, c2, c3⟩ := b1 h9
    refine ⟨c1, ?_, ?_⟩
    ·simp only [List.all_cons, decide_eq_true h0, Bool.true_and]; exact c2
    ·rw [c3, List.append_assoc]; rfl
   ·rcases b2 h9 with c | c
    ·exact .inl c
    ·refine .inr ?_
     simp only [List.all_cons, decide_eq_true h0, Bool.true_and]; exact c
  ·rw [if_neg h0]
   refine ⟨fun h9 => (nomatch h9), fun _ => .inr ?_⟩
   simp only [List.all_cons, decide_eq_false h0, Bool.false_and]
theorem rdMany_full {α : Type} {rd : Option (List UInt8) → α × Option (List UInt8)} : ∀ (k : Nat) (st : Option (List UInt8)), (rdMany rd k st).2 ≠ none → (rdMany rd k st).1.length = k
 | 0, _, _ => rfl
 | k + 1, none, h => by rw [rdMany_none] at h; exact absurd rfl h
 | k + 1, some xs, h => by
  rw [rdMany_some] at h ⊢
  simp only [List.length_cons]
  rw [rdMany_full k _ h]
theorem pgNv_eq {xs : List UInt8} {n : Int} (h : NvLow xs n) : pgNv xs n = parseNv xs n := by
 unfold pgNv parseNv
 by_cases hb : badN n = true
 ·rw [if_pos hb, if_pos hb]
 rw [if_neg hb, if_neg hb]
 have hbn : badN n = false := by simpa using hb
 obtain ⟨n1, n7⟩ := badN_le hbn
 unfold NvLow at h
 have hl : stL (nnext 8 (some xs)) ≤ xs.length := Nat.le_trans (nnext_stL _ _) (Nat.le_refl _)
 generalize sx 8 (nval 8 (some xs)) = view
 generalize nnext 8 (some xs) = s at *
 by_cases hv : nval 2 s ≤ n.toNat
 ·have e1 : cval n.toNat s = nval 2 s := if_pos hv
  have e2 : cnext n.toNat s = nnext 2 s := if_pos hv
  have e3 : cval 7 s = nval 2 s := if_pos (by omega)
  have e4 : cnext 7 s = nnext 2 s := if_pos (by omega)
  rw [e1, e2] at h ⊢
  rw [e3, e4]
  have hs := nnext_stL 2 s
  obtain ⟨b1, b2⟩ := nvGo_rd (M := xs.length) n (nval 2 s) [] (nnext 2 s) (by omega) h
  generalize nvGo xs.length n (nval 2 s) [] (nnext 2 s) = G at *
  generalize rdMany (rdSg n) (nval 2 s) (nnext 2 s) = D at *
  obtain ⟨g1, g2, g3⟩ := G
  obtain ⟨d1, d2⟩ := D
  simp only at b1 b2
  unfold finP finNv
  simp only
  cases g2 with
  | false =>
   rw [if_neg (fun h9 => by cases h9.1), if_neg]
   rintro ⟨h9, h8, _⟩
   rcases b2 rfl with c | c
   ·exact c h9
   ·rw [c] at h8; cases h8
  | true =>
   obtain ⟨c1, c2, c3⟩ := b1 rfl
   rw [List.nil_append] at c3
   subst c1 c3
   by_cases hq : g3 = some [] ∧ chkNv view (d1.map (·.1)) n = 0
   ·rw [if_pos ⟨rfl, hq.1, hq.2⟩, if_pos ⟨hq.1, c2, hq.2⟩]
   ·rw [if_neg (fun h9 => hq h9.2), if_neg (fun h9 => hq ⟨h9.1, h9.2.2⟩)]
 ·have e1 : cval n.toNat s = 0 := if_neg hv
  have e2 : cnext n.toNat s = none := if_neg hv
  rw [e1, e2]
  unfold finP finNv nvGo
  rw [if_neg (fun h9 => nomatch h9.2.1), if_neg]
  rintro ⟨h9, _, h8⟩
  obtain ⟨_, h7, _⟩ := chkNv_0 h8
  have h6 := rdMany_full (rd := rdSg n) (cval 7 s) (cnext 7 s) (by rw [h9]; exact fun h => nomatch h)
  rw [List.length_map, h6] at h7
  by_cases hv7 : nval 2 s ≤ 7
  ·have e3 : cval 7 s = nval 2 s := if_pos hv7
   rw [e3] at h7
   omega
  ·have e4 : cnext 7 s = none := if_neg hv7
   rw [e4, rdMany_none] at h9
   cases h9
theorem nnext_beB (v k : Nat) (ys : List UInt8) : nnext k (some (beB v k ++ ys)) = some ys := by
 have hl := beB_length v k
 rw [nnext_some, if_pos (by simp [hl]), List.drop_append_of_le_length (by omega), List.drop_of_length_le (by omega)]
 rfl
theorem rowsLow_enc {M : Nat} (hM : M < 4294967296) : ∀ (l : List Sg), (∀ s ∈ l, (encCh s.ch).length ≤ 800000 ∧ (encCh s.ch).length ≤ M) → rowsLow M l.length (some (encAll encSg l))
 | [], _ => trivial
 | s :: l, h => by
  obtain ⟨h1, h2⟩ := h s (List.mem_cons_self ..)
  have e : some (encAll encSg (s :: l)) = some (beB (u64N s.fr) 1 ++ (rowB (encCh s.ch) ++ encAll encSg l)) := by simp only [encAll, encSg, List.append_assoc]
  have e1 : nnext 1 (some (encAll encSg (s :: l))) = some (rowB (encCh s.ch) ++ encAll encSg l) := by rw [e]; exact nnext_beB _ 1 _
  obtain ⟨a1, a2⟩ := r_front h2 hM (encAll encSg l)
  show (rval M (nnext 1 (some (encAll encSg (s :: l))))).length ≤ 1000000 ∧ rowsLow M l.length (rnext M (nnext 1 (some (encAll encSg (s :: l)))))
  rw [e1, a1, a2]
  exact ⟨by omega, rowsLow_enc hM l (fun x hx => h x (List.mem_cons_of_mem _ hx))⟩
theorem encAll_mem (s : Sg) : ∀ {l : List Sg}, s ∈ l → (encCh s.ch).length ≤ (encAll encSg l).length
 | x :: l, h => by
  simp only [encAll, List.length_append]
  rcases List.mem_cons.1 h with rfl | h
  ·simp only [encSg, rowB, List.length_append]; omega
  ·have := encAll_mem s h; omega
theorem nvLow_enc {view : Int} {l : List Sg} (n : Int) (hf : fewNv l = true) (hd : ∀ s ∈ l, ∀ p ∈ s.ch.po, p.dg.length = 32) : NvLow (encNv view l) n := by
 obtain ⟨f1, f2⟩ := fewNv_low hf
 have hL := encNv_len (view := view) hf hd
 unfold NvLow
 have e : nnext 8 (some (encNv view l)) = some (beB l.length 2 ++ encAll encSg l) := by unfold encNv; exact nnext_beB _ 8 _
 have e65 : (256 : Nat) ^ 2 = 65536 := by decide
 obtain ⟨a1, a2⟩ := n_front (v := l.length) (k := 2) (by omega) (encAll encSg l)
 rw [e]
 unfold cval cnext
 rw [a1, a2]
 by_cases h : l.length ≤ n.toNat
 ·rw [if_pos h, if_pos h]
  have hE : (encAll encSg l).length ≤ (encNv view l).length := by unfold encNv; simp only [List.length_append]; omega
  exact rowsLow_enc (by omega) l (fun s hs => ⟨encCh_len (f1 s hs) (hd s hs), Nat.le_trans (encAll_mem s hs) hE⟩)
 ·rw [if_neg h, if_neg h]
  trivial
def ParseNW : Prop := ∀ (xs : List UInt8) (N : Int) (A : Option Addr) (n c : Nat) (w : World), By w (fun _ => True) A n xs → n ≤ c → c ≤ maxLen → n ≤ 10000000 → NvLow xs N → Calls Try.prog 27 #[.slice A n c, .int .i64 N] w (NvOut w (parseNv xs N).1 (parseNv xs N).2)

end Go.Proofs.Ytheecifgbkdecaa

namespace Go.Proofs.Ytheecifgbkdecaa
open Go.RowKit
theorem Sl.one_ {w : World} {k g : Nat} {e : TypeId} {q : List Value} (h : Blk w g e q) : Sl w k (some ⟨g, 0, none⟩) 1 [q] :=
 ⟨rfl, fun _ => ⟨g, 0, rfl, fun i cs hi => by
  cases i with
  | zero =>
   simp at hi
   subst hi
   intro j u hu
   have := h.cellAt hu
   simpa using this
  | succ i => simp at hi⟩⟩

theorem wpList_build_one {P : Program} {ops : Array Oper} {rest : List Oper} {o : Oper} {a : Act} {w : World} {Q : Exit → Act → World → Prop} (hgd : o.guard = none) (s e : TypeId) (x0 : Operand) (ho : o.op = .buildSlice s 1 #[(0, x0)])
  (p0 : Value) (cs : List Value) (h0 : a.eval x0 = p0)
  (hrun : (Instr.buildSlice s 1 #[(0, p0)]).run P w = .ok (.slice (some ⟨w.heap.size, 0, none⟩) 1 1) (w.alloc (.cells cs.toArray e)))
  (h : ∀ g w', g = w.heap.size → Blk w' g e cs → Below w.heap.size w w' → wpList P ops Q rest (a.put o.dst (.slice (some ⟨g, 0, none⟩) 1 1)) w') : wpList P ops Q (o :: rest) a w :=
 wpList_plain hgd fun K hK => by
  unfold Oper.wp execOp
  simp only [ho, Sem.run_bind, List.map_toArray, List.map_cons, List.map_nil, h0, hrun, Result.andThen_ok]
  exact hK _ _ (h _ _ rfl (Blk.fresh rfl rfl) ((Below.refl _ w).alloc (Nat.le_refl _) _))
def po0 : Po := ⟨0, List.replicate 32 0⟩
def pf9 : Pf := ⟨9, 0, []⟩
def c0 : Ch := ⟨1, 0, [po0], [], []⟩
def c1 : Ch := ⟨1, 0, [po0], [pf9], []⟩
theorem Try.build_po0 (w : World) : (Instr.build 52 #[]).run Try.prog w = .ok (.agg (Po.cells po0).toArray) w := by kernel_rfl
theorem Try.bs_po0 (w : World) : (Instr.buildSlice 22 1 #[(0, .agg (Po.cells po0).toArray)]).run Try.prog w = .ok (.slice (some ⟨w.heap.size, 0, none⟩) 1 1) (w.alloc (.cells (Po.cells po0).toArray 52)) := by kernel_rfl
end Go.Proofs.Ytheecifgbkdecaa

namespace Go.Proofs.Ytheecifgbkdecaa
open Go.RowKit
theorem Sl.to_ {w : World} {k n i : Nat} {A : Option Addr} {xs : List (List Value)} (h : Sl w k A n xs) (hi : i ≤ n) : Sl w k A i (xs.take i) :=
 ⟨by rw [List.length_take, h.1]; omega, fun hn => by
  obtain ⟨g, o, e, hcell⟩ := h.2 (by omega)
  refine ⟨g, o, e, fun j cs hj => hcell j cs ?_⟩
  rw [List.getElem?_take] at hj
  split at hj
  ·exact hj
  ·cases hj⟩
theorem run_head {P : Program} (w : World) (t e : TypeId) (g o n c : Nat) (k : Nat) (ht : P.underlying t = some (.slice e)) (hs : ((P.info? e).map (·.size)).isSome = true) (hk : k ≤ c) :
  (Instr.slice t (.slice (some ⟨g, o, none⟩) n c) none (some (.int .i64 (k : Int))) none).run P w = .ok (.slice (some ⟨g, o, none⟩) k c) w := by
 cases hq : P.info? e with
 | none => simp [hq] at hs
 | some info => simp [Instr.slice, Sem.run_bind, run_underlying ht, Instr.sliceBounds, run_sliceBound, sizeOf, typeInfo, hq, hk, Addr.add]

theorem Os.one_ {w : World} {B k g : Nat} {e : TypeId} {q : List Value} (h : Blk w g e q) (hk : q.length = k) (hB : B ≤ g) : Os w B e k (.slice (some ⟨g, 0, none⟩) 1 1) [q] :=
 ⟨⟨by simp [hk], .inr ⟨g, 1, q.toArray, rfl, hB, h, Nat.le_refl _, by simp [maxLen], by simp [hk], by simp [← hk]⟩⟩, fun x hx => by rw [List.mem_singleton.1 hx]; exact hk⟩
def c2v : Ch := ⟨2, 0, [po0], [], []⟩
def fixL (n : Nat) : List Sg := (List.range n).map (fun (i : Nat) => (⟨(i : Int), c2v⟩ : Sg))
theorem fixL_len (n : Nat) : (fixL n).length = n := by simp [fixL]
theorem fixL_succ (n : Nat) : fixL (n + 1) = fixL n ++ [⟨(n : Int), c2v⟩] := by simp [fixL, List.range_succ]
theorem fixL_mem {n : Nat} {s : Sg} (h : s ∈ fixL n) : s.ch = c2v := by
 unfold fixL at h
 obtain ⟨i, _, rfl⟩ := List.mem_map.1 h
 rfl
theorem few_f3 : fewNv (fixL 3) = true := by kernel_rfl
theorem few_f2 : fewNv (fixL 2) = true := by kernel_rfl
theorem chk_f3 : chkNv 2 (fixL 3) 4 = 0 := by kernel_rfl
theorem chk_f2 : chkNv 2 (fixL 2) 4 = 16 := by kernel_rfl
theorem par_f3 : parseNv (encNv 2 (fixL 3)) 4 = ((2, fixL 3), 0) := parse19_back (by simp [In64]) few_f3 (fun s hs => by
 rw [fixL_mem hs]
 exact ⟨by simp [c2v, In64], by simp [c2v, In64], fun p hp => by simp [c2v, po0] at hp; subst hp; simp [In64], fun p hp => by simp [c2v] at hp, fun p hp => by simp [c2v] at hp⟩) (fun s hs p hp => by rw [fixL_mem hs] at hp; simp [c2v, po0] at hp; subst hp; rfl) chk_f3
theorem AllS.take {w : World} : ∀ (n : Nat) {l : List Sg} {ts : List (Pl × Pl × Pl)}, AllS w l ts → AllS w (l.take n) (ts.take n)
 | 0, _, _, _ => by rw [List.take_zero, List.take_zero]; exact trivial
 | _ + 1, [], [], _ => trivial
 | n + 1, _ :: _, _ :: _, h => ⟨h.1, AllS.take n h.2⟩
 | _ + 1, [], _ :: _, h => h.elim
 | _ + 1, _ :: _, [], h => h.elim
theorem SgsIn.two {w : World} {A : Option Addr} (h : SgsIn w A 3 (fixL 3)) : SgsIn w A 2 (fixL 2) := by
 obtain ⟨ts, h1, h2⟩ := h
 have e : fixL 2 = (fixL 3).take 2 := rfl
 refine ⟨ts.take 2, ?_, ?_⟩
 ·have h3 := h1.to_ (i := 2) (by omega)
  have e2 : (sgR (fixL 3) ts).take 2 = sgR (fixL 2) (ts.take 2) := by rw [e]; unfold sgR; rw [List.take_zipWith]
  rw [← e2]
  exact h3
 ·rw [e]; exact h2.take 2
theorem Try.build_c2 (gp : Nat) (w : World) : (Instr.build 25 #[(0, .int .i64 2), (2, .slice (some ⟨gp, 0, none⟩) 1 1)]).run Try.prog w = .ok (.agg (Ch.cells c2v (some ⟨gp, 0, none⟩, 1, 1) (none, 0, 0) (none, 0, 0)).toArray) w := by kernel_rfl

set_option maxHeartbeats 32000000 in
set_option maxRecDepth 100000 in
theorem fixed19_of (h1 : ParseNW) (h2 : BytesNW) (h3 : CheckNW) (h4 : FaultsNW) (h5 : QuorumNW) : FixedN := by
 intro w
 obtain ⟨EB, hEB⟩ : ∃ E, encNv 2 (fixL 3) = E := ⟨_, rfl⟩
 have hle : EB.length ≤ 9000000 := by rw [← hEB]; exact encNv_len few_f3 (fun s hs p hp => by rw [fixL_mem hs] at hp; simp [c2v, po0] at hp; subst hp; rfl)
 have HBy0 : Hid (∀ (A : Option Addr) (c : Nat) (W : World), SgsIn W A 3 (fixL 3) → Calls Try.prog 23 #[.int .i64 2, .slice A 3 c] W (Byt W EB)) := Lib.hid (fun A c W h => hEB ▸ h2 2 (fixL 3) A 3 c W h few_f3)
 have HPp : Hid (∀ (A : Option Addr) (n c : Nat) (W : World), By W (fun _ => True) A n EB → n ≤ c → c ≤ maxLen → Calls Try.prog 27 #[.slice A n c, .int .i64 4] W (NvOut W (2, fixL 3) 0)) := Lib.hid (fun A n c W h7 h8 h9 => by
  have h6 := h1 EB 4 A n c W h7 h8 h9 (by rw [← h7.len]; omega) (hEB ▸ nvLow_enc 4 few_f3 (fun s hs p hp => by rw [fixL_mem hs] at hp; simp [c2v, po0] at hp; subst hp; rfl))
  rw [← hEB, par_f3] at h6
  exact h6)
 have HF7 : Hid (∀ W : World, Calls Try.prog 30 #[.int .i64 7] W fun e w' => e = .returned (.int .i64 2) ∧ Below W.heap.size W w') := Lib.hid (fun W => h4 7 W (by omega))
 have HQ4 : Hid (∀ W : World, Calls Try.prog 32 #[.int .i64 4] W fun e w' => e = .returned (.int .i64 3) ∧ Below W.heap.size W w') := Lib.hid (fun W => h5 4 W (by omega))
 have HCk0 : Hid (∀ (A : Option Addr) (c : Nat) (W : World), 2 ≤ c → c ≤ maxLen → SgsIn W A 2 (fixL 2) → Calls Try.prog 24 #[.int .i64 2, .slice A 2 c, .int .i64 4] W fun e w' => e = .returned (.int .i64 16) ∧ Below W.heap.size W w') := Lib.hid (fun A c W h7 h8 h9 => by
  have h6 := h3 2 (fixL 2) 4 A 2 c W h9 h7 h8 few_f2
  rw [chk_f2] at h6
  exact h6)
 have hbp := Try.build_po0
 have hbq := Try.bs_po0
 have hbc := Try.build_c2
 have HX0 : Hid (Below w.heap.size w w) := Lib.hid (Below.refl _ _)
 clear h1 h2 h3 h4 h5 hEB hle
 go_enter Try.func21, Try.ntmps21
 go_wp2
 go_loopw [1, 6] (fun vv zv wr => ∃ (i : Nat) (A2 : Option Addr) (n2 c2 : Nat), i ≤ 3 ∧ zv = .int .i64 (i : Int) ∧ vv = .slice A2 n2 c2 ∧ OSg wr w.heap.size (.slice A2 n2 c2) (fixL i) ∧ Below w.heap.size w wr) (fun _ zv _ => 3 - (intOf zv).toNat)
 case atStart => exact ⟨0, none, 0, 0, by omega, rfl, rfl, OSg.nil _ _, HX0.out⟩
 case round =>
  obtain ⟨i, A2, n2, c2, hi, rfl, rfl, ho, hx⟩ := hrel
  have HOj := Lib.hid ho
  have HXj := Lib.hid hx
  clear ho hx
  by_cases hlt : i < 3
  ·have dl : decide ((i : Int) < 3) = true := by simp; omega
   go_wp2_with (first
    | (refine wpList_build_to rfl 52 [] rfl [] rfl (.agg (Po.cells po0).toArray) (hbp _) ?_)
    | (refine wpList_build_one rfl 22 52 (.tmp 11) rfl (.agg (Po.cells po0).toArray) (Po.cells po0) rfl (hbq _) ?_; intro gp w1 hgp hbP hb1; have HC1 : Hid (ChOwn w1 w.heap.size (some ⟨gp, 0, none⟩, 1, 1) (none, 0, 0) (none, 0, 0) c2v) := Lib.hid ⟨⟨Os.one_ hbP rfl (by rw [hgp]; exact HXj.out.size), fun p hp => by simp [c2v, po0] at hp; subst hp; rfl⟩, OPf.nil _ _, OPf.nil _ _⟩; obtain ⟨ts, ho1, ha1⟩ := HOj.out; have HS1 := Lib.hid (ho1.through hb1); have HA1 := Lib.hid (ha1.through hb1); have HX1 := Lib.hid (below_step HXj.out hb1); have HZ1 : Hid (w.heap.size ≤ w1.heap.size) := Lib.hid HX1.out.size; clear hgp hbP hb1 ho1 ha1)
    | (refine wpList_build_to rfl 25 _ rfl [(0, .int .i64 2), (2, .slice (some ⟨gp, 0, none⟩) 1 1)] rfl (.agg (Ch.cells c2v (some ⟨gp, 0, none⟩, 1, 1) (none, 0, 0) (none, 0, 0)).toArray) (hbc gp _) ?_)
    | (refine wpList_build_to rfl 106 _ rfl [(0, .int .i64 (i : Int)), (1, .agg (Ch.cells c2v (some ⟨gp, 0, none⟩, 1, 1) (none, 0, 0) (none, 0, 0)).toArray)] rfl (.agg (sgC ⟨(i : Int), c2v⟩ ((some ⟨gp, 0, none⟩, 1, 1), (none, 0, 0), (none, 0, 0))).toArray) (Try.build_sg _ _ _ _ _ _) ?_)
    | (refine wpList_build_el rfl Try.el_sg (.tmp 14) rfl (sgC ⟨(i : Int), c2v⟩ ((some ⟨gp, 0, none⟩, 1, 1), (none, 0, 0), (none, 0, 0))) rfl rfl ?_)
    | (at_builtin; refine wpList_append_el rfl Try.el_sg (.tmp 9) (.tmp 15) rfl w.heap.size (.slice A2 n2 c2) (sgR (fixL i) ts) rfl (HS1.out.alloc (.cells (sgC ⟨(i : Int), c2v⟩ ((some ⟨gp, 0, none⟩, 1, 1), (none, 0, 0), (none, 0, 0))).toArray 106)) w1.heap.size (sgC ⟨(i : Int), c2v⟩ ((some ⟨gp, 0, none⟩, 1, 1), (none, 0, 0), (none, 0, 0))) rfl (Blk.fresh rfl rfl) rfl (sgC_one _ _) (by rw [sgR_len HA1.out.len, fixL_len]; omega) (by have := HZ1.out; simp; omega) ?_; intro v7 w9 ho7 hg7; have HW := Lib.hid (fun b hb => (HS1.out.lt b hb).1); obtain ⟨A7, N7, c7, rfl⟩ : ∃ (A : Option Addr) (N c : Nat), v7 = .slice A N c := (by obtain ⟨A, c, h9, _⟩ := ho7.out; exact ⟨A, _, c, h9⟩); have HE9 := (HC1.out.through (below1_ w1 (.cells (sgC ⟨(i : Int), c2v⟩ ((some ⟨gp, 0, none⟩, 1, 1), (none, 0, 0), (none, 0, 0))).toArray 106))).own (HS1.out.alloc (.cells (sgC ⟨(i : Int), c2v⟩ ((some ⟨gp, 0, none⟩, 1, 1), (none, 0, 0), (none, 0, 0))).toArray 106)) hg7; have HA9 := Lib.hid (AllO.snoc (s := (⟨(i : Int), c2v⟩ : Sg)) (t := ((some ⟨gp, 0, none⟩, 1, 1), (none, 0, 0), (none, 0, 0))) ((HA1.out.through (below1_ w1 (.cells (sgC ⟨(i : Int), c2v⟩ ((some ⟨gp, 0, none⟩, 1, 1), (none, 0, 0), (none, 0, 0))).toArray 106))).own (HS1.out.alloc (.cells (sgC ⟨(i : Int), c2v⟩ ((some ⟨gp, 0, none⟩, 1, 1), (none, 0, 0), (none, 0, 0))).toArray 106)) hg7) HE9); clear HE9; have HO9 : Hid (OSg w9 w.heap.size (.slice A7 N7 c7) (fixL (i + 1))) := Lib.hid ⟨ts ++ [((some ⟨gp, 0, none⟩, 1, 1), (none, 0, 0), (none, 0, 0))], by rw [fixL_succ, sgR_snoc HA1.out.len]; exact ho7, by rw [fixL_succ]; exact HA9.out⟩; have HX9 : Hid (Below w.heap.size w w9) := Lib.hid ((HX1.out.alloc HX1.out.size (.cells (sgC ⟨(i : Int), c2v⟩ ((some ⟨gp, 0, none⟩, 1, 1), (none, 0, 0), (none, 0, 0))).toArray 106)).grown hg7 (HX1.out.alloc HX1.out.size (.cells (sgC ⟨(i : Int), c2v⟩ ((some ⟨gp, 0, none⟩, 1, 1), (none, 0, 0), (none, 0, 0))).toArray 106)).size (fun b hb => by have := HW.out b hb; omega)); clear ho7 hg7))
   go_roundw
   case rel => exact ⟨i + 1, A7, N7, c7, by omega, by go_num, rfl, HO9.out, HX9.out⟩
   case measure => simp [intOf]; omega
  ·obtain rfl : i = 3 := by omega
   obtain ⟨A, c, hv, hnc, hcm, hin⟩ := HOj.out.out
   rw [fixL_len] at hv hnc hin
   obtain ⟨rfl, rfl, rfl⟩ : A2 = A ∧ n2 = 3 ∧ c2 = c := by injection hv with a b d; exact ⟨a, b, d⟩
   obtain ⟨g, o, _, _, _, _, rfl, _⟩ := hin.at (i := 0) (by omega)
   have HI := Lib.hid hin
   have hsl : ∀ W : World, (Instr.slice 42 (.slice (some ⟨g, o, none⟩) 3 c2) none (some (.int .i64 2)) none).run Try.prog W = .ok (.slice (some ⟨g, o, none⟩) 2 c2) W := fun W => run_head W 42 106 g o 3 c2 2 Try.underlying42 (by kernel_rfl) (by omega)
   have HBy : Hid (∀ W : World, SgsIn W (some ⟨g, o, none⟩) 3 (fixL 3) → Calls Try.prog 23 #[.int .i64 2, .slice (some ⟨g, o, none⟩) 3 c2] W (Byt W EB)) := Lib.hid (fun W h => HBy0.out _ _ W h)
   have HCk : Hid (∀ (W : World), SgsIn W (some ⟨g, o, none⟩) 2 (fixL 2) → Calls Try.prog 24 #[.int .i64 2, .slice (some ⟨g, o, none⟩) 2 c2, .int .i64 4] W fun e w' => e = .returned (.int .i64 16) ∧ Below W.heap.size W w') := Lib.hid (fun W h => HCk0.out _ _ W (by omega) hcm h)
   clear hv hnc hcm hin hlt hi hbp hbq hbc
   go_wp2_with (first
    | go_big_skip
    | (go_at_call 23; (with_reducible refine (HBy.out _ HI.out).mono ?_); rintro e v1 ⟨T2, m2, d2, rfl, hy2, hn2, hc2, hb2⟩; have HY2 := Lib.hid hy2; have HN2 := Lib.hid (And.intro hn2 hc2); have HX2 := Lib.hid (below_step HXj.out hb2); have HI2 := Lib.hid (HI.out.through hb2); clear hy2 hn2 hc2 hb2)
    | (go_at_call 27; (with_reducible refine (HPp.out _ _ _ _ HY2.out HN2.out.1 HN2.out.2).mono ?_); rintro e v2 ⟨A5, n5, c5, rfl, hi5, _, _, hb5⟩; obtain rfl : 3 = n5 := hi5.len; have HX5 := Lib.hid (below_step HX2.out hb5); have HI5 := Lib.hid (HI2.out.through hb5); clear hi5 hb5)
    | (go_at_call 30; (with_reducible refine (HF7.out _).mono ?_); rintro e v3 ⟨rfl, hb6⟩; have HX6 := Lib.hid (below_step HX5.out hb6); have HI6 := Lib.hid (HI5.out.through hb6); clear hb6)
    | (go_at_call 32; (with_reducible refine (HQ4.out _).mono ?_); rintro e v4 ⟨rfl, hb7⟩; have HX7 := Lib.hid (below_step HX6.out hb7); have HI7 := Lib.hid (HI6.out.through hb7); clear hb7)
    | (go_at_call 24; (with_reducible refine (HCk.out _ (HI7.out.two)).mono ?_); rintro e v5 ⟨rfl, hb8⟩; have HX8 := Lib.hid (below_step HX7.out hb8); clear hb8))
   go_ret
   exact ⟨rfl, HX8.out⟩

end Go.Proofs.Ytheecifgbkdecaa
