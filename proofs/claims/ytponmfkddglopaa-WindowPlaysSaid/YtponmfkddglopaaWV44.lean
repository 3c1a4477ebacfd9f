/-
  Joined: WlP.
-/
import Derived.Test.YtponmfkddglopaaWV38
import Derived.Test.YtponmfkddglopaaWV43
namespace Go.Proofs.Ytponmfkddglopaa
open Go.RowKit

theorem insW_has {q : Int} {s : Slt} : ∀ {l : Lw}, RisW l → q ∈ seqW l → insW q s l = l
 | [], _, h => nomatch h
 | x :: l, hr, h => by
  have h1 := (List.pairwise_cons.1 hr).1
  have h2 := (List.pairwise_cons.1 hr).2
  unfold insW
  by_cases hx : x.1 < q
  ·rw [if_pos hx]
   rcases List.mem_cons.1 h with h9 | h9
   ·omega
   ·rw [insW_has h2 h9]
  ·rw [if_neg hx]
   by_cases he : x.1 = q
   ·rw [if_pos he]
   ·exfalso
    rcases List.mem_cons.1 h with h9 | h9
    ·exact he h9.symm
    ·obtain ⟨y, hy, e⟩ := List.mem_map.1 h9
     have := h1 y hy
     omega
theorem insW_perm {q : Int} {s : Slt} : ∀ {l : Lw}, q ∉ seqW l → (insW q s l).Perm ((q, s) :: l)
 | [], _ => List.Perm.refl _
 | x :: l, h => by
  have h1 : q ≠ x.1 := fun e => h (by rw [e]; exact List.mem_cons_self ..)
  have h2 : q ∉ seqW l := fun e => h (List.mem_cons_of_mem _ e)
  unfold insW
  by_cases hx : x.1 < q
  ·rw [if_pos hx]
   exact ((insW_perm h2).cons x).trans (List.Perm.swap ..)
  ·rw [if_neg hx, if_neg (fun e => h1 e.symm)]
theorem dropW_filter {q : Int} : ∀ {l : Lw}, RisW l → dropW q l = l.filter fun x => decide (q < x.1)
 | [], _ => rfl
 | x :: l, hr => by
  have h1 := (List.pairwise_cons.1 hr).1
  have h2 := (List.pairwise_cons.1 hr).2
  unfold dropW
  rw [List.filter_cons]
  by_cases hx : x.1 ≤ q
  ·rw [if_pos hx, dropW_filter h2, decide_eq_false (by omega)]
   rfl
  ·rw [if_neg hx, decide_eq_true (by omega), if_pos rfl, List.filter_eq_self.2 (fun y hy => by have := h1 y hy; simp; omega)]
theorem mem_ris {q : Int} {a b : Slt} : ∀ {l : Lw}, RisW l → (q, a) ∈ l → (q, b) ∈ l → a = b
 | x :: l, hr, h, h' => by
  have h1 := (List.pairwise_cons.1 hr).1
  have h2 := (List.pairwise_cons.1 hr).2
  rcases List.mem_cons.1 h with e | h9
  ·rcases List.mem_cons.1 h' with e' | h9'
   ·exact congrArg Prod.snd (e.trans e'.symm)
   ·have h3 := h1 _ h9'
    rw [← e] at h3
    exact absurd h3 (Int.lt_irrefl _)
  ·rcases List.mem_cons.1 h' with e' | h9'
   ·have h3 := h1 _ h9
    rw [← e'] at h3
    exact absurd h3 (Int.lt_irrefl _)
   ·exact mem_ris h2 h9 h9'
theorem setW_perm {q : Int} {s : Slt} {l l' : Lw} (h : l.Perm l') : (setW q s l).Perm (setW q s l') := h.map _
theorem setW_off {q : Int} {s : Slt} {l : Lw} (h : q ∉ seqW l) : setW q s l = l := by
 unfold setW
 conv => rhs; rw [← List.map_id l]
 refine List.map_congr_left fun x hx => ?_
 rw [if_neg (fun e => h (by rw [← e]; exact List.mem_map.2 ⟨x, hx, rfl⟩))]
 rfl
theorem pair_seq (f : List Fr) : seqW (pairW f) = f.map Fr.q := by
 unfold seqW pairW
 rw [List.map_map]
 rfl
theorem pair_put {q : Int} {v : Value} {D D' : Nat → Prop} {s s' : Slt} {a b : List Fr} (h : ((a ++ ⟨q, v, D, s⟩ :: b).map Fr.q).Nodup) : pairW (a ++ ⟨q, v, D', s'⟩ :: b) = setW q s' (pairW (a ++ ⟨q, v, D, s⟩ :: b)) := by
 rw [List.map_append, List.map_cons] at h
 obtain ⟨_, h2, h3⟩ := List.nodup_append.1 h
 have ha : q ∉ seqW (pairW a) := by rw [pair_seq]; exact fun h9 => h3 q h9 q (List.mem_cons_self ..) rfl
 have hb : q ∉ seqW (pairW b) := by rw [pair_seq]; exact (List.nodup_cons.1 h2).1
 have e1 : ∀ x : Fr, pairW (a ++ x :: b) = pairW a ++ (x.q, x.s) :: pairW b := fun x => by
  unfold pairW
  rw [List.map_append, List.map_cons]
 have e2 : ∀ l l' : Lw, setW q s' (l ++ l') = setW q s' l ++ setW q s' l' := fun l l' => List.map_append ..
 rw [e1, e1, e2, setW_off ha]
 show _ = _ ++ (if q = q then (q, s') else (q, s)) :: setW q s' (pairW b)
 rw [if_pos rfl, setW_off hb]
theorem nodup_putF {q : Int} {v : Value} {D D' : Nat → Prop} {s s' : Slt} {a b : List Fr} (h : ((a ++ ⟨q, v, D, s⟩ :: b).map Fr.q).Nodup) : ((a ++ ⟨q, v, D', s'⟩ :: b).map Fr.q).Nodup := by
 rw [List.map_append, List.map_cons] at h ⊢
 exact h
theorem ent_put {q : Int} {v : Value} {D D' : Nat → Prop} {s s' : Slt} (a b : List Fr) : entF (a ++ ⟨q, v, D', s'⟩ :: b) = entF (a ++ ⟨q, v, D, s⟩ :: b) := by
 unfold entF
 rw [List.map_append, List.map_append, List.map_cons, List.map_cons]
theorem ris_nodup {l : Lw} (h : RisW l) : (seqW l).Nodup := by
 unfold seqW
 rw [List.nodup_iff_pairwise_ne, List.pairwise_map]
 exact h.imp (fun h9 => by omega)
theorem srt_sorted {l : List Int} (h : l.Pairwise (fun a b => a < b)) : srt l = l := by
 unfold srt
 exact List.mergeSort_of_pairwise (h.imp (fun h9 => by simp; omega))
theorem srt_seq {f : List Fr} {l : Lw} (h : RisW l) (hp : (pairW f).Perm l) : srt (f.map Fr.q) = seqW l := by
 have h1 : (f.map Fr.q).Perm (seqW l) := by
  rw [← pair_seq]
  exact hp.map _
 rw [srt_perm h1]
 refine srt_sorted ?_
 unfold seqW
 rw [List.pairwise_map]
 exact h
theorem pair_filter (q : Int) (f : List Fr) : pairW (f.filter fun x => decide (q < x.q)) = (pairW f).filter fun x => decide (q < x.1) := by
 unfold pairW
 rw [List.filter_map]
 rfl
theorem pair_len (f : List Fr) : (pairW f).length = f.length := List.length_map ..
/-- what is known of a log's slots after k acts -/
structure WkOk (n low : Int) (l : Lw) (k : Nat) : Prop where
 ris : RisW l
 bd : ∀ x ∈ l, low < x.1 ∧ x.1 ≤ low + 8
 sl : ∀ x ∈ l, x.2.n = n ∧ x.2.pr.length ≤ k ∧ x.2.cm.length = 0 ∧ x.2.es.length = 0
section
variable {n low : Int} {l : Lw} {k : Nat}
theorem WkOk.nil (n low : Int) (k : Nat) : WkOk n low [] k := ⟨List.Pairwise.nil, (fun _ h => nomatch h), (fun _ h => nomatch h)⟩
theorem WkOk.len (h : WkOk n low l k) : l.length ≤ 8 := ris_few (low := low) 8 (low + 8) h.ris (fun x hx => by have := h.bd x hx; omega)
theorem WkOk.ins {q : Int} (h : WkOk n low l k) (hin : inB low q = true) : WkOk n low (insW q (Slt.no n) l) k := by
 unfold inB at hin
 simp only [Bool.and_eq_true, decide_eq_true_iff] at hin
 refine ⟨insW_ris h.ris, fun x hx => ?_, fun x hx => ?_⟩
 ·rcases insW_mem hx with rfl | hx
  ·exact ⟨hin.1.1, hin.1.2⟩
  ·exact h.bd x hx
 ·rcases insW_mem hx with rfl | hx
  ·exact ⟨rfl, Nat.zero_le _, rfl, rfl⟩
  ·exact h.sl x hx
theorem voteW_len (n : Int) (l : Wl) (who : Int) (d : List UInt8) : (voteW n l who d).length ≤ l.length + 1 := by
 unfold voteW
 split <;> simp
theorem WkOk.mono {k' : Nat} (h : WkOk n low l k) (hk : k ≤ k') : WkOk n low l k' := ⟨h.ris, h.bd, fun x hx => by obtain ⟨a, b, c, d⟩ := h.sl x hx; exact ⟨a, Nat.le_trans b hk, c, d⟩⟩
theorem WkOk.set {q : Int} {s : Slt} (h : WkOk n low l k) (hs : (q, s) ∈ l) (who : Int) (d : List UInt8) : WkOk n low (setW q (prepS s who d).1 l) (k + 1) := by
 refine ⟨setW_ris h.ris, fun x hx => ?_, fun x hx => ?_⟩
 ·obtain ⟨y, hy, rfl⟩ := List.mem_map.1 hx
  split
  ·exact h.bd (q, s) hs
  ·exact h.bd y hy
 ·obtain ⟨y, hy, rfl⟩ := List.mem_map.1 hx
  split
  ·obtain ⟨a, b, c, e⟩ := h.sl _ hs
   exact ⟨a, Nat.le_trans (voteW_len ..) (Nat.succ_le_succ b), c, e⟩
  ·obtain ⟨a, b, c, e⟩ := h.sl y hy
   exact ⟨a, Nat.le_succ_of_le b, c, e⟩
theorem WkOk.drop {q : Int} (h : WkOk n low l k) (hq : low ≤ q) : WkOk n q (dropW q l) k := by
 have hs := dropW_sub q l
 refine ⟨dropW_ris h.ris, fun x hx => ⟨?_, ?_⟩, fun x hx => h.sl x (hs.subset hx)⟩
 ·rw [dropW_filter h.ris] at hx
  simpa using (List.mem_filter.1 hx).2
 ·have := (h.bd x (hs.subset hx)).2
  omega
theorem WkOk.slow {q : Int} {s : Slt} (h : WkOk n low l k) (hs : (q, s) ∈ l) (h1 : 1 ≤ n) (h7 : n ≤ 7) (hk : k ≤ 1000) : SlLow s := by
 obtain ⟨a, b, c, e⟩ := h.sl _ hs
 exact ⟨by rw [a]; exact h1, by rw [a]; exact h7, Nat.le_trans b hk, by rw [c]; exact Nat.zero_le _, by rw [e]; exact Nat.zero_le _⟩
end

end Go.Proofs.Ytponmfkddglopaa
