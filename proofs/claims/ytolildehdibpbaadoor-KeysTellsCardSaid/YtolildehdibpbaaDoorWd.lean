/-
  WORDS OF 32 BITS IN MEMORY: a slice that reads as words; a row that the call made. No walk here.
-/
import Derived.Test.YtolildehdibpbaaDoorRowW
namespace Go.Proofs.YtolildehdibpbaaDoor
open Go.RowKit

def cw (ws : List UInt32) : List Value := ws.map c32
theorem cw_length (ws : List UInt32) : (cw ws).length = ws.length := by simp [cw]
theorem cw_get (ws : List UInt32) (j : Nat) : (cw ws)[j]? = (ws[j]?).map c32 := by simp [cw]
theorem cw_append (a b : List UInt32) : cw a ++ cw b = cw (a ++ b) := by simp [cw]
theorem cw_one {ws : List UInt32} : ∀ u ∈ cw ws, u.oneCell' = true := by
  intro u hu
  obtain ⟨x, _, rfl⟩ := List.mem_map.1 hu
  rfl

/-- The slice '.slice A n _' reads, in w, as the words ws, in memory of which Q is said. -/
def Wd (w : World) (Q : Nat → Prop) (A : Option Addr) (n : Nat) (ws : List UInt32) : Prop :=
  ws.length = n ∧ (0 < n → ∃ g o, A = some ⟨g, o, none⟩ ∧ Q g ∧ ∀ (j : Nat) (u : UInt32), ws[j]? = some u → w.cell? ⟨g, o + j, none⟩ = some (c32 u))
section
variable {w w' : World} {Q Q' : Nat → Prop} {A : Option Addr} {n : Nat} {ws : List UInt32}
theorem Wd.keep (h : Wd w Q A n ws) (hk : ∀ g, Q g → w'.heap[g]? = w.heap[g]?) : Wd w' Q A n ws :=
  ⟨h.1, fun hn => by
    obtain ⟨g, o, e, hb, hc⟩ := h.2 hn
    exact ⟨g, o, e, hb, fun j u hu => (World.cell?_of_block (a := ⟨g, o + j, none⟩) (hk g hb)).trans (hc j u hu)⟩⟩
theorem Wd.weak (h : Wd w Q A n ws) (hk : ∀ g, Q g → Q' g) : Wd w Q' A n ws :=
  ⟨h.1, fun hn => by
    obtain ⟨g, o, e, hb, hc⟩ := h.2 hn
    exact ⟨g, o, e, hk g hb, hc⟩⟩
theorem Wd.len (h : Wd w Q A n ws) : ws.length = n := h.1
theorem Wd.lt (h : Wd w Q A n ws) : Wd w (fun g => Q g ∧ g < w.heap.size) A n ws :=
  ⟨h.1, fun hn => by
    obtain ⟨g, o, e, hb, hc⟩ := h.2 hn
    have hl : 0 < ws.length := by have := h.1; omega
    have h0 := hc 0 ws[0] (List.getElem?_eq_getElem hl)
    exact ⟨g, o, e, ⟨hb, World.block_lt_of_cell? w ⟨g, o + 0, none⟩ h0⟩, hc⟩⟩
theorem Wd.take (h : Wd w Q A n ws) {k : Nat} (hk : k ≤ n) : Wd w Q A k (ws.take k) :=
  ⟨by rw [List.length_take, h.1]; omega, fun hn => by
    obtain ⟨g, o, e, hb, hc⟩ := h.2 (by omega)
    refine ⟨g, o, e, hb, fun j u hu => hc j u ?_⟩
    rw [List.getElem?_take] at hu
    split at hu
    · exact hu
    · cases hu⟩
theorem Wd.through (h : Wd w Q A n ws) (hb : Below w.heap.size w w') : Wd w' Q A n ws :=
  (h.lt.keep fun g hg => hb.block g hg.2).weak fun _ hg => hg.1
theorem Wd.cell (h : Wd w Q A n ws) (hn : 0 < n) : ∃ g o, A = some ⟨g, o, none⟩ ∧ Q g ∧ ∀ j, j < n → w.cell? ⟨g, o + j, none⟩ = some (.int .u32 (n32 (ws.getD j 0))) := by
  obtain ⟨g, o, e, hq, hc⟩ := h.2 hn
  refine ⟨g, o, e, hq, fun j hj => ?_⟩
  have hl : j < ws.length := by have := h.1; omega
  rw [hc j ws[j] (List.getElem?_eq_getElem hl)]
  simp [c32, List.getD, hl]
theorem Wd.of_own {base c : Nat} (h : w.ownsRow base 46 1 (.slice A n c) n (cw ws)) : Wd w (fun g => base ≤ g ∧ g < w.heap.size) A n ws := by
  have hl : ws.length = n := by have := h.1; simpa [cw] using this
  refine ⟨hl, fun hn => ?_⟩
  have h0 := h
  rcases h.2 with ⟨_, h'⟩ | ⟨g, cap, cur, hv, hbg, hg, _⟩
  · omega
  · injection hv with hA _ hc
    subst hA; subst hc
    refine ⟨g, 0, rfl, ⟨hbg, (Array.getElem?_eq_some_iff.1 hg).1⟩, fun j u hu => ?_⟩
    have hj : j < n := by rw [← hl]; exact (List.getElem?_eq_some_iff.1 hu).1
    rw [Nat.zero_add, h0.cellAt j (by omega), cw_get, hu]
    rfl
theorem own32_form {base : Nat} {v : Value} {ys : List Value} (h : w.ownsRow base 46 1 v n ys) : ∃ A c, v = .slice A n c ∧ n ≤ c ∧ c ≤ maxLen := by
  rcases h.2 with ⟨rfl, rfl⟩ | ⟨g, cap, cur, rfl, hbg, hg, hn, hm, _⟩
  · exact ⟨none, 0, rfl, Nat.le_refl _, by simp [maxLen]⟩
  · exact ⟨some ⟨g, 0, none⟩, cap, rfl, hn, hm⟩
/-- A row that the call made stands, where its block does. -/
theorem own_keep {base : Nat} {v : Value} {ys : List Value} {e : TypeId} {row : Option Nat} (h : w.ownsRow base e 1 v n ys) (hg : w.grownBy w' row) (hne : ∀ g, v.ownBlock = some g → row ≠ some g) : w'.ownsRow base e 1 v n ys := by
  refine ⟨h.1, ?_⟩
  rcases h.2 with h2 | ⟨g, cap, cur, hv, hbg, hgc, r⟩
  · exact .inl h2
  · refine .inr ⟨g, cap, cur, hv, hbg, (hg.block g (Array.getElem?_eq_some_iff.1 hgc).1 (fun e => ?_)).trans hgc, r⟩
    subst hv
    exact hne g rfl e.symm
theorem own_keepB {base : Nat} {v : Value} {ys : List Value} {e : TypeId} (h : w.ownsRow base e 1 v n ys) (hb : Below w.heap.size w w') : w'.ownsRow base e 1 v n ys := by
  refine ⟨h.1, ?_⟩
  rcases h.2 with h2 | ⟨g, cap, cur, hv, hbg, hgc, r⟩
  · exact .inl h2
  · exact .inr ⟨g, cap, cur, hv, hbg, (hb.block g (Array.getElem?_eq_some_iff.1 hgc).1).trans hgc, r⟩
end

theorem Tryd.info_u32 : (Tryd.prog.info? 46).map (fun i => (i.zero, i.size, i.bytes)) = some (some (.int .u32 0), 1, 4) := by kernel_rfl

theorem Blk.new_cell (w : World) (t : TypeId) (u : UInt32) : (w.alloc (.cells #[.int .u32 (n32 u)] t)).cell? ⟨w.heap.size, 0, none⟩ = some (c32 u) := by
  rw [cell_of_row _ w.heap.size _ _ _ _ (heap_alloc_new w _)]
  rfl
/-- 'append(s, x)' of one word, as the walk takes it. -/
theorem wpList_append_w {P : Program} {w : World} {ops : Array Oper} {rest : List Oper} {o : Oper} {a : Act} {Q : Exit → Act → World → Prop} (hgd : o.guard = none) (s x : Operand) (t : TypeId)
    (ho : o.op = .call { callee := .builtin .append, args := #[s, x], argTypes := #[t, t] })
    (base : Nat) (i : TypeInfo) (ht : P.underlying t = some (.slice 46)) (hi : P.info? 46 = some i) (hz : i.zero = some (.int .u32 0)) (hsize : i.size = 1) (hby : i.bytes = 4)
    (v : Value) (n : Nat) (ws : List UInt32) (hs : a.eval s = v) (hown : w.ownsRow base 46 1 v n (cw ws))
    (g : Nat) (c : Nat) (u : UInt32) (hx : a.eval x = .slice (some ⟨g, 0, none⟩) 1 c) (hc : w.cell? ⟨g, 0, none⟩ = some (c32 u)) (hn : n ≤ 1000000) (hbase : base ≤ w.heap.size)
    (h : ∀ g' cap w', w'.ownsRow base 46 1 (.slice (some ⟨g', 0, none⟩) (n + 1) cap) (n + 1) (cw (ws ++ [u])) → w.grownBy w' v.ownBlock → (v.ownBlock = some g' ∨ g' = w.heap.size) → n + 1 ≤ cap → cap ≤ maxLen → wpList P ops Q rest (a.put o.dst (.slice (some ⟨g', 0, none⟩) (n + 1) cap)) w') : wpList P ops Q (o :: rest) a w :=
  wpList_append_lies w hgd s x t ho base 46 i (.int .u32 0) 1 4 ht hi hz hsize hby rfl (by decide) v n (cw ws) hs hown ⟨g, 0, none⟩ 1 c [c32 u] hx rfl
    (fun j y hy => by
      match j, hy with
      | 0, hy =>
        simp at hy
        subst hy
        simpa [Addr.add] using hc)
    (fun y hy => by simp at hy; subst hy; rfl) (by omega) (by unfold maxLen; omega) (by omega) hbase _ rfl (fun g' cap w' h1 h2 h3 _ => by
      obtain ⟨A, c', e, h4, h5⟩ := own32_form h1
      injection e with _ _ e
      subst e
      exact h g' cap w' (by rw [← cw_append]; exact h1) h2 h3 h4 h5)

end Go.Proofs.YtolildehdibpbaaDoor
