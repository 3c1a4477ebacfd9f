/-
  append(s, make([]byte, m)...): m noughts onto a row of the call's own.
-/
import Derived.Test.YtolildehdibpbaaDoorMacW
import Derived.Laws.AppendOwn
namespace Go.Proofs.YtolildehdibpbaaDoor
open Go.RowKit

theorem zeroCells_u8 (m : Nat) : Builtin.zeroCells #[Value.int .u8 0] m = (vs (List.replicate m 0)).toArray := by
  apply Array.ext'
  simp [Builtin.zeroCells, vs, u8]
  refine List.ext_getElem (by simp) fun i h1 h2 => ?_
  simp [Nat.mod_one]

section
variable {P : Program} (w : World)
theorem run_append_zeros (base : Nat) (t ti ty : TypeId) (i : TypeInfo) (ht : P.underlying t = some (.slice 5)) (hti : P.underlying ti = some (.int .i64)) (hi : P.info? 5 = some i) (hz : i.zero = some (.int .u8 0))
    (hsize : i.size = 1) (hby : i.bytes = 1) (A : Option Addr) (n c : Nat) (xs : List UInt8) (hown : w.ownsRow base 5 1 (.slice A n c) n (vs xs)) (m : Nat) (hm : n + m ≤ 1000000000) (hbase : base ≤ w.heap.size) :
    ∃ A' c' w', (Builtin.append_ #[t, ti] ty #[.slice A n c, .int .i64 (m : Int)]).run P w = .ok (.slice A' (n + m) c') w' ∧ w'.ownsRow base 5 1 (.slice A' (n + m) c') (n + m) (vs (xs ++ List.replicate m 0)) ∧ w.grownBy w' (Value.slice A n c).ownBlock := by
  have hw : IntKind.i64.wrap (m : Int) = m := IntWalk.i64_in _ (by omega)
  have h0 : ¬ ((m : Int) < 0) := by omega
  have h48 : ¬ (281474976710656 < (m : Int)) := by omega
  rcases Nat.eq_zero_or_pos m with rfl | hpos
  · have hnc : n ≤ c := by
      rcases hown.2 with ⟨e, _⟩ | ⟨g, cap, cur, e, _, _, h, _⟩
      · injection e with _ e1 e2; omega
      · injection e with _ _ e2; omega
    refine ⟨A, c, w, ?_, by simpa using hown, World.grownBy.refl w _⟩
    have hw0 : IntKind.i64.wrap 0 = 0 := by decide
    cases A <;> simp [Builtin.append_, run_underlying ht, run_underlying hti, sizeOf, typeInfo, hi, hby, asInt, asIntOf, hw0, hnc, storeCells]
  · have hnews : Builtin.zeroCells (Value.int .u8 0).cells m = (vs (List.replicate m 0)).toArray := zeroCells_u8 m
    have hnl : (vs (List.replicate m 0)).length = m := by rw [vs_length, List.length_replicate]
    have hm0 : m ≠ 0 := by omega
    have hcast : ((m : Int)).toNat = m := by omega
    have hlen : (vs xs ++ vs (List.replicate m 0)).length = (n + m) * 1 := by rw [List.length_append, hown.1, hnl]; omega
    by_cases hroom : n + m ≤ c
    · obtain ⟨g, rfl⟩ : ∃ g, A = some ⟨g, 0, none⟩ := by
        rcases hown.2 with ⟨e, _⟩ | ⟨g, cap, cur, e, _⟩
        · injection e with _ _ e; omega
        · injection e with e; exact ⟨g, e⟩
      rcases hown.2 with ⟨e, _⟩ | ⟨g', cap, cur, e, hbg, hg, hnc, hcm, hcs, htake⟩
      · cases e
      · injection e with e _ ec
        injection e with e
        injection e with e
        subst e; subst ec
        have hst := run_storeCells_at P g n 5 (vs (List.replicate m 0)) 0 cur w hg (by rw [hnl, hcs]; omega) vs_one
        simp only [Nat.add_zero] at hst
        obtain ⟨row, hrow⟩ : ∃ row, row = (List.take n cur.toList ++ vs (List.replicate m 0) ++ List.drop (n + (vs (List.replicate m 0)).length) cur.toList).toArray := ⟨_, rfl⟩
        rw [← hrow] at hst
        have hrs : row.size = c * 1 := by
          rw [hrow]
          simp only [List.size_toArray, List.length_append, List.length_take, List.length_drop, Array.length_toList, hnl]
          omega
        have hrt : row.toList.take ((n + m) * 1) = vs (xs ++ List.replicate m 0) := by
          rw [hrow]
          rw [Nat.mul_one] at htake
          show (List.take n cur.toList ++ vs (List.replicate m 0) ++ List.drop (n + (vs (List.replicate m 0)).length) cur.toList).take ((n + m) * 1) = _
          rw [htake, vs_append, ← vs_append, ← hlen]
          exact List.take_left
        refine ⟨some ⟨g, 0, none⟩, c, w.setRow g row, ?_, ⟨by rw [← vs_append]; exact hlen, .inr ⟨g, c, row, rfl, hbg, setRow_heap w g cur row 5 _ hg, hroom, hcm, hrs, hrt⟩⟩, ⟨rfl, rfl, rfl, by simp, fun k _ hk => setRow_other w g k _ (fun e => hk (by simp [Value.ownBlock, e]))⟩⟩
        simp [Builtin.append_, run_underlying ht, run_underlying hti, sizeOf, typeInfo, zeroValue, hi, hz, hsize, hby, asInt, asIntOf, hw, h0, h48, hm0, hroom, hnews, hst, Addr.add_lit]
    · have hold : (Builtin.firstCells 1 n (.slice A n c)).run P w.drew = .ok (vs xs).toArray w.drew := by
        have hb := By.of_own hown
        rcases A with _ | ad
        · rcases Nat.eq_zero_or_pos n with h | h
          · subst h
            have hx : xs = [] := List.eq_nil_of_length_eq_zero hb.len
            subst hx
            exact run_firstCells_none w.drew 1 0 0 c
          · obtain ⟨_, _, e, _⟩ := hb.2 h
            cases e
        · refine run_firstCells_some w.drew 1 n ad n c (vs xs) (by rw [vs_length, hb.len, Nat.mul_one]) fun j u hu => ?_
          have hjn : j < xs.length := by
            have := (List.getElem?_eq_some_iff.1 hu).1
            rw [vs_length] at this
            exact this
          obtain ⟨g, o, e, _, hc⟩ := hb.2 (by have := hb.len; omega)
          injection e with e
          subst e
          rw [vs_get] at hu
          obtain ⟨x, hx, rfl⟩ := Option.map_eq_some_iff.1 hu
          have ea : (⟨g, o, none⟩ : Addr).add j = ⟨g, o + j, none⟩ := by unfold Addr.add; split <;> simp_all
          rw [ea]
          exact hc j x hx
      have hge := grownCap_ge w (n + m) c 5
      have hcm : grownCap w (n + m) c 5 ≤ maxLen := grownCap_le_maxLen w (n + m) c 5 (by simp only [maxLen]; omega)
      have hfit := growslice_fits (need := n + m) (old := c) (bytes := 1) (by omega) (by omega)
      have hfit' : ¬ (281474976710656 < Builtin.nextslicecap (n + m) c) := by omega
      have h63 : ¬ (9223372036854775807 < ((n : Int) + (m : Int))) := by omega
      obtain ⟨row, hrow⟩ : ∃ row, row = (vs xs).toArray ++ (vs (List.replicate m 0)).toArray ++ Builtin.zeroCells (Value.int .u8 0).cells (grownCap w (n + m) c 5 - (n + m)) := ⟨_, rfl⟩
      have hrs : row.size = grownCap w (n + m) c 5 * 1 := by
        rw [hrow]
        simp only [Array.size_append, List.size_toArray, size_zeroCells, hnl, hown.1]
        rw [show (Value.int .u8 0).cells.size = 1 from rfl]
        omega
      have hrt : row.toList.take ((n + m) * 1) = vs (xs ++ List.replicate m 0) := by
        rw [hrow]
        simp only [Array.toList_append]
        rw [← hlen, vs_append]
        exact List.take_left
      refine ⟨some ⟨w.heap.size, 0, none⟩, grownCap w (n + m) c 5, w.drew.alloc (.cells row 5), ?_, ⟨by rw [← vs_append]; exact hlen, .inr ⟨w.heap.size, _, row, rfl, hbase, heap_alloc_new w.drew _, hge, hcm, hrs, hrt⟩⟩, ⟨rfl, rfl, rfl, by simp, fun k hk _ => Below.heap_alloc w.drew _ k hk⟩⟩
      simp [Builtin.append_, run_underlying ht, run_underlying hti, sizeOf, typeInfo, zeroValue, hi, hz, hsize, hby, asInt, asIntOf, hw, h0, h48, hm0, hroom, hnews, hold, hfit', h63, Question.forced, newRow, hrow, grownCap]
      congr 2
      apply Array.ext'
      simp [List.append_assoc]
end

end Go.Proofs.YtolildehdibpbaaDoor
