/-
  The document's find: where a tag stands.
-/
import Derived.Test.YtnncfhkgcaoomaaRBookW
import Derived.Deep.MidRow
import Derived.RegionTactic
import Derived.ChangeAlike
import Derived.StillTailTactics
import Derived.Deep.QuietTactic
import Derived.Outline
namespace Go.Proofs.Ytnncfhkgcaoomaa
open Go.RowKit

/-- where it stands, or -1 -/
def place (x : TK) (ts : List TK) : Int := if x ∈ ts then ((ord x ts : Nat) : Int) - 1 else -1
theorem ord_first {α : Type} [DecidableEq α] {xs : List α} {x : α} {i : Nat} (h : xs[i]? = some x) (hn : ∀ j, j < i → xs[j]? ≠ some x) : ord x xs = i + 1 := by
  unfold ord
  rw [idx_first h hn]
theorem run_index_said (W : World) (g n c j : Nat) (hj : j < n) : (Instr.indexAt 28 (.slice (some ⟨g, 0, none⟩) n c) (.int .i64 (j : Int))).run Try.prog W = .ok (.pointer (some ⟨g, j * 3, none⟩)) W := by
  have hs : (sizeOf 63).run Try.prog W = .ok 3 W := by kernel_rfl
  have he : Try.prog.elem 28 = 63 := by kernel_rfl
  rw [run_indexAt_slice (P := Try.prog) W 28 ⟨g, 0, none⟩ n c .i64 j (by rw [he]; exact Try.underlying28), if_pos ⟨by omega, by omega⟩, he, hs]
  simp only [Result.andThen_ok, Int.toNat_natCast]
  have ea : (⟨g, 0, none⟩ : Addr).add (j * 3) = ⟨g, j * 3, none⟩ := by unfold Addr.add; split <;> simp_all
  rw [ea]
theorem range_block {w w' : World} {b o : Nat} {cs : List Value} (h : w.rangeAt b o cs) (e : w'.heap[b]? = w.heap[b]?) : w'.rangeAt b o cs := fun j v hv => (World.cell?_of_block (a := ⟨b, o + j, none⟩) e).trans (h j v hv)

set_option maxHeartbeats 4000000 in
set_option maxRecDepth 100000 in
theorem rfind_any (g : Nat) (ds : List DK) (ts : List TK) (x : TK) (hl : ts.length < 1000000000) (w : World) (h : RB w g ds ts) :
    Calls Try.prog 22 #[.pointer (some ⟨g, 0, none⟩), .agg (saidC x).toArray] w fun e w' => e = .returned (.int .i64 (place x ts)) ∧ Below w.heap.size w w' := by
  obtain ⟨v1, v2, hb, _, ho2⟩ := h
  obtain ⟨A2, c2, rfl, hnc, hcm, _⟩ := own_formS ho2
  obtain ⟨kx, hkx⟩ : ∃ kx, kx = saidC x := ⟨_, rfl⟩
  have hkl : kx.length = 3 := by rw [hkx]; rfl
  have hx0 : Below w.heap.size w (w.alloc (.cells kx.toArray 63)) := (Below.refl _ w).alloc (Nat.le_refl _) _
  have c1 : (w.alloc (.cells kx.toArray 63)).cell? ⟨g, 1, none⟩ = some (.slice A2 ts.length c2) := (hb.through hx0).cellAt rfl
  have HB3 : Hid (Blk (w.alloc (.cells kx.toArray 63)) w.heap.size 63 kx) := Lib.hid (Blk.fresh rfl rfl)
  have HO := Lib.hid ho2
  have HKl := Lib.hid hkl
  have HX0 := Lib.hid hx0
  obtain ⟨n, hn⟩ : ∃ n, n = ts.length := ⟨_, rfl⟩
  rw [← hn] at c1
  have HO2 : Hid (w.ownsRow (g + 1) 63 3 (.slice A2 n c2) n (saids ts)) := Lib.hid (by rw [hn]; exact HO.out)
  have hnb : n < 1000000000 := by omega
  have HN := Lib.hid hn
  have HKx := Lib.hid hkx
  rw [← hkx]
  clear HO hb ho2 hkl hx0 hn hkx
  go_enter Try.func22, Try.ntmps22
  go_wp2
  obtain ⟨b3, hb3⟩ : ∃ b3, b3 = w.heap.size := ⟨_, rfl⟩
  rw [← hb3] at HB3
  rw [← hb3]
  clear hb3
  go_loopw [12] (fun iv wr => ∃ i : Nat, i ≤ n ∧ iv = .int .i64 i ∧ (∀ j, j < i → ts[j]? ≠ some x) ∧ Blk wr b3 63 kx ∧ Below w.heap.size w wr) (fun iv _ => n - (intOf iv).toNat)
  case atStart => exact ⟨0, Nat.zero_le _, rfl, fun j hj => absurd hj (by omega), HB3.out, HX0.out⟩
  case round =>
    obtain ⟨i, hin, rfl, hno, hbk, hx⟩ := hrel
    have HNo := Lib.hid hno
    have HBk := Lib.hid hbk
    have HX := Lib.hid hx
    clear hno hbk hx HB3 HX0
    by_cases hlt : i < n
    · obtain ⟨z, hz⟩ : ∃ z, ts[i]? = some z := ⟨_, List.getElem?_eq_getElem (by have := HN.out; omega)⟩
      obtain ⟨g2, rfl, hrg⟩ := own_range3 HO2.out i z hz
      have hgl : g2 < w.heap.size := World.block_lt_of_cell? w ⟨g2, i * 3 + 0, none⟩ (hrg 0 _ rfl)
      have hrg2 := range_block hrg (HX.out.block g2 hgl)
      have hix := fun W => run_index_said W g2 n c2 i hlt
      have hse : ∀ W, (binOp .eql 63 (.agg (saidC z).toArray) (.agg kx.toArray)).run Try.prog W = .ok (.bool (decide (z = x))) W := fun W => by rw [HKx.out]; exact said_eql z x W
      obtain ⟨kz, hkz⟩ : ∃ kz, kz = saidC z := ⟨_, rfl⟩
      have hzl : kz.length = 3 := by rw [hkz]; rfl
      have hzo : kz.toArray.all (·.oneCell') = true := by rw [hkz]; exact saidC_one z
      rw [← hkz] at hrg2 hse
      have HRg := Lib.hid hrg2
      have HZl := Lib.hid hzl
      have HZo := Lib.hid hzo
      clear hrg hrg2 hkz hzl hzo
      by_cases hzx : z = x
      · have hfd : ord x ts = i + 1 := ord_first (hzx ▸ hz) HNo.out
        have hpl : place x ts = (i : Int) := by unfold place; rw [if_pos (List.mem_of_getElem? (hzx ▸ hz)), hfd]; omega
        have HPl := Lib.hid hpl
        have hse2 : ∀ W, (binOp .eql 63 (.agg kz.toArray) (.agg kx.toArray)).run Try.prog W = .ok (.bool true) W := fun W => by rw [hse W, decide_eq_true hzx]
        clear hse hz hzx hfd hpl
        go_wp2_with (first
          | (refine wpList_load_mid rfl 63 (.tmp 15) rfl g2 (i * 3) rfl kz _ HRg.out Try.underlying63 rfl (by rw [HZl.out]; kernel_rfl) ?_)
          | (refine wpList_store_blk rfl 63 (.tmp 6) (.tmp 16) rfl wr.heap.size kz rfl rfl 63 [.int .i64 0, .int .i64 0, .string ⟨#[]⟩] (Blk.fresh rfl (by kernel_rfl)) (by rw [HZl.out]; kernel_rfl) (by rw [HZl.out]; rfl) HZo.out ?_; intro w1 hb1 ho1; have hx1 := below_new ho1; have HZ1 := Lib.hid hb1; have HB1 := Lib.hid (HBk.out.through hx1); have HX1 := Lib.hid (HX.out.trans (hx1.mono HX.out.size)); clear hb1 ho1 hx1)
          | (refine wpList_load_blk rfl 63 (.tmp 6) rfl wr.heap.size rfl 63 kz _ HZ1.out Try.underlying63 rfl (by rw [HZl.out]; kernel_rfl) ?_)
          | (refine wpList_load_blk rfl 63 (.tmp 3) rfl b3 rfl 63 kx _ HB1.out Try.underlying63 rfl (by rw [HKl.out]; kernel_rfl) ?_))
        go_ret
        exact ⟨by rw [HPl.out]; rfl, HX1.out⟩
      · have hse2 : ∀ W, (binOp .eql 63 (.agg kz.toArray) (.agg kx.toArray)).run Try.prog W = .ok (.bool false) W := fun W => by rw [hse W, decide_eq_false hzx]
        have hno2 : ∀ j, j < i + 1 → ts[j]? ≠ some x := fun j hj => by
          rcases Nat.lt_or_ge j i with h1 | h1
          · exact HNo.out j h1
          · obtain rfl : j = i := by omega
            rw [hz]
            exact fun e => hzx (Option.some.inj e)
        have HNo2 := Lib.hid hno2
        clear hse hz hzx hno2
        go_wp2_with (first
          | (refine wpList_load_mid rfl 63 (.tmp 15) rfl g2 (i * 3) rfl kz _ HRg.out Try.underlying63 rfl (by rw [HZl.out]; kernel_rfl) ?_)
          | (refine wpList_store_blk rfl 63 (.tmp 6) (.tmp 16) rfl wr.heap.size kz rfl rfl 63 [.int .i64 0, .int .i64 0, .string ⟨#[]⟩] (Blk.fresh rfl (by kernel_rfl)) (by rw [HZl.out]; kernel_rfl) (by rw [HZl.out]; rfl) HZo.out ?_; intro w1 hb1 ho1; have hx1 := below_new ho1; have HZ1 := Lib.hid hb1; have HB1 := Lib.hid (HBk.out.through hx1); have HX1 := Lib.hid (HX.out.trans (hx1.mono HX.out.size)); clear hb1 ho1 hx1)
          | (refine wpList_load_blk rfl 63 (.tmp 6) rfl wr.heap.size rfl 63 kz _ HZ1.out Try.underlying63 rfl (by rw [HZl.out]; kernel_rfl) ?_)
          | (refine wpList_load_blk rfl 63 (.tmp 3) rfl b3 rfl 63 kx _ HB1.out Try.underlying63 rfl (by rw [HKl.out]; kernel_rfl) ?_))
        go_roundw
        case rel => exact ⟨i + 1, by omega, by go_num, HNo2.out, HB1.out, HX1.out⟩
        case measure => simp [intOf]; omega
    · obtain rfl : i = n := by omega
      have hpl : place x ts = -1 := by
        unfold place
        rw [if_neg (not_mem_all (by rw [← HN.out]; exact HNo.out))]
      have HPl := Lib.hid hpl
      clear hpl
      go_wp2
      go_ret
      exact ⟨by rw [HPl.out]; rfl, HX.out⟩

end Go.Proofs.Ytnncfhkgcaoomaa
