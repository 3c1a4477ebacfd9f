/-
  The program's ranges (slices.Contains, slices.Index of bools) and unless of each type.
-/
import Derived.Test.YtpngcdafamkhcaaVpB
namespace Go.Proofs.Ytpngcdafamkhcaa
open Go.RowKit

theorem Try.el_bo : El Try.prog 89 4 1 1 (.bool false) := ⟨Try.underlying89, by kernel_rfl, rfl, by omega, by omega, by omega⟩
theorem Try.el_er : El Try.prog 88 33 1 8 (.int .i64 0) := ⟨Try.underlying88, by kernel_rfl, rfl, by omega, by omega, by omega⟩
theorem Try.ix_bo (W : World) (g n c j : Nat) (hj : j < n) : (Instr.indexAt 89 (.slice (some ⟨g, 0, none⟩) n c) (.int .i64 (j : Int))).run Try.prog W = .ok (.pointer (some ⟨g, j, none⟩)) W := by
  have h9 := El.index Try.el_bo (by kernel_rfl) W g 0 n c j hj
  simpa using h9
theorem Try.ix_er (W : World) (g n c j : Nat) (hj : j < n) : (Instr.indexAt 88 (.slice (some ⟨g, 0, none⟩) n c) (.int .i64 (j : Int))).run Try.prog W = .ok (.pointer (some ⟨g, j, none⟩)) W := by
  have h9 := El.index Try.el_er (by kernel_rfl) W g 0 n c j hj
  simpa using h9
set_option maxHeartbeats 16000000 in
set_option maxRecDepth 100000 in
theorem vindex_any (bs : List Bool) (g n : Nat) (w : World) (hn : bs.length = n) (hs : n ≤ 1000) (hb : Blk w g 4 (bs.map Value.bool)) :
    Calls Try.prog 67 #[.slice (some ⟨g, 0, none⟩) n n, .bool false] w fun e w' => ∃ x : Int, e = .returned (.int .i64 x) ∧ decide (0 ≤ x) = bs.contains false ∧ w' = w := by
  have HB := Lib.hid hb
  have HN := Lib.hid hn
  clear hb hn
  go_enter Try.func67, Try.ntmps67
  go_wp2
  go_loopw [8] (fun iv wr => ∃ i : Nat, i ≤ n ∧ iv = .int .i64 (i : Int) ∧ (∀ b ∈ bs.take i, b = true) ∧ wr = w) (fun iv _ => n - (intOf iv).toNat)
  case atStart => exact ⟨0, Nat.zero_le _, rfl, (fun b h => by simp at h), rfl⟩
  case round =>
    obtain ⟨i, hi, rfl, hp, rfl⟩ := hrel
    have HP := Lib.hid hp
    clear hp
    by_cases hlt : i < n
    · have hil : i < bs.length := by rw [HN.out]; exact hlt
      obtain ⟨b, hget⟩ : ∃ b, bs[i]? = some b := ⟨_, List.getElem?_eq_getElem hil⟩
      have hix := fun W => Try.ix_bo W g n n i hlt
      have hcl := HB.out.cellAt (i := i) (v := .bool b) (by rw [List.getElem?_map, hget]; rfl)
      have HTk : Hid (bs.take (i + 1) = bs.take i ++ [b]) := Lib.hid (by rw [List.take_add_one, hget]; rfl)
      have HMm : Hid (b ∈ bs) := Lib.hid (List.mem_of_getElem? hget)
      clear hil hget
      cases b with
      | false =>
        go_wp2
        go_ret
        exact ⟨_, rfl, by rw [List.contains_iff_mem.2 HMm.out]; simp, rfl⟩
      | true =>
        go_wp2
        go_roundw
        case rel => exact ⟨i + 1, by omega, by go_num, (fun b hb => by rw [HTk.out] at hb; rcases List.mem_append.1 hb with h | h; exact HP.out b h; exact List.mem_singleton.1 h), by first | trivial | rfl⟩
        case measure => simp [intOf]; omega
    · have hik : i = n := by omega
      subst hik
      have HC : Hid (bs.contains false = false) := Lib.hid (by
        rw [Bool.eq_false_iff]
        intro h9
        have h8 := HP.out false (by rw [List.take_of_length_le (by rw [HN.out]; exact Nat.le_refl _)]; exact List.contains_iff_mem.1 h9)
        cases h8)
      go_wp2
      go_ret
      exact ⟨_, rfl, by rw [HC.out]; rfl, rfl⟩
def vrngE (bs : List Bool) : Int := if bs.contains false = true then 5 else 0
set_option maxHeartbeats 16000000 in
set_option maxRecDepth 100000 in
theorem vranges_any (bs : List Bool) (g n : Nat) (w : World) (hn : bs.length = n) (hs : n ≤ 1000) (hb : Blk w g 4 (bs.map Value.bool)) :
    Calls Try.prog 27 #[.slice (some ⟨g, 0, none⟩) n n] w fun e w' => e = .returned (.int .i64 (vrngE bs)) ∧ w' = w := by
  have HCo : Hid (Calls Try.prog 55 #[.slice (some ⟨g, 0, none⟩) n n, .bool false] w fun e w' => e = .returned (.bool (bs.contains false)) ∧ w' = w) := Lib.hid (by
    have HI := Lib.hid (vindex_any bs g n w hn hs hb)
    generalize bs.contains false = q at *
    clear hb hn hs
    go_enter Try.func55, Try.ntmps55
    go_wp2_with (first
      | (go_at_call 67; (with_reducible refine HI.out.mono ?_); rintro e w1 ⟨x, rfl, hx, rfl⟩))
    go_ret
    exact ⟨by rw [← hx]; rfl, rfl⟩)
  obtain ⟨q, hq⟩ : ∃ q, bs.contains false = q := ⟨_, rfl⟩
  unfold vrngE
  rw [hq] at HCo ⊢
  clear hb hn hs hq
  cases q with
  | false =>
    go_enter Try.func27, Try.ntmps27
    go_wp2_with (first
      | (go_at_call 55; (with_reducible refine HCo.out.mono ?_); rintro e w1 ⟨rfl, rfl⟩))
    go_ret
    exact ⟨by simp, rfl⟩
  | true =>
    go_enter Try.func27, Try.ntmps27
    go_wp2_with (first
      | (go_at_call 55; (with_reducible refine HCo.out.mono ?_); rintro e w1 ⟨rfl, rfl⟩))
    go_ret
    exact ⟨by simp, rfl⟩
/-- the first error that is one -/
def firstE : List Int → Int
  | [] => 0
  | x :: xs => if x = 0 then firstE xs else x

theorem one_z_vo : (#[.int .i64 0, .int .i64 0, .int .u8 0, .int .u8 0, .int .u8 0, .int .u8 0, .int .u8 0, .int .u8 0, .int .u8 0, .int .u8 0, .int .u8 0, .int .u8 0, .int .u8 0, .int .u8 0, .int .u8 0, .int .u8 0, .int .u8 0, .int .u8 0, .int .u8 0, .int .u8 0, .int .u8 0, .int .u8 0, .int .u8 0, .int .u8 0, .int .u8 0, .int .u8 0, .int .u8 0, .int .u8 0, .int .u8 0, .int .u8 0, .int .u8 0, .int .u8 0, .int .u8 0, .int .u8 0] : Array Value).all (·.oneCell') = true := by simp [Value.oneCell']
set_option maxHeartbeats 16000000 in
set_option maxRecDepth 100000 in
theorem vunless_vo (L : List Value) (hL : L.length = 34) (h1 : L.toArray.all (·.oneCell') = true) (es : List Int) (g n : Nat) (w : World) (hn : es.length = n) (hs : n ≤ 1000) (hb : Blk w g 33 (es.map (Value.int .i64))) :
    Calls Try.prog 39 #[.agg L.toArray, .slice (some ⟨g, 0, none⟩) n n] w (Told w (if firstE es = 0 then L else [.int .i64 0, .int .i64 0, .int .u8 0, .int .u8 0, .int .u8 0, .int .u8 0, .int .u8 0, .int .u8 0, .int .u8 0, .int .u8 0, .int .u8 0, .int .u8 0, .int .u8 0, .int .u8 0, .int .u8 0, .int .u8 0, .int .u8 0, .int .u8 0, .int .u8 0, .int .u8 0, .int .u8 0, .int .u8 0, .int .u8 0, .int .u8 0, .int .u8 0, .int .u8 0, .int .u8 0, .int .u8 0, .int .u8 0, .int .u8 0, .int .u8 0, .int .u8 0, .int .u8 0, .int .u8 0]) (firstE es)) := by
  obtain ⟨er, her⟩ : ∃ er, firstE es = er := ⟨_, rfl⟩
  obtain ⟨R, hR⟩ : ∃ R, (if er = 0 then L else [.int .i64 0, .int .i64 0, .int .u8 0, .int .u8 0, .int .u8 0, .int .u8 0, .int .u8 0, .int .u8 0, .int .u8 0, .int .u8 0, .int .u8 0, .int .u8 0, .int .u8 0, .int .u8 0, .int .u8 0, .int .u8 0, .int .u8 0, .int .u8 0, .int .u8 0, .int .u8 0, .int .u8 0, .int .u8 0, .int .u8 0, .int .u8 0, .int .u8 0, .int .u8 0, .int .u8 0, .int .u8 0, .int .u8 0, .int .u8 0, .int .u8 0, .int .u8 0, .int .u8 0, .int .u8 0]) = R := ⟨_, rfl⟩
  rw [her, hR]
  have HR0 : Hid (er = 0 → L = R) := Lib.hid (fun h => by rw [← hR, if_pos h])
  have HR1 : Hid (¬ er = 0 → [.int .i64 0, .int .i64 0, .int .u8 0, .int .u8 0, .int .u8 0, .int .u8 0, .int .u8 0, .int .u8 0, .int .u8 0, .int .u8 0, .int .u8 0, .int .u8 0, .int .u8 0, .int .u8 0, .int .u8 0, .int .u8 0, .int .u8 0, .int .u8 0, .int .u8 0, .int .u8 0, .int .u8 0, .int .u8 0, .int .u8 0, .int .u8 0, .int .u8 0, .int .u8 0, .int .u8 0, .int .u8 0, .int .u8 0, .int .u8 0, .int .u8 0, .int .u8 0, .int .u8 0, .int .u8 0] = R) := Lib.hid (fun h => by rw [← hR, if_neg h])
  have HB2 : Hid (Blk ((w.alloc (.cells L.toArray 43)).alloc (.cells #[.int .i64 0, .int .i64 0, .int .u8 0, .int .u8 0, .int .u8 0, .int .u8 0, .int .u8 0, .int .u8 0, .int .u8 0, .int .u8 0, .int .u8 0, .int .u8 0, .int .u8 0, .int .u8 0, .int .u8 0, .int .u8 0, .int .u8 0, .int .u8 0, .int .u8 0, .int .u8 0, .int .u8 0, .int .u8 0, .int .u8 0, .int .u8 0, .int .u8 0, .int .u8 0, .int .u8 0, .int .u8 0, .int .u8 0, .int .u8 0, .int .u8 0, .int .u8 0, .int .u8 0, .int .u8 0] 43)) g 33 (es.map (Value.int .i64))) := Lib.hid ((hb.alloc _).alloc _)
  have HL2 : Hid (Blk ((w.alloc (.cells L.toArray 43)).alloc (.cells #[.int .i64 0, .int .i64 0, .int .u8 0, .int .u8 0, .int .u8 0, .int .u8 0, .int .u8 0, .int .u8 0, .int .u8 0, .int .u8 0, .int .u8 0, .int .u8 0, .int .u8 0, .int .u8 0, .int .u8 0, .int .u8 0, .int .u8 0, .int .u8 0, .int .u8 0, .int .u8 0, .int .u8 0, .int .u8 0, .int .u8 0, .int .u8 0, .int .u8 0, .int .u8 0, .int .u8 0, .int .u8 0, .int .u8 0, .int .u8 0, .int .u8 0, .int .u8 0, .int .u8 0, .int .u8 0] 43)) w.heap.size 43 L) := Lib.hid ((Blk.fresh rfl rfl).alloc _)
  have HZ2 : Hid (Blk ((w.alloc (.cells L.toArray 43)).alloc (.cells #[.int .i64 0, .int .i64 0, .int .u8 0, .int .u8 0, .int .u8 0, .int .u8 0, .int .u8 0, .int .u8 0, .int .u8 0, .int .u8 0, .int .u8 0, .int .u8 0, .int .u8 0, .int .u8 0, .int .u8 0, .int .u8 0, .int .u8 0, .int .u8 0, .int .u8 0, .int .u8 0, .int .u8 0, .int .u8 0, .int .u8 0, .int .u8 0, .int .u8 0, .int .u8 0, .int .u8 0, .int .u8 0, .int .u8 0, .int .u8 0, .int .u8 0, .int .u8 0, .int .u8 0, .int .u8 0] 43)) (w.heap.size + 1) 43 [.int .i64 0, .int .i64 0, .int .u8 0, .int .u8 0, .int .u8 0, .int .u8 0, .int .u8 0, .int .u8 0, .int .u8 0, .int .u8 0, .int .u8 0, .int .u8 0, .int .u8 0, .int .u8 0, .int .u8 0, .int .u8 0, .int .u8 0, .int .u8 0, .int .u8 0, .int .u8 0, .int .u8 0, .int .u8 0, .int .u8 0, .int .u8 0, .int .u8 0, .int .u8 0, .int .u8 0, .int .u8 0, .int .u8 0, .int .u8 0, .int .u8 0, .int .u8 0, .int .u8 0, .int .u8 0]) := Lib.hid (Blk.fresh (by simp) rfl)
  have HX2 : Hid (Below w.heap.size w ((w.alloc (.cells L.toArray 43)).alloc (.cells #[.int .i64 0, .int .i64 0, .int .u8 0, .int .u8 0, .int .u8 0, .int .u8 0, .int .u8 0, .int .u8 0, .int .u8 0, .int .u8 0, .int .u8 0, .int .u8 0, .int .u8 0, .int .u8 0, .int .u8 0, .int .u8 0, .int .u8 0, .int .u8 0, .int .u8 0, .int .u8 0, .int .u8 0, .int .u8 0, .int .u8 0, .int .u8 0, .int .u8 0, .int .u8 0, .int .u8 0, .int .u8 0, .int .u8 0, .int .u8 0, .int .u8 0, .int .u8 0, .int .u8 0, .int .u8 0] 43))) := Lib.hid (below2_ w _ _)
  have HN := Lib.hid hn
  have HE := Lib.hid her
  have HL := Lib.hid hL
  have H1 := Lib.hid h1
  clear hb hn hL h1 hR her
  go_enter Try.func39, Try.ntmps39
  go_wp2
  go_loopw [11] (fun iv wr => ∃ i : Nat, i ≤ n ∧ iv = .int .i64 (i : Int) ∧ firstE (es.drop i) = er ∧ wr = ((w.alloc (.cells L.toArray 43)).alloc (.cells #[.int .i64 0, .int .i64 0, .int .u8 0, .int .u8 0, .int .u8 0, .int .u8 0, .int .u8 0, .int .u8 0, .int .u8 0, .int .u8 0, .int .u8 0, .int .u8 0, .int .u8 0, .int .u8 0, .int .u8 0, .int .u8 0, .int .u8 0, .int .u8 0, .int .u8 0, .int .u8 0, .int .u8 0, .int .u8 0, .int .u8 0, .int .u8 0, .int .u8 0, .int .u8 0, .int .u8 0, .int .u8 0, .int .u8 0, .int .u8 0, .int .u8 0, .int .u8 0, .int .u8 0, .int .u8 0] 43))) (fun iv _ => n - (intOf iv).toNat)
  case atStart => exact ⟨0, Nat.zero_le _, rfl, HE.out, rfl⟩
  case round =>
    obtain ⟨i, hi, rfl, hp, rfl⟩ := hrel
    have HP := Lib.hid hp
    clear hp
    by_cases hlt : i < n
    · have hil : i < es.length := by rw [HN.out]; exact hlt
      obtain ⟨x, hget, hdr⟩ : ∃ x, es[i]? = some x ∧ es.drop i = x :: es.drop (i + 1) := ⟨_, List.getElem?_eq_getElem hil, List.drop_eq_getElem_cons hil⟩
      have hix := fun W => Try.ix_er W g n n i hlt
      have hcl := HB2.out.cellAt (i := i) (v := .int .i64 x) (by rw [List.getElem?_map, hget]; rfl)
      have HD : Hid ((if x = 0 then firstE (es.drop (i + 1)) else x) = er) := Lib.hid (by have h9 := HP.out; rw [hdr] at h9; exact h9)
      clear hil hget hdr
      by_cases hx : x = 0
      · have HF : Hid (firstE (es.drop (i + 1)) = er) := Lib.hid (by have h9 := HD.out; rw [if_pos hx] at h9; exact h9)
        have hxd : (x != 0) = false := by simpa using hx
        clear hx
        go_wp2
        go_roundw
        case rel => exact ⟨i + 1, by omega, by go_num, HF.out, by first | trivial | rfl⟩
        case measure => simp [intOf]; omega
      · have hxe : x = er := by have h9 := HD.out; rw [if_neg hx] at h9; exact h9
        have hZR := HR1.out (by rw [← hxe]; exact hx)
        have HZR := Lib.hid hZR
        have HXE := Lib.hid hxe
        have hxd : (x != 0) = true := by simpa using hx
        have hxc : (x == 0) = false := by simpa using hx
        have HF3 : Hid (Blk (((w.alloc (.cells L.toArray 43)).alloc (.cells #[.int .i64 0, .int .i64 0, .int .u8 0, .int .u8 0, .int .u8 0, .int .u8 0, .int .u8 0, .int .u8 0, .int .u8 0, .int .u8 0, .int .u8 0, .int .u8 0, .int .u8 0, .int .u8 0, .int .u8 0, .int .u8 0, .int .u8 0, .int .u8 0, .int .u8 0, .int .u8 0, .int .u8 0, .int .u8 0, .int .u8 0, .int .u8 0, .int .u8 0, .int .u8 0, .int .u8 0, .int .u8 0, .int .u8 0, .int .u8 0, .int .u8 0, .int .u8 0, .int .u8 0, .int .u8 0] 43)).alloc (.cells #[.int .i64 0, .int .i64 0, .int .u8 0, .int .u8 0, .int .u8 0, .int .u8 0, .int .u8 0, .int .u8 0, .int .u8 0, .int .u8 0, .int .u8 0, .int .u8 0, .int .u8 0, .int .u8 0, .int .u8 0, .int .u8 0, .int .u8 0, .int .u8 0, .int .u8 0, .int .u8 0, .int .u8 0, .int .u8 0, .int .u8 0, .int .u8 0, .int .u8 0, .int .u8 0, .int .u8 0, .int .u8 0, .int .u8 0, .int .u8 0, .int .u8 0, .int .u8 0, .int .u8 0, .int .u8 0] 43)) (w.heap.size + 1 + 1) 43 [.int .i64 0, .int .i64 0, .int .u8 0, .int .u8 0, .int .u8 0, .int .u8 0, .int .u8 0, .int .u8 0, .int .u8 0, .int .u8 0, .int .u8 0, .int .u8 0, .int .u8 0, .int .u8 0, .int .u8 0, .int .u8 0, .int .u8 0, .int .u8 0, .int .u8 0, .int .u8 0, .int .u8 0, .int .u8 0, .int .u8 0, .int .u8 0, .int .u8 0, .int .u8 0, .int .u8 0, .int .u8 0, .int .u8 0, .int .u8 0, .int .u8 0, .int .u8 0, .int .u8 0, .int .u8 0]) := Lib.hid (Blk.fresh (by simp) rfl)
        have HZ3 : Hid (Blk (((w.alloc (.cells L.toArray 43)).alloc (.cells #[.int .i64 0, .int .i64 0, .int .u8 0, .int .u8 0, .int .u8 0, .int .u8 0, .int .u8 0, .int .u8 0, .int .u8 0, .int .u8 0, .int .u8 0, .int .u8 0, .int .u8 0, .int .u8 0, .int .u8 0, .int .u8 0, .int .u8 0, .int .u8 0, .int .u8 0, .int .u8 0, .int .u8 0, .int .u8 0, .int .u8 0, .int .u8 0, .int .u8 0, .int .u8 0, .int .u8 0, .int .u8 0, .int .u8 0, .int .u8 0, .int .u8 0, .int .u8 0, .int .u8 0, .int .u8 0] 43)).alloc (.cells #[.int .i64 0, .int .i64 0, .int .u8 0, .int .u8 0, .int .u8 0, .int .u8 0, .int .u8 0, .int .u8 0, .int .u8 0, .int .u8 0, .int .u8 0, .int .u8 0, .int .u8 0, .int .u8 0, .int .u8 0, .int .u8 0, .int .u8 0, .int .u8 0, .int .u8 0, .int .u8 0, .int .u8 0, .int .u8 0, .int .u8 0, .int .u8 0, .int .u8 0, .int .u8 0, .int .u8 0, .int .u8 0, .int .u8 0, .int .u8 0, .int .u8 0, .int .u8 0, .int .u8 0, .int .u8 0] 43)) (w.heap.size + 1) 43 [.int .i64 0, .int .i64 0, .int .u8 0, .int .u8 0, .int .u8 0, .int .u8 0, .int .u8 0, .int .u8 0, .int .u8 0, .int .u8 0, .int .u8 0, .int .u8 0, .int .u8 0, .int .u8 0, .int .u8 0, .int .u8 0, .int .u8 0, .int .u8 0, .int .u8 0, .int .u8 0, .int .u8 0, .int .u8 0, .int .u8 0, .int .u8 0, .int .u8 0, .int .u8 0, .int .u8 0, .int .u8 0, .int .u8 0, .int .u8 0, .int .u8 0, .int .u8 0, .int .u8 0, .int .u8 0]) := Lib.hid (HZ2.out.alloc _)
        have HX3 : Hid (Below w.heap.size w (((w.alloc (.cells L.toArray 43)).alloc (.cells #[.int .i64 0, .int .i64 0, .int .u8 0, .int .u8 0, .int .u8 0, .int .u8 0, .int .u8 0, .int .u8 0, .int .u8 0, .int .u8 0, .int .u8 0, .int .u8 0, .int .u8 0, .int .u8 0, .int .u8 0, .int .u8 0, .int .u8 0, .int .u8 0, .int .u8 0, .int .u8 0, .int .u8 0, .int .u8 0, .int .u8 0, .int .u8 0, .int .u8 0, .int .u8 0, .int .u8 0, .int .u8 0, .int .u8 0, .int .u8 0, .int .u8 0, .int .u8 0, .int .u8 0, .int .u8 0] 43)).alloc (.cells #[.int .i64 0, .int .i64 0, .int .u8 0, .int .u8 0, .int .u8 0, .int .u8 0, .int .u8 0, .int .u8 0, .int .u8 0, .int .u8 0, .int .u8 0, .int .u8 0, .int .u8 0, .int .u8 0, .int .u8 0, .int .u8 0, .int .u8 0, .int .u8 0, .int .u8 0, .int .u8 0, .int .u8 0, .int .u8 0, .int .u8 0, .int .u8 0, .int .u8 0, .int .u8 0, .int .u8 0, .int .u8 0, .int .u8 0, .int .u8 0, .int .u8 0, .int .u8 0, .int .u8 0, .int .u8 0] 43))) := Lib.hid (HX2.out.alloc HX2.out.size _)
        clear hx hxe hZR
        go_wp2_with (first
          | (refine wpList_load_blk rfl 43 (.tmp 8) rfl (w.heap.size + 1 + 1) rfl 43 [.int .i64 0, .int .i64 0, .int .u8 0, .int .u8 0, .int .u8 0, .int .u8 0, .int .u8 0, .int .u8 0, .int .u8 0, .int .u8 0, .int .u8 0, .int .u8 0, .int .u8 0, .int .u8 0, .int .u8 0, .int .u8 0, .int .u8 0, .int .u8 0, .int .u8 0, .int .u8 0, .int .u8 0, .int .u8 0, .int .u8 0, .int .u8 0, .int .u8 0, .int .u8 0, .int .u8 0, .int .u8 0, .int .u8 0, .int .u8 0, .int .u8 0, .int .u8 0, .int .u8 0, .int .u8 0] _ HF3.out Try.underlying43 rfl (by kernel_rfl) ?_)
          | (refine wpList_store_blk rfl 43 (.tmp 4) (.tmp 17) rfl (w.heap.size + 1) ([.int .i64 0, .int .i64 0, .int .u8 0, .int .u8 0, .int .u8 0, .int .u8 0, .int .u8 0, .int .u8 0, .int .u8 0, .int .u8 0, .int .u8 0, .int .u8 0, .int .u8 0, .int .u8 0, .int .u8 0, .int .u8 0, .int .u8 0, .int .u8 0, .int .u8 0, .int .u8 0, .int .u8 0, .int .u8 0, .int .u8 0, .int .u8 0, .int .u8 0, .int .u8 0, .int .u8 0, .int .u8 0, .int .u8 0, .int .u8 0, .int .u8 0, .int .u8 0, .int .u8 0, .int .u8 0]) rfl rfl 43 [.int .i64 0, .int .i64 0, .int .u8 0, .int .u8 0, .int .u8 0, .int .u8 0, .int .u8 0, .int .u8 0, .int .u8 0, .int .u8 0, .int .u8 0, .int .u8 0, .int .u8 0, .int .u8 0, .int .u8 0, .int .u8 0, .int .u8 0, .int .u8 0, .int .u8 0, .int .u8 0, .int .u8 0, .int .u8 0, .int .u8 0, .int .u8 0, .int .u8 0, .int .u8 0, .int .u8 0, .int .u8 0, .int .u8 0, .int .u8 0, .int .u8 0, .int .u8 0, .int .u8 0, .int .u8 0] HZ3.out (by kernel_rfl) rfl one_z_vo ?_; intro wy hby hgy; have HBy := Lib.hid hby; have HGy := Lib.hid hgy; clear hby hgy))
        (try simp only [Exit.inBlock, Exit.then])
        refine bodyPost_ret (results_cell_row_tmp1 rfl _ _ (w.heap.size + 1) 43 _ (0, 0) _ rfl HBy.out Try.underlying43 rfl (by kernel_rfl)) rfl ?_
        rw [← HZR.out, ← HXE.out]
        exact ⟨rfl, HX3.out.grown HGy.out HX3.out.size (fun k hk => by have := Option.some.inj hk; omega)⟩
    · have hik : i = n := by omega
      subst hik
      have HE0 : Hid (0 = er) := Lib.hid (by have h9 := HP.out; rw [List.drop_of_length_le (by rw [HN.out]; exact Nat.le_refl _)] at h9; exact h9)
      have HLR := Lib.hid (HR0.out HE0.out.symm)
      go_wp2_with (first
        | (refine wpList_load_blk rfl 43 (.tmp 2) rfl w.heap.size rfl 43 L _ HL2.out Try.underlying43 rfl (by rw [HL.out]; kernel_rfl) ?_)
        | (refine wpList_store_blk rfl 43 (.tmp 4) (.tmp 20) rfl (w.heap.size + 1) (L) rfl rfl 43 [.int .i64 0, .int .i64 0, .int .u8 0, .int .u8 0, .int .u8 0, .int .u8 0, .int .u8 0, .int .u8 0, .int .u8 0, .int .u8 0, .int .u8 0, .int .u8 0, .int .u8 0, .int .u8 0, .int .u8 0, .int .u8 0, .int .u8 0, .int .u8 0, .int .u8 0, .int .u8 0, .int .u8 0, .int .u8 0, .int .u8 0, .int .u8 0, .int .u8 0, .int .u8 0, .int .u8 0, .int .u8 0, .int .u8 0, .int .u8 0, .int .u8 0, .int .u8 0, .int .u8 0, .int .u8 0] HZ2.out (by rw [HL.out]; kernel_rfl) (by rw [HL.out]; rfl) H1.out ?_; intro wy hby hgy; have HBy := Lib.hid hby; have HGy := Lib.hid hgy; clear hby hgy))
      (try simp only [Exit.inBlock, Exit.then])
      refine bodyPost_ret (results_cell_row_tmp1 rfl _ _ (w.heap.size + 1) 43 _ (0, 0) _ rfl HBy.out Try.underlying43 rfl (by rw [List.size_toArray, HL.out]; kernel_rfl)) rfl ?_
      rw [← HLR.out, ← HE0.out]
      exact ⟨rfl, HX2.out.grown HGy.out HX2.out.size (fun k hk => by have := Option.some.inj hk; omega)⟩

theorem one_z_re : (#[.int .i64 0, .int .i64 0, .int .i64 0, .int .i64 0] : Array Value).all (·.oneCell') = true := by simp [Value.oneCell']
set_option maxHeartbeats 16000000 in
set_option maxRecDepth 100000 in
theorem vunless_re (L : List Value) (hL : L.length = 4) (h1 : L.toArray.all (·.oneCell') = true) (es : List Int) (g n : Nat) (w : World) (hn : es.length = n) (hs : n ≤ 1000) (hb : Blk w g 33 (es.map (Value.int .i64))) :
    Calls Try.prog 42 #[.agg L.toArray, .slice (some ⟨g, 0, none⟩) n n] w (Told w (if firstE es = 0 then L else [.int .i64 0, .int .i64 0, .int .i64 0, .int .i64 0]) (firstE es)) := by
  obtain ⟨er, her⟩ : ∃ er, firstE es = er := ⟨_, rfl⟩
  obtain ⟨R, hR⟩ : ∃ R, (if er = 0 then L else [.int .i64 0, .int .i64 0, .int .i64 0, .int .i64 0]) = R := ⟨_, rfl⟩
  rw [her, hR]
  have HR0 : Hid (er = 0 → L = R) := Lib.hid (fun h => by rw [← hR, if_pos h])
  have HR1 : Hid (¬ er = 0 → [.int .i64 0, .int .i64 0, .int .i64 0, .int .i64 0] = R) := Lib.hid (fun h => by rw [← hR, if_neg h])
  have HB2 : Hid (Blk ((w.alloc (.cells L.toArray 48)).alloc (.cells #[.int .i64 0, .int .i64 0, .int .i64 0, .int .i64 0] 48)) g 33 (es.map (Value.int .i64))) := Lib.hid ((hb.alloc _).alloc _)
  have HL2 : Hid (Blk ((w.alloc (.cells L.toArray 48)).alloc (.cells #[.int .i64 0, .int .i64 0, .int .i64 0, .int .i64 0] 48)) w.heap.size 48 L) := Lib.hid ((Blk.fresh rfl rfl).alloc _)
  have HZ2 : Hid (Blk ((w.alloc (.cells L.toArray 48)).alloc (.cells #[.int .i64 0, .int .i64 0, .int .i64 0, .int .i64 0] 48)) (w.heap.size + 1) 48 [.int .i64 0, .int .i64 0, .int .i64 0, .int .i64 0]) := Lib.hid (Blk.fresh (by simp) rfl)
  have HX2 : Hid (Below w.heap.size w ((w.alloc (.cells L.toArray 48)).alloc (.cells #[.int .i64 0, .int .i64 0, .int .i64 0, .int .i64 0] 48))) := Lib.hid (below2_ w _ _)
  have HN := Lib.hid hn
  have HE := Lib.hid her
  have HL := Lib.hid hL
  have H1 := Lib.hid h1
  clear hb hn hL h1 hR her
  go_enter Try.func42, Try.ntmps42
  go_wp2
  go_loopw [11] (fun iv wr => ∃ i : Nat, i ≤ n ∧ iv = .int .i64 (i : Int) ∧ firstE (es.drop i) = er ∧ wr = ((w.alloc (.cells L.toArray 48)).alloc (.cells #[.int .i64 0, .int .i64 0, .int .i64 0, .int .i64 0] 48))) (fun iv _ => n - (intOf iv).toNat)
  case atStart => exact ⟨0, Nat.zero_le _, rfl, HE.out, rfl⟩
  case round =>
    obtain ⟨i, hi, rfl, hp, rfl⟩ := hrel
    have HP := Lib.hid hp
    clear hp
    by_cases hlt : i < n
    · have hil : i < es.length := by rw [HN.out]; exact hlt
      obtain ⟨x, hget, hdr⟩ : ∃ x, es[i]? = some x ∧ es.drop i = x :: es.drop (i + 1) := ⟨_, List.getElem?_eq_getElem hil, List.drop_eq_getElem_cons hil⟩
      have hix := fun W => Try.ix_er W g n n i hlt
      have hcl := HB2.out.cellAt (i := i) (v := .int .i64 x) (by rw [List.getElem?_map, hget]; rfl)
      have HD : Hid ((if x = 0 then firstE (es.drop (i + 1)) else x) = er) := Lib.hid (by have h9 := HP.out; rw [hdr] at h9; exact h9)
      clear hil hget hdr
      by_cases hx : x = 0
      · have HF : Hid (firstE (es.drop (i + 1)) = er) := Lib.hid (by have h9 := HD.out; rw [if_pos hx] at h9; exact h9)
        have hxd : (x != 0) = false := by simpa using hx
        clear hx
        go_wp2
        go_roundw
        case rel => exact ⟨i + 1, by omega, by go_num, HF.out, by first | trivial | rfl⟩
        case measure => simp [intOf]; omega
      · have hxe : x = er := by have h9 := HD.out; rw [if_neg hx] at h9; exact h9
        have hZR := HR1.out (by rw [← hxe]; exact hx)
        have HZR := Lib.hid hZR
        have HXE := Lib.hid hxe
        have hxd : (x != 0) = true := by simpa using hx
        have hxc : (x == 0) = false := by simpa using hx
        have HF3 : Hid (Blk (((w.alloc (.cells L.toArray 48)).alloc (.cells #[.int .i64 0, .int .i64 0, .int .i64 0, .int .i64 0] 48)).alloc (.cells #[.int .i64 0, .int .i64 0, .int .i64 0, .int .i64 0] 48)) (w.heap.size + 1 + 1) 48 [.int .i64 0, .int .i64 0, .int .i64 0, .int .i64 0]) := Lib.hid (Blk.fresh (by simp) rfl)
        have HZ3 : Hid (Blk (((w.alloc (.cells L.toArray 48)).alloc (.cells #[.int .i64 0, .int .i64 0, .int .i64 0, .int .i64 0] 48)).alloc (.cells #[.int .i64 0, .int .i64 0, .int .i64 0, .int .i64 0] 48)) (w.heap.size + 1) 48 [.int .i64 0, .int .i64 0, .int .i64 0, .int .i64 0]) := Lib.hid (HZ2.out.alloc _)
        have HX3 : Hid (Below w.heap.size w (((w.alloc (.cells L.toArray 48)).alloc (.cells #[.int .i64 0, .int .i64 0, .int .i64 0, .int .i64 0] 48)).alloc (.cells #[.int .i64 0, .int .i64 0, .int .i64 0, .int .i64 0] 48))) := Lib.hid (HX2.out.alloc HX2.out.size _)
        clear hx hxe hZR
        go_wp2_with (first
          | (refine wpList_load_blk rfl 48 (.tmp 8) rfl (w.heap.size + 1 + 1) rfl 48 [.int .i64 0, .int .i64 0, .int .i64 0, .int .i64 0] _ HF3.out Try.underlying48 rfl (by kernel_rfl) ?_)
          | (refine wpList_store_blk rfl 48 (.tmp 4) (.tmp 17) rfl (w.heap.size + 1) ([.int .i64 0, .int .i64 0, .int .i64 0, .int .i64 0]) rfl rfl 48 [.int .i64 0, .int .i64 0, .int .i64 0, .int .i64 0] HZ3.out (by kernel_rfl) rfl one_z_re ?_; intro wy hby hgy; have HBy := Lib.hid hby; have HGy := Lib.hid hgy; clear hby hgy))
        (try simp only [Exit.inBlock, Exit.then])
        refine bodyPost_ret (results_cell_row_tmp1 rfl _ _ (w.heap.size + 1) 48 _ (0, 0) _ rfl HBy.out Try.underlying48 rfl (by kernel_rfl)) rfl ?_
        rw [← HZR.out, ← HXE.out]
        exact ⟨rfl, HX3.out.grown HGy.out HX3.out.size (fun k hk => by have := Option.some.inj hk; omega)⟩
    · have hik : i = n := by omega
      subst hik
      have HE0 : Hid (0 = er) := Lib.hid (by have h9 := HP.out; rw [List.drop_of_length_le (by rw [HN.out]; exact Nat.le_refl _)] at h9; exact h9)
      have HLR := Lib.hid (HR0.out HE0.out.symm)
      go_wp2_with (first
        | (refine wpList_load_blk rfl 48 (.tmp 2) rfl w.heap.size rfl 48 L _ HL2.out Try.underlying48 rfl (by rw [HL.out]; kernel_rfl) ?_)
        | (refine wpList_store_blk rfl 48 (.tmp 4) (.tmp 20) rfl (w.heap.size + 1) (L) rfl rfl 48 [.int .i64 0, .int .i64 0, .int .i64 0, .int .i64 0] HZ2.out (by rw [HL.out]; kernel_rfl) (by rw [HL.out]; rfl) H1.out ?_; intro wy hby hgy; have HBy := Lib.hid hby; have HGy := Lib.hid hgy; clear hby hgy))
      (try simp only [Exit.inBlock, Exit.then])
      refine bodyPost_ret (results_cell_row_tmp1 rfl _ _ (w.heap.size + 1) 48 _ (0, 0) _ rfl HBy.out Try.underlying48 rfl (by rw [List.size_toArray, HL.out]; kernel_rfl)) rfl ?_
      rw [← HLR.out, ← HE0.out]
      exact ⟨rfl, HX2.out.grown HGy.out HX2.out.size (fun k hk => by have := Option.some.inj hk; omega)⟩

theorem one_z_pr : (#[.int .i64 0, .int .i64 0, .slice none 0 0] : Array Value).all (·.oneCell') = true := by simp [Value.oneCell']
set_option maxHeartbeats 16000000 in
set_option maxRecDepth 100000 in
theorem vunless_pr (L : List Value) (hL : L.length = 3) (h1 : L.toArray.all (·.oneCell') = true) (es : List Int) (g n : Nat) (w : World) (hn : es.length = n) (hs : n ≤ 1000) (hb : Blk w g 33 (es.map (Value.int .i64))) :
    Calls Try.prog 25 #[.agg L.toArray, .slice (some ⟨g, 0, none⟩) n n] w (Told w (if firstE es = 0 then L else [.int .i64 0, .int .i64 0, .slice none 0 0]) (firstE es)) := by
  obtain ⟨er, her⟩ : ∃ er, firstE es = er := ⟨_, rfl⟩
  obtain ⟨R, hR⟩ : ∃ R, (if er = 0 then L else [.int .i64 0, .int .i64 0, .slice none 0 0]) = R := ⟨_, rfl⟩
  rw [her, hR]
  have HR0 : Hid (er = 0 → L = R) := Lib.hid (fun h => by rw [← hR, if_pos h])
  have HR1 : Hid (¬ er = 0 → [.int .i64 0, .int .i64 0, .slice none 0 0] = R) := Lib.hid (fun h => by rw [← hR, if_neg h])
  have HB2 : Hid (Blk ((w.alloc (.cells L.toArray 24)).alloc (.cells #[.int .i64 0, .int .i64 0, .slice none 0 0] 24)) g 33 (es.map (Value.int .i64))) := Lib.hid ((hb.alloc _).alloc _)
  have HL2 : Hid (Blk ((w.alloc (.cells L.toArray 24)).alloc (.cells #[.int .i64 0, .int .i64 0, .slice none 0 0] 24)) w.heap.size 24 L) := Lib.hid ((Blk.fresh rfl rfl).alloc _)
  have HZ2 : Hid (Blk ((w.alloc (.cells L.toArray 24)).alloc (.cells #[.int .i64 0, .int .i64 0, .slice none 0 0] 24)) (w.heap.size + 1) 24 [.int .i64 0, .int .i64 0, .slice none 0 0]) := Lib.hid (Blk.fresh (by simp) rfl)
  have HX2 : Hid (Below w.heap.size w ((w.alloc (.cells L.toArray 24)).alloc (.cells #[.int .i64 0, .int .i64 0, .slice none 0 0] 24))) := Lib.hid (below2_ w _ _)
  have HN := Lib.hid hn
  have HE := Lib.hid her
  have HL := Lib.hid hL
  have H1 := Lib.hid h1
  clear hb hn hL h1 hR her
  go_enter Try.func25, Try.ntmps25
  go_wp2
  go_loopw [11] (fun iv wr => ∃ i : Nat, i ≤ n ∧ iv = .int .i64 (i : Int) ∧ firstE (es.drop i) = er ∧ wr = ((w.alloc (.cells L.toArray 24)).alloc (.cells #[.int .i64 0, .int .i64 0, .slice none 0 0] 24))) (fun iv _ => n - (intOf iv).toNat)
  case atStart => exact ⟨0, Nat.zero_le _, rfl, HE.out, rfl⟩
  case round =>
    obtain ⟨i, hi, rfl, hp, rfl⟩ := hrel
    have HP := Lib.hid hp
    clear hp
    by_cases hlt : i < n
    · have hil : i < es.length := by rw [HN.out]; exact hlt
      obtain ⟨x, hget, hdr⟩ : ∃ x, es[i]? = some x ∧ es.drop i = x :: es.drop (i + 1) := ⟨_, List.getElem?_eq_getElem hil, List.drop_eq_getElem_cons hil⟩
      have hix := fun W => Try.ix_er W g n n i hlt
      have hcl := HB2.out.cellAt (i := i) (v := .int .i64 x) (by rw [List.getElem?_map, hget]; rfl)
      have HD : Hid ((if x = 0 then firstE (es.drop (i + 1)) else x) = er) := Lib.hid (by have h9 := HP.out; rw [hdr] at h9; exact h9)
      clear hil hget hdr
      by_cases hx : x = 0
      · have HF : Hid (firstE (es.drop (i + 1)) = er) := Lib.hid (by have h9 := HD.out; rw [if_pos hx] at h9; exact h9)
        have hxd : (x != 0) = false := by simpa using hx
        clear hx
        go_wp2
        go_roundw
        case rel => exact ⟨i + 1, by omega, by go_num, HF.out, by first | trivial | rfl⟩
        case measure => simp [intOf]; omega
      · have hxe : x = er := by have h9 := HD.out; rw [if_neg hx] at h9; exact h9
        have hZR := HR1.out (by rw [← hxe]; exact hx)
        have HZR := Lib.hid hZR
        have HXE := Lib.hid hxe
        have hxd : (x != 0) = true := by simpa using hx
        have hxc : (x == 0) = false := by simpa using hx
        have HF3 : Hid (Blk (((w.alloc (.cells L.toArray 24)).alloc (.cells #[.int .i64 0, .int .i64 0, .slice none 0 0] 24)).alloc (.cells #[.int .i64 0, .int .i64 0, .slice none 0 0] 24)) (w.heap.size + 1 + 1) 24 [.int .i64 0, .int .i64 0, .slice none 0 0]) := Lib.hid (Blk.fresh (by simp) rfl)
        have HZ3 : Hid (Blk (((w.alloc (.cells L.toArray 24)).alloc (.cells #[.int .i64 0, .int .i64 0, .slice none 0 0] 24)).alloc (.cells #[.int .i64 0, .int .i64 0, .slice none 0 0] 24)) (w.heap.size + 1) 24 [.int .i64 0, .int .i64 0, .slice none 0 0]) := Lib.hid (HZ2.out.alloc _)
        have HX3 : Hid (Below w.heap.size w (((w.alloc (.cells L.toArray 24)).alloc (.cells #[.int .i64 0, .int .i64 0, .slice none 0 0] 24)).alloc (.cells #[.int .i64 0, .int .i64 0, .slice none 0 0] 24))) := Lib.hid (HX2.out.alloc HX2.out.size _)
        clear hx hxe hZR
        go_wp2_with (first
          | (refine wpList_load_blk rfl 24 (.tmp 8) rfl (w.heap.size + 1 + 1) rfl 24 [.int .i64 0, .int .i64 0, .slice none 0 0] _ HF3.out Try.underlying24 rfl (by kernel_rfl) ?_)
          | (refine wpList_store_blk rfl 24 (.tmp 4) (.tmp 17) rfl (w.heap.size + 1) ([.int .i64 0, .int .i64 0, .slice none 0 0]) rfl rfl 24 [.int .i64 0, .int .i64 0, .slice none 0 0] HZ3.out (by kernel_rfl) rfl one_z_pr ?_; intro wy hby hgy; have HBy := Lib.hid hby; have HGy := Lib.hid hgy; clear hby hgy))
        (try simp only [Exit.inBlock, Exit.then])
        refine bodyPost_ret (results_cell_row_tmp1 rfl _ _ (w.heap.size + 1) 24 _ (0, 0) _ rfl HBy.out Try.underlying24 rfl (by kernel_rfl)) rfl ?_
        rw [← HZR.out, ← HXE.out]
        exact ⟨rfl, HX3.out.grown HGy.out HX3.out.size (fun k hk => by have := Option.some.inj hk; omega)⟩
    · have hik : i = n := by omega
      subst hik
      have HE0 : Hid (0 = er) := Lib.hid (by have h9 := HP.out; rw [List.drop_of_length_le (by rw [HN.out]; exact Nat.le_refl _)] at h9; exact h9)
      have HLR := Lib.hid (HR0.out HE0.out.symm)
      go_wp2_with (first
        | (refine wpList_load_blk rfl 24 (.tmp 2) rfl w.heap.size rfl 24 L _ HL2.out Try.underlying24 rfl (by rw [HL.out]; kernel_rfl) ?_)
        | (refine wpList_store_blk rfl 24 (.tmp 4) (.tmp 20) rfl (w.heap.size + 1) (L) rfl rfl 24 [.int .i64 0, .int .i64 0, .slice none 0 0] HZ2.out (by rw [HL.out]; kernel_rfl) (by rw [HL.out]; rfl) H1.out ?_; intro wy hby hgy; have HBy := Lib.hid hby; have HGy := Lib.hid hgy; clear hby hgy))
      (try simp only [Exit.inBlock, Exit.then])
      refine bodyPost_ret (results_cell_row_tmp1 rfl _ _ (w.heap.size + 1) 24 _ (0, 0) _ rfl HBy.out Try.underlying24 rfl (by rw [List.size_toArray, HL.out]; kernel_rfl)) rfl ?_
      rw [← HLR.out, ← HE0.out]
      exact ⟨rfl, HX2.out.grown HGy.out HX2.out.size (fun k hk => by have := Option.some.inj hk; omega)⟩

end Go.Proofs.Ytpngcdafamkhcaa
