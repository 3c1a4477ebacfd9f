/-
  The program's isBlank, isDigit, isLetter; front, blanks, run.
-/
import Derived.Test.YtnpobhgecfjfgaaDoorPN
import Derived.Lib.OthersKept
import Derived.Laws.RangeAny
namespace Go.Proofs.YtnpobhgecfjfgaaDoor
open Go.RowKit

theorem Tryd.size_str (w : World) : (sizeOf 9).run Tryd.prog w = .ok 1 w := by kernel_rfl
theorem kindB (r : Int) (w : World) : Calls Tryd.prog 25 #[.int .i32 r] w fun e w' => e = .returned (.bool (decide (r = 32))) ∧ w = w' := by
  obtain ⟨v, hv⟩ : ∃ v, (decide (r = 32)) = v := ⟨_, rfl⟩
  rw [hv]
  have hb : (r == 32) = v := by rw [← hv]; rfl
  clear hv
  go_enter Tryd.func25, Tryd.ntmps25
  go_wp2
  go_ret
  exact ⟨rfl, rfl⟩
theorem kindD (r : Int) (w : World) : Calls Tryd.prog 27 #[.int .i32 r] w fun e w' => e = .returned (.bool (decide (48 ≤ r) && decide (r ≤ 57))) ∧ w = w' := by
  obtain ⟨v, hv⟩ : ∃ v, (decide (48 ≤ r) && decide (r ≤ 57)) = v := ⟨_, rfl⟩
  rw [hv]
  by_cases h1 : 48 ≤ r
  · by_cases h2 : r ≤ 57
    · have e : v = true := by rw [← hv]; simp [h1, h2]
      have h3 : decide (r ≤ 57) = true := by simp [h2]
      subst e
      clear hv
      go_enter Tryd.func27, Tryd.ntmps27
      go_wp2
      go_ret
      exact ⟨rfl, rfl⟩
    · have e : v = false := by rw [← hv]; simp [h2]
      have h3 : decide (r ≤ 57) = false := by simp [h2]
      subst e
      clear hv
      go_enter Tryd.func27, Tryd.ntmps27
      go_wp2
      go_ret
      exact ⟨rfl, rfl⟩
  · have e : v = false := by rw [← hv]; simp [h1]
    subst e
    clear hv
    go_enter Tryd.func27, Tryd.ntmps27
    go_wp2
    go_ret
    exact ⟨rfl, rfl⟩
theorem kindL (r : Int) (w : World) : Calls Tryd.prog 28 #[.int .i32 r] w fun e w' => e = .returned (.bool (decide (97 ≤ r) && decide (r ≤ 122))) ∧ w = w' := by
  obtain ⟨v, hv⟩ : ∃ v, (decide (97 ≤ r) && decide (r ≤ 122)) = v := ⟨_, rfl⟩
  rw [hv]
  by_cases h1 : 97 ≤ r
  · by_cases h2 : r ≤ 122
    · have e : v = true := by rw [← hv]; simp [h1, h2]
      have h3 : decide (r ≤ 122) = true := by simp [h2]
      subst e
      clear hv
      go_enter Tryd.func28, Tryd.ntmps28
      go_wp2
      go_ret
      exact ⟨rfl, rfl⟩
    · have e : v = false := by rw [← hv]; simp [h2]
      have h3 : decide (r ≤ 122) = false := by simp [h2]
      subst e
      clear hv
      go_enter Tryd.func28, Tryd.ntmps28
      go_wp2
      go_ret
      exact ⟨rfl, rfl⟩
  · have e : v = false := by rw [← hv]; simp [h1]
    subst e
    clear hv
    go_enter Tryd.func28, Tryd.ntmps28
    go_wp2
    go_ret
    exact ⟨rfl, rfl⟩
theorem ret_sp {a b : List UInt8} (h : a = b) : Ending.returned (Value.string (ba a)) = Ending.returned (.string (ba b)) := by rw [h]
theorem take_of_span {q : UInt8 → Bool} {t : List UInt8} {n : Nat} (hn : n ≤ t.length) (h : spanP q t = t.take n) : (spanP q t).length = n := by rw [h, List.length_take]; omega

set_option maxHeartbeats 8000000 in
set_option maxRecDepth 100000 in
theorem frontB (g : Nat) (t : List UInt8) (w : World) (hb : Blk w g 39 [.string (ba t)]) :
    Calls Tryd.prog 24 #[.pointer (some ⟨g, 0, none⟩), .func (.func 25) #[] #[]] w fun e w' => e = .returned (.string (ba (spanP isBk t))) ∧ Blk w' g 39 [.string (ba (t.drop (spanP isBk t).length))] ∧ w.grownBy w' (some g) := by
  have hsz := ba_size
  have c0 := hb.cellAt (i := 0) rfl
  have HB := Lib.hid hb
  clear hb
  go_enter Tryd.func24, Tryd.ntmps24
  go_wp2
  go_loopw [5] (fun ev wr => ∃ pos : Nat, pos ≤ t.length ∧ ev = .int .i64 (t.length : Int) ∧ wr.heap[w.heap.size]? = some (.stringIter (ba t) pos) ∧ Below w.heap.size w wr ∧ spanP isBk t = t.take pos ++ spanP isBk (t.drop pos)) (fun _ wr => t.length - wr.iterPos w.heap.size)
  case atStart => exact ⟨0, Nat.zero_le _, rfl, World.iter_heap w (ba t) 0, (Below.refl _ w).alloc (Nat.le_refl _) _, rfl⟩
  case round =>
    obtain ⟨pos, hp, rfl, hit, hx, hs⟩ := hrel
    have HX := Lib.hid hx
    have HS := Lib.hid hs
    have hmeas : wr.iterPos w.heap.size = pos := by simp only [World.iterPos, hit]
    clear hx hs
    by_cases hlt : pos < t.length
    · have hpz : pos < (ba t).size := by rw [ba_size]; exact hlt
      obtain ⟨x, hxx⟩ : ∃ x, t[pos]? = some x := ⟨_, List.getElem?_eq_getElem hlt⟩
      have hxe : (ba t)[pos]'hpz = x := by rw [ba_get]; exact (List.getElem?_eq_some_iff.1 hxx).2
      have hdr : t.drop pos = x :: t.drop (pos + 1) := by rw [List.drop_eq_getElem_cons hlt, (List.getElem?_eq_some_iff.1 hxx).2]
      cases hq : isBk x with
      | true =>
        have ha : ((ba t)[pos]'hpz).toNat < 128 := by
          rw [hxe]
          have : x = 32 := by simpa [isBk] using hq
          subst this; decide
        have hnx : ∀ ty, (Instr.next (.pointer (some ⟨w.heap.size, 0, none⟩)) true ty).run Tryd.prog wr = .ok (.tuple #[.bool true, .int .i64 (pos : Int), .int .i32 (x.toNat : Int)]) (wr.iterAt w.heap.size (ba t) (pos + 1)) := fun ty => by
          rw [← hxe]
          exact Lib.run_next_ascii_at wr w.heap.size (ba t) pos ty hit hpz ha
        have hk := fun W => kindB (x.toNat : Int) W
        have hkv : decide ((x.toNat : Int) = 32) = true := by
          have : x = 32 := by simpa [isBk] using hq
          subst this; decide
        rw [hkv] at hk
        have HKd := Lib.hid hk
        have hit2 := Lib.iterAt_heap wr w.heap.size (ba t) pos (pos + 1) hit
        have hx2 := Lib.below_iterAt HX.out (Nat.le_refl _) (ba t) (pos + 1)
        have hsp : spanP isBk t = t.take (pos + 1) ++ spanP isBk (t.drop (pos + 1)) := by
          rw [HS.out, hdr, spanP_cons, hq, if_pos rfl, take_succ' hxx, List.append_assoc]
          rfl
        have HSp := Lib.hid hsp
        generalize wr.iterAt w.heap.size (ba t) (pos + 1) = w2 at *
        have HI2 := Lib.hid hit2
        have HX2 := Lib.hid hx2
        clear hk hkv hsp hq hdr hxe hxx hit2 hx2 ha
        go_wp2_with (go_at_call 25; (with_reducible refine (HKd.out _).mono ?_); rintro e w3 ⟨rfl, rfl⟩)
        go_roundw
        case rel => exact ⟨pos + 1, by omega, rfl, HI2.out, HX2.out, HSp.out⟩
        case measure => rw [hmeas]; have h9 := HI2.out; simp only [World.iterPos, h9]; omega
      | false =>
        have hsp : spanP isBk t = t.take pos := by rw [HS.out, hdr, spanP_nil hq, List.append_nil]
        have hln := take_of_span hp hsp
        have HLn := Lib.hid hln
        have HSp := Lib.hid hsp
        have hto := run_to_ba Tryd.underlying9 t .i64 pos pos rfl hp
        have hfrm := run_from_ba Tryd.underlying9 t .i64 pos pos rfl hp
        obtain ⟨r, wd, hnx, hrk⟩ : ∃ (r : Int) (wd : Nat), (∀ ty, (Instr.next (.pointer (some ⟨w.heap.size, 0, none⟩)) true ty).run Tryd.prog wr = .ok (.tuple #[.bool true, .int .i64 (pos : Int), .int .i32 r]) (wr.iterAt w.heap.size (ba t) wd)) ∧ (decide (r = 32)) = false := by
          by_cases ha : ((ba t)[pos]'hpz).toNat < 128
          · refine ⟨x.toNat, pos + 1, fun ty => ?_, ?_⟩
            · rw [← hxe]
              exact Lib.run_next_ascii_at wr w.heap.size (ba t) pos ty hit hpz ha
            · have h1 : x ≠ 32 := by simpa [isBk] using hq
              have h2 : x.toNat ≠ 32 := fun e => h1 (UInt8.toNat_inj.1 e)
              simp; omega
          · refine ⟨(Utf8.decode (ba t) pos).1, _, fun ty => Lib.run_next_any_at wr w.heap.size (ba t) pos ty hit hpz, ?_⟩
            have hd := (decode_high (ba t) pos hpz (by omega)).1
            simp
            omega
        have hk := fun W => kindB r W
        rw [hrk] at hk
        have HKd := Lib.hid hk
        have hx2 := Lib.below_iterAt HX.out (Nat.le_refl _) (ba t) wd
        generalize wr.iterAt w.heap.size (ba t) wd = w2 at *
        have HX2 := Lib.hid hx2
        have HB2 := Lib.hid (HB.out.through hx2)
        have c2 := HB2.out.cellAt (i := 0) rfl
        clear hk hrk hq hdr hxe hxx hx2 hsp hln hit hmeas
        go_wp2_with (first
          | (go_at_call 25; (with_reducible refine (HKd.out _).mono ?_); rintro e w3 ⟨rfl, rfl⟩)
          | (refine wpList_store_cell rfl 9 (.tmp 42) (.tmp 40) rfl g 0 (by simp [Act.eval]) (.string (ba (t.drop pos))) (by simp [Act.eval]) rfl rfl Tryd.size_str 39 [.string (ba t)] HB2.out (by simp) ?_; intro ws hbs hgs; have HBs : Hid (Blk ws g 39 [.string (ba (t.drop pos))]) := Lib.hid hbs; have HGs := Lib.hid hgs; clear hbs hgs))
        go_ret
        exact ⟨ret_sp HSp.out.symm, by rw [HLn.out]; exact HBs.out, only_trans (only_below HX2.out) HGs.out⟩
    · have hpe : pos = t.length := by omega
      have hsp : spanP isBk t = t := by rw [HS.out, hpe, List.drop_length, List.take_length]; simp [spanP]
      have hln : (spanP isBk t).length = t.length := by rw [hsp]
      have HLn := Lib.hid hln
      have HSp := Lib.hid hsp
      have hto := run_to_ba Tryd.underlying9 t .i64 t.length t.length rfl (Nat.le_refl _)
      rw [List.take_length] at hto
      have hfrm := run_from_ba Tryd.underlying9 t .i64 t.length t.length rfl (Nat.le_refl _)
      have hnx : ∀ ty, (Instr.next (.pointer (some ⟨w.heap.size, 0, none⟩)) true ty).run Tryd.prog wr = .ok (.tuple #[.bool false]) wr := fun ty => Lib.run_next_end_at wr w.heap.size (ba t) pos ty hit (by rw [ba_size]; omega)
      have HB2 := Lib.hid (HB.out.through HX.out)
      have c2 := HB2.out.cellAt (i := 0) rfl
      clear hsp hln hit hmeas hpe hlt hp
      go_wp2_with (first
        | (refine wpList_store_cell rfl 9 (.tmp 42) (.tmp 40) rfl g 0 (by simp [Act.eval]) (.string (ba (t.drop t.length))) (by simp [Act.eval]) rfl rfl Tryd.size_str 39 [.string (ba t)] HB2.out (by simp) ?_; intro ws hbs hgs; have HBs : Hid (Blk ws g 39 [.string (ba (t.drop t.length))]) := Lib.hid hbs; have HGs := Lib.hid hgs; clear hbs hgs))
      go_ret
      exact ⟨ret_sp HSp.out.symm, by rw [HLn.out]; exact HBs.out, only_trans (only_below HX.out) HGs.out⟩

set_option maxHeartbeats 8000000 in
set_option maxRecDepth 100000 in
theorem frontD (g : Nat) (t : List UInt8) (w : World) (hb : Blk w g 39 [.string (ba t)]) :
    Calls Tryd.prog 24 #[.pointer (some ⟨g, 0, none⟩), .func (.func 27) #[] #[]] w fun e w' => e = .returned (.string (ba (spanP isDg t))) ∧ Blk w' g 39 [.string (ba (t.drop (spanP isDg t).length))] ∧ w.grownBy w' (some g) := by
  have hsz := ba_size
  have c0 := hb.cellAt (i := 0) rfl
  have HB := Lib.hid hb
  clear hb
  go_enter Tryd.func24, Tryd.ntmps24
  go_wp2
  go_loopw [5] (fun ev wr => ∃ pos : Nat, pos ≤ t.length ∧ ev = .int .i64 (t.length : Int) ∧ wr.heap[w.heap.size]? = some (.stringIter (ba t) pos) ∧ Below w.heap.size w wr ∧ spanP isDg t = t.take pos ++ spanP isDg (t.drop pos)) (fun _ wr => t.length - wr.iterPos w.heap.size)
  case atStart => exact ⟨0, Nat.zero_le _, rfl, World.iter_heap w (ba t) 0, (Below.refl _ w).alloc (Nat.le_refl _) _, rfl⟩
  case round =>
    obtain ⟨pos, hp, rfl, hit, hx, hs⟩ := hrel
    have HX := Lib.hid hx
    have HS := Lib.hid hs
    have hmeas : wr.iterPos w.heap.size = pos := by simp only [World.iterPos, hit]
    clear hx hs
    by_cases hlt : pos < t.length
    · have hpz : pos < (ba t).size := by rw [ba_size]; exact hlt
      obtain ⟨x, hxx⟩ : ∃ x, t[pos]? = some x := ⟨_, List.getElem?_eq_getElem hlt⟩
      have hxe : (ba t)[pos]'hpz = x := by rw [ba_get]; exact (List.getElem?_eq_some_iff.1 hxx).2
      have hdr : t.drop pos = x :: t.drop (pos + 1) := by rw [List.drop_eq_getElem_cons hlt, (List.getElem?_eq_some_iff.1 hxx).2]
      cases hq : isDg x with
      | true =>
        have ha : ((ba t)[pos]'hpz).toNat < 128 := by
          rw [hxe]
          have := (isDg_iff x).1 hq; omega
        have hnx : ∀ ty, (Instr.next (.pointer (some ⟨w.heap.size, 0, none⟩)) true ty).run Tryd.prog wr = .ok (.tuple #[.bool true, .int .i64 (pos : Int), .int .i32 (x.toNat : Int)]) (wr.iterAt w.heap.size (ba t) (pos + 1)) := fun ty => by
          rw [← hxe]
          exact Lib.run_next_ascii_at wr w.heap.size (ba t) pos ty hit hpz ha
        have hk := fun W => kindD (x.toNat : Int) W
        have hkv : (decide (48 ≤ (x.toNat : Int)) && decide ((x.toNat : Int) ≤ 57)) = true := by
          have := (isDg_iff x).1 hq; simp; omega
        rw [hkv] at hk
        have HKd := Lib.hid hk
        have hit2 := Lib.iterAt_heap wr w.heap.size (ba t) pos (pos + 1) hit
        have hx2 := Lib.below_iterAt HX.out (Nat.le_refl _) (ba t) (pos + 1)
        have hsp : spanP isDg t = t.take (pos + 1) ++ spanP isDg (t.drop (pos + 1)) := by
          rw [HS.out, hdr, spanP_cons, hq, if_pos rfl, take_succ' hxx, List.append_assoc]
          rfl
        have HSp := Lib.hid hsp
        generalize wr.iterAt w.heap.size (ba t) (pos + 1) = w2 at *
        have HI2 := Lib.hid hit2
        have HX2 := Lib.hid hx2
        clear hk hkv hsp hq hdr hxe hxx hit2 hx2 ha
        go_wp2_with (go_at_call 27; (with_reducible refine (HKd.out _).mono ?_); rintro e w3 ⟨rfl, rfl⟩)
        go_roundw
        case rel => exact ⟨pos + 1, by omega, rfl, HI2.out, HX2.out, HSp.out⟩
        case measure => rw [hmeas]; have h9 := HI2.out; simp only [World.iterPos, h9]; omega
      | false =>
        have hsp : spanP isDg t = t.take pos := by rw [HS.out, hdr, spanP_nil hq, List.append_nil]
        have hln := take_of_span hp hsp
        have HLn := Lib.hid hln
        have HSp := Lib.hid hsp
        have hto := run_to_ba Tryd.underlying9 t .i64 pos pos rfl hp
        have hfrm := run_from_ba Tryd.underlying9 t .i64 pos pos rfl hp
        obtain ⟨r, wd, hnx, hrk⟩ : ∃ (r : Int) (wd : Nat), (∀ ty, (Instr.next (.pointer (some ⟨w.heap.size, 0, none⟩)) true ty).run Tryd.prog wr = .ok (.tuple #[.bool true, .int .i64 (pos : Int), .int .i32 r]) (wr.iterAt w.heap.size (ba t) wd)) ∧ (decide (48 ≤ r) && decide (r ≤ 57)) = false := by
          by_cases ha : ((ba t)[pos]'hpz).toNat < 128
          · refine ⟨x.toNat, pos + 1, fun ty => ?_, ?_⟩
            · rw [← hxe]
              exact Lib.run_next_ascii_at wr w.heap.size (ba t) pos ty hit hpz ha
            · have h1 : ¬ (48 ≤ x.toNat ∧ x.toNat ≤ 57) := fun h => by rw [(isDg_iff x).2 h] at hq; cases hq
              simp; omega
          · refine ⟨(Utf8.decode (ba t) pos).1, _, fun ty => Lib.run_next_any_at wr w.heap.size (ba t) pos ty hit hpz, ?_⟩
            have hd := (decode_high (ba t) pos hpz (by omega)).1
            simp
            omega
        have hk := fun W => kindD r W
        rw [hrk] at hk
        have HKd := Lib.hid hk
        have hx2 := Lib.below_iterAt HX.out (Nat.le_refl _) (ba t) wd
        generalize wr.iterAt w.heap.size (ba t) wd = w2 at *
        have HX2 := Lib.hid hx2
        have HB2 := Lib.hid (HB.out.through hx2)
        have c2 := HB2.out.cellAt (i := 0) rfl
        clear hk hrk hq hdr hxe hxx hx2 hsp hln hit hmeas
        go_wp2_with (first
          | (go_at_call 27; (with_reducible refine (HKd.out _).mono ?_); rintro e w3 ⟨rfl, rfl⟩)
          | (refine wpList_store_cell rfl 9 (.tmp 42) (.tmp 40) rfl g 0 (by simp [Act.eval]) (.string (ba (t.drop pos))) (by simp [Act.eval]) rfl rfl Tryd.size_str 39 [.string (ba t)] HB2.out (by simp) ?_; intro ws hbs hgs; have HBs : Hid (Blk ws g 39 [.string (ba (t.drop pos))]) := Lib.hid hbs; have HGs := Lib.hid hgs; clear hbs hgs))
        go_ret
        exact ⟨ret_sp HSp.out.symm, by rw [HLn.out]; exact HBs.out, only_trans (only_below HX2.out) HGs.out⟩
    · have hpe : pos = t.length := by omega
      have hsp : spanP isDg t = t := by rw [HS.out, hpe, List.drop_length, List.take_length]; simp [spanP]
      have hln : (spanP isDg t).length = t.length := by rw [hsp]
      have HLn := Lib.hid hln
      have HSp := Lib.hid hsp
      have hto := run_to_ba Tryd.underlying9 t .i64 t.length t.length rfl (Nat.le_refl _)
      rw [List.take_length] at hto
      have hfrm := run_from_ba Tryd.underlying9 t .i64 t.length t.length rfl (Nat.le_refl _)
      have hnx : ∀ ty, (Instr.next (.pointer (some ⟨w.heap.size, 0, none⟩)) true ty).run Tryd.prog wr = .ok (.tuple #[.bool false]) wr := fun ty => Lib.run_next_end_at wr w.heap.size (ba t) pos ty hit (by rw [ba_size]; omega)
      have HB2 := Lib.hid (HB.out.through HX.out)
      have c2 := HB2.out.cellAt (i := 0) rfl
      clear hsp hln hit hmeas hpe hlt hp
      go_wp2_with (first
        | (refine wpList_store_cell rfl 9 (.tmp 42) (.tmp 40) rfl g 0 (by simp [Act.eval]) (.string (ba (t.drop t.length))) (by simp [Act.eval]) rfl rfl Tryd.size_str 39 [.string (ba t)] HB2.out (by simp) ?_; intro ws hbs hgs; have HBs : Hid (Blk ws g 39 [.string (ba (t.drop t.length))]) := Lib.hid hbs; have HGs := Lib.hid hgs; clear hbs hgs))
      go_ret
      exact ⟨ret_sp HSp.out.symm, by rw [HLn.out]; exact HBs.out, only_trans (only_below HX.out) HGs.out⟩

set_option maxHeartbeats 8000000 in
set_option maxRecDepth 100000 in
theorem frontL (g : Nat) (t : List UInt8) (w : World) (hb : Blk w g 39 [.string (ba t)]) :
    Calls Tryd.prog 24 #[.pointer (some ⟨g, 0, none⟩), .func (.func 28) #[] #[]] w fun e w' => e = .returned (.string (ba (spanP isLt t))) ∧ Blk w' g 39 [.string (ba (t.drop (spanP isLt t).length))] ∧ w.grownBy w' (some g) := by
  have hsz := ba_size
  have c0 := hb.cellAt (i := 0) rfl
  have HB := Lib.hid hb
  clear hb
  go_enter Tryd.func24, Tryd.ntmps24
  go_wp2
  go_loopw [5] (fun ev wr => ∃ pos : Nat, pos ≤ t.length ∧ ev = .int .i64 (t.length : Int) ∧ wr.heap[w.heap.size]? = some (.stringIter (ba t) pos) ∧ Below w.heap.size w wr ∧ spanP isLt t = t.take pos ++ spanP isLt (t.drop pos)) (fun _ wr => t.length - wr.iterPos w.heap.size)
  case atStart => exact ⟨0, Nat.zero_le _, rfl, World.iter_heap w (ba t) 0, (Below.refl _ w).alloc (Nat.le_refl _) _, rfl⟩
  case round =>
    obtain ⟨pos, hp, rfl, hit, hx, hs⟩ := hrel
    have HX := Lib.hid hx
    have HS := Lib.hid hs
    have hmeas : wr.iterPos w.heap.size = pos := by simp only [World.iterPos, hit]
    clear hx hs
    by_cases hlt : pos < t.length
    · have hpz : pos < (ba t).size := by rw [ba_size]; exact hlt
      obtain ⟨x, hxx⟩ : ∃ x, t[pos]? = some x := ⟨_, List.getElem?_eq_getElem hlt⟩
      have hxe : (ba t)[pos]'hpz = x := by rw [ba_get]; exact (List.getElem?_eq_some_iff.1 hxx).2
      have hdr : t.drop pos = x :: t.drop (pos + 1) := by rw [List.drop_eq_getElem_cons hlt, (List.getElem?_eq_some_iff.1 hxx).2]
      cases hq : isLt x with
      | true =>
        have ha : ((ba t)[pos]'hpz).toNat < 128 := by
          rw [hxe]
          have : 97 ≤ x.toNat ∧ x.toNat ≤ 122 := by simpa [isLt] using hq
          omega
        have hnx : ∀ ty, (Instr.next (.pointer (some ⟨w.heap.size, 0, none⟩)) true ty).run Tryd.prog wr = .ok (.tuple #[.bool true, .int .i64 (pos : Int), .int .i32 (x.toNat : Int)]) (wr.iterAt w.heap.size (ba t) (pos + 1)) := fun ty => by
          rw [← hxe]
          exact Lib.run_next_ascii_at wr w.heap.size (ba t) pos ty hit hpz ha
        have hk := fun W => kindL (x.toNat : Int) W
        have hkv : (decide (97 ≤ (x.toNat : Int)) && decide ((x.toNat : Int) ≤ 122)) = true := by
          have : 97 ≤ x.toNat ∧ x.toNat ≤ 122 := by simpa [isLt] using hq
          simp; omega
        rw [hkv] at hk
        have HKd := Lib.hid hk
        have hit2 := Lib.iterAt_heap wr w.heap.size (ba t) pos (pos + 1) hit
        have hx2 := Lib.below_iterAt HX.out (Nat.le_refl _) (ba t) (pos + 1)
        have hsp : spanP isLt t = t.take (pos + 1) ++ spanP isLt (t.drop (pos + 1)) := by
          rw [HS.out, hdr, spanP_cons, hq, if_pos rfl, take_succ' hxx, List.append_assoc]
          rfl
        have HSp := Lib.hid hsp
        generalize wr.iterAt w.heap.size (ba t) (pos + 1) = w2 at *
        have HI2 := Lib.hid hit2
        have HX2 := Lib.hid hx2
        clear hk hkv hsp hq hdr hxe hxx hit2 hx2 ha
        go_wp2_with (go_at_call 28; (with_reducible refine (HKd.out _).mono ?_); rintro e w3 ⟨rfl, rfl⟩)
        go_roundw
        case rel => exact ⟨pos + 1, by omega, rfl, HI2.out, HX2.out, HSp.out⟩
        case measure => rw [hmeas]; have h9 := HI2.out; simp only [World.iterPos, h9]; omega
      | false =>
        have hsp : spanP isLt t = t.take pos := by rw [HS.out, hdr, spanP_nil hq, List.append_nil]
        have hln := take_of_span hp hsp
        have HLn := Lib.hid hln
        have HSp := Lib.hid hsp
        have hto := run_to_ba Tryd.underlying9 t .i64 pos pos rfl hp
        have hfrm := run_from_ba Tryd.underlying9 t .i64 pos pos rfl hp
        obtain ⟨r, wd, hnx, hrk⟩ : ∃ (r : Int) (wd : Nat), (∀ ty, (Instr.next (.pointer (some ⟨w.heap.size, 0, none⟩)) true ty).run Tryd.prog wr = .ok (.tuple #[.bool true, .int .i64 (pos : Int), .int .i32 r]) (wr.iterAt w.heap.size (ba t) wd)) ∧ (decide (97 ≤ r) && decide (r ≤ 122)) = false := by
          by_cases ha : ((ba t)[pos]'hpz).toNat < 128
          · refine ⟨x.toNat, pos + 1, fun ty => ?_, ?_⟩
            · rw [← hxe]
              exact Lib.run_next_ascii_at wr w.heap.size (ba t) pos ty hit hpz ha
            · have h1 : ¬ (97 ≤ x.toNat ∧ x.toNat ≤ 122) := fun h => by simp [isLt] at hq; omega
              simp; omega
          · refine ⟨(Utf8.decode (ba t) pos).1, _, fun ty => Lib.run_next_any_at wr w.heap.size (ba t) pos ty hit hpz, ?_⟩
            have hd := (decode_high (ba t) pos hpz (by omega)).1
            simp
            omega
        have hk := fun W => kindL r W
        rw [hrk] at hk
        have HKd := Lib.hid hk
        have hx2 := Lib.below_iterAt HX.out (Nat.le_refl _) (ba t) wd
        generalize wr.iterAt w.heap.size (ba t) wd = w2 at *
        have HX2 := Lib.hid hx2
        have HB2 := Lib.hid (HB.out.through hx2)
        have c2 := HB2.out.cellAt (i := 0) rfl
        clear hk hrk hq hdr hxe hxx hx2 hsp hln hit hmeas
        go_wp2_with (first
          | (go_at_call 28; (with_reducible refine (HKd.out _).mono ?_); rintro e w3 ⟨rfl, rfl⟩)
          | (refine wpList_store_cell rfl 9 (.tmp 42) (.tmp 40) rfl g 0 (by simp [Act.eval]) (.string (ba (t.drop pos))) (by simp [Act.eval]) rfl rfl Tryd.size_str 39 [.string (ba t)] HB2.out (by simp) ?_; intro ws hbs hgs; have HBs : Hid (Blk ws g 39 [.string (ba (t.drop pos))]) := Lib.hid hbs; have HGs := Lib.hid hgs; clear hbs hgs))
        go_ret
        exact ⟨ret_sp HSp.out.symm, by rw [HLn.out]; exact HBs.out, only_trans (only_below HX2.out) HGs.out⟩
    · have hpe : pos = t.length := by omega
      have hsp : spanP isLt t = t := by rw [HS.out, hpe, List.drop_length, List.take_length]; simp [spanP]
      have hln : (spanP isLt t).length = t.length := by rw [hsp]
      have HLn := Lib.hid hln
      have HSp := Lib.hid hsp
      have hto := run_to_ba Tryd.underlying9 t .i64 t.length t.length rfl (Nat.le_refl _)
      rw [List.take_length] at hto
      have hfrm := run_from_ba Tryd.underlying9 t .i64 t.length t.length rfl (Nat.le_refl _)
      have hnx : ∀ ty, (Instr.next (.pointer (some ⟨w.heap.size, 0, none⟩)) true ty).run Tryd.prog wr = .ok (.tuple #[.bool false]) wr := fun ty => Lib.run_next_end_at wr w.heap.size (ba t) pos ty hit (by rw [ba_size]; omega)
      have HB2 := Lib.hid (HB.out.through HX.out)
      have c2 := HB2.out.cellAt (i := 0) rfl
      clear hsp hln hit hmeas hpe hlt hp
      go_wp2_with (first
        | (refine wpList_store_cell rfl 9 (.tmp 42) (.tmp 40) rfl g 0 (by simp [Act.eval]) (.string (ba (t.drop t.length))) (by simp [Act.eval]) rfl rfl Tryd.size_str 39 [.string (ba t)] HB2.out (by simp) ?_; intro ws hbs hgs; have HBs : Hid (Blk ws g 39 [.string (ba (t.drop t.length))]) := Lib.hid hbs; have HGs := Lib.hid hgs; clear hbs hgs))
      go_ret
      exact ⟨ret_sp HSp.out.symm, by rw [HLn.out]; exact HBs.out, only_trans (only_below HX.out) HGs.out⟩

end Go.Proofs.YtnpobhgecfjfgaaDoor
