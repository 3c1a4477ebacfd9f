/-
  The document's constants: the two tables.
-/
import Derived.Test.YtolildehdibpbaaDoorWd
import Derived.Test.YtolildehdibpbaaDoorRoot2
import Derived.Outline
namespace Go.Proofs.YtolildehdibpbaaDoor
open Go.RowKit

def kP : Nat → List UInt32
  | 0 => []
  | p + 1 => if primeF p then kP p ++ [rootF p true] else kP p
def hP : Nat → List UInt32
  | 0 => []
  | p + 1 => if primeF p then (if (hP p).length < 8 then hP p ++ [rootF p false] else hP p) else hP p
theorem kP_mono (p q : Nat) (h : p ≤ q) : (kP p).length ≤ (kP q).length := by
  induction q with
  | zero =>
    obtain rfl : p = 0 := by omega
    exact Nat.le_refl _
  | succ q ih =>
    by_cases e : p = q + 1
    · subst e; exact Nat.le_refl _
    · have := ih (by omega)
      rw [kP]
      split
      · rw [List.length_append]; omega
      · exact this
theorem kP_311 : (kP 311).length = 63 := by decide +kernel
theorem kP_312 : kP 312 = kTab := by decide +kernel
theorem hP_312 : hP 312 = first8.list := by decide +kernel
theorem hP_le (p : Nat) : (hP p).length ≤ 8 := by
  induction p with
  | zero => exact Nat.zero_le _
  | succ p ih =>
    rw [hP]
    split
    · split
      · rw [List.length_append]; simp; omega
      · exact ih
    · exact ih

abbrev OwnW (w : World) (base : Nat) (v : Value) (n : Nat) (ws : List UInt32) : Prop := w.ownsRow base 46 1 v n (cw ws)
theorem const_k {w wr wk : World} {o : Obj} {vk vh : Value} {nk nh nk' gk c : Nat} {K H K' : List UInt32} (hk : OwnW wr w.heap.size vk nk K) (hh : OwnW wr w.heap.size vh nh H) (hsep : ∀ g, vk.ownBlock = some g → vh.ownBlock ≠ some g) (hx : Below w.heap.size w wr)
    (hok : OwnW wk w.heap.size (.slice (some ⟨gk, 0, none⟩) nk' c) nk' K') (hgk : (wr.alloc o).grownBy wk vk.ownBlock) (hwk : vk.ownBlock = some gk ∨ gk = (wr.alloc o).heap.size) :
    OwnW wk w.heap.size (.slice (some ⟨gk, 0, none⟩) nk' c) nk' K' ∧ OwnW wk w.heap.size vh nh H ∧ (∀ g, (Value.slice (some ⟨gk, 0, none⟩) nk' c).ownBlock = some g → vh.ownBlock ≠ some g) ∧ Below w.heap.size w wk := by
  refine ⟨hok, own_keep (hh.alloc _) hgk (fun g hg e => hsep g e hg), fun g hg e => ?_, (hx.alloc hx.size _).grown hgk (Nat.le_trans hx.size (by simp)) (fun g hg => (hk.lt g hg).1)⟩
  have hgg : gk = g := by simpa [Value.ownBlock] using hg
  subst hgg
  rcases hwk with h | h
  · exact hsep gk h e
  · have := (hh.lt gk e).2
    simp at h
    omega
theorem const_h {w wk wh : World} {o : Obj} {vh : Value} {nk nh nh' gk gh c c' : Nat} {K H H' : List UInt32} (hk : OwnW wk w.heap.size (.slice (some ⟨gk, 0, none⟩) nk c) nk K) (hh : OwnW wk w.heap.size vh nh H) (hsep : ∀ g, (Value.slice (some ⟨gk, 0, none⟩) nk c).ownBlock = some g → vh.ownBlock ≠ some g) (hx : Below w.heap.size w wk)
    (hoh : OwnW wh w.heap.size (.slice (some ⟨gh, 0, none⟩) nh' c') nh' H') (hgh : (wk.alloc o).grownBy wh vh.ownBlock) (hwh : vh.ownBlock = some gh ∨ gh = (wk.alloc o).heap.size) :
    OwnW wh w.heap.size (.slice (some ⟨gk, 0, none⟩) nk c) nk K ∧ OwnW wh w.heap.size (.slice (some ⟨gh, 0, none⟩) nh' c') nh' H' ∧ (∀ g, (Value.slice (some ⟨gk, 0, none⟩) nk c).ownBlock = some g → (Value.slice (some ⟨gh, 0, none⟩) nh' c').ownBlock ≠ some g) ∧ Below w.heap.size w wh := by
  refine ⟨own_keep (hk.alloc _) hgh (fun g hg e => hsep g hg e), hoh, fun g hg e => ?_, (hx.alloc hx.size _).grown hgh (Nat.le_trans hx.size (by simp)) (fun g hg => (hh.lt g hg).1)⟩
  have h1 : gk = g := by simpa [Value.ownBlock] using hg
  have h2 : gh = g := by simpa [Value.ownBlock] using e
  subst h1; subst h2
  rcases hwh with h | h
  · exact hsep gh rfl h
  · have := (hk.lt gh rfl).2
    simp at h
    omega

set_option maxHeartbeats 2000000 in
set_option maxRecDepth 100000 in
theorem constants_any (w : World) :
    Calls Tryd.prog 29 #[] w fun e w' => ∃ Ak ck Ah ch, e = .returned (.tuple #[.slice Ak 64 ck, .slice Ah 8 ch]) ∧ Wd w' (fun g => w.heap.size ≤ g) Ak 64 kTab ∧ Wd w' (fun g => w.heap.size ≤ g) Ah 8 first8.list ∧ Below w.heap.size w w' := by
  obtain ⟨i0, hi, hz0, hz1, hz2⟩ := info_parts Tryd.info_u32
  go_enter Tryd.func29, Tryd.ntmps29
  go_wp2
  go_loopw [2, 3, 4] (fun k h pv wr => ∃ (p nk nh : Nat) (Ak Ah : Option Addr) (ck ch : Nat), 2 ≤ p ∧ p ≤ 312 ∧ pv = .int .u64 (p : Int) ∧ k = .slice Ak nk ck ∧ h = .slice Ah nh ch ∧ nk = (kP p).length ∧ nh = (hP p).length ∧
    wr.ownsRow w.heap.size 46 1 (.slice Ak nk ck) nk (cw (kP p)) ∧ wr.ownsRow w.heap.size 46 1 (.slice Ah nh ch) nh (cw (hP p)) ∧ (∀ g, (Value.slice Ak nk ck).ownBlock = some g → (Value.slice Ah nh ch).ownBlock ≠ some g) ∧ Below w.heap.size w wr) (fun _ _ pv _ => 312 - (intOf pv).toNat)
  case atStart => exact ⟨2, 0, 0, none, none, 0, 0, by omega, by omega, rfl, rfl, rfl, rfl, rfl, World.ownsRow_nil _ _ _ _, World.ownsRow_nil _ _ _ _, fun g h => by simp [Value.ownBlock] at h, Below.refl _ _⟩
  case round =>
    obtain ⟨p, nk, nh, Ak, Ah, ck, ch, hp2, hp, rfl, rfl, rfl, hnk, hnh, hk, hh, hsep, hx⟩ := hrel
    by_cases h312 : p = 312
    · subst h312
      rw [kP_312] at hnk hk
      rw [hP_312] at hnh hh
      have e1 : nk = 64 := hnk
      have e2 : nh = 8 := hnh
      subst e1; subst e2
      have HK := Lib.hid hk
      have HH := Lib.hid hh
      have HX := Lib.hid hx
      clear hk hh hx hnk hnh hsep
      go_wp2
      go_ret2
      exact ⟨Ak, ck, Ah, ch, rfl, (Wd.of_own HK.out).weak fun _ h => h.1, (Wd.of_own HH.out).weak fun _ h => h.1, HX.out⟩
    · have hp1 : p ≤ 311 := by omega
      have hk64 : nk < 64 := by
        have := kP_mono p 311 hp1
        rw [kP_311] at this
        omega
      have hh8 : nh ≤ 8 := by rw [hnh]; exact hP_le p
      have HPr := Lib.hid (fun w => prime_any p (by omega) w)
      have HRt := Lib.hid (fun w => root_any p true (by omega) w)
      have HRf := Lib.hid (fun w => root_any p false (by omega) w)
      have hkn : kP (p + 1) = if primeF p then kP p ++ [rootF p true] else kP p := rfl
      have hhn : hP (p + 1) = if primeF p then (if (hP p).length < 8 then hP p ++ [rootF p false] else hP p) else hP p := rfl
      rw [← hnh] at hhn
      have HNk := Lib.hid hnk
      have HNh := Lib.hid hnh
      have HK := Lib.hid hk
      have HH := Lib.hid hh
      have HX := Lib.hid hx
      have HSep := Lib.hid hsep
      clear h312 hk hh hx hsep hnk hnh
      cases hpr : primeF p
      · rw [hpr, if_neg (by decide)] at hkn hhn
        have HKn := Lib.hid hkn
        have HHn := Lib.hid hhn
        have HPr2 : Hid (∀ w, Calls Tryd.prog 45 #[.int .u64 (p : Int)] w fun e w' => e = .returned (.bool false) ∧ w = w') := Lib.hid (by rw [← hpr]; exact HPr.out)
        clear hkn hhn hpr
        go_wp2_with (go_at_call 45; refine (HPr2.out _).mono ?_; rintro e w' ⟨rfl, rfl⟩)
        go_roundw
        case rel => exact ⟨p + 1, nk, nh, Ak, Ah, ck, ch, by omega, by omega, by go_num, rfl, rfl, by rw [HKn.out]; exact HNk.out, by rw [HHn.out]; exact HNh.out, by rw [HKn.out]; exact HK.out, by rw [HHn.out]; exact HH.out, HSep.out, HX.out⟩
        case measure => simp [intOf]; omega
      · rw [hpr, if_pos rfl] at hkn hhn
        have HKn := Lib.hid hkn
        have HPr2 : Hid (∀ w, Calls Tryd.prog 45 #[.int .u64 (p : Int)] w fun e w' => e = .returned (.bool true) ∧ w = w') := Lib.hid (by rw [← hpr]; exact HPr.out)
        clear hkn hpr
        by_cases h8 : nh < 8
        · rw [if_pos h8] at hhn
          have HHn := Lib.hid hhn
          clear hhn
          go_wp2_with (first
            | (go_at_call 45; refine (HPr2.out _).mono ?_; rintro e w' ⟨rfl, rfl⟩)
            | (go_at_call 46; (with_reducible refine (HRt.out _).mono ?_); rintro e w' ⟨rfl, rfl⟩)
            | (go_at_call 46; (with_reducible refine (HRf.out _).mono ?_); rintro e w' ⟨rfl, rfl⟩)
            | (at_builtin; refine wpList_append_w rfl (.tmp 13) (.tmp 16) 52 rfl w.heap.size i0 Tryd.underlying52 hi hz0 hz1 hz2 (.slice Ak nk ck) nk (kP p) rfl (HK.out.alloc _) wr.heap.size 1 (rootF p true) rfl (Blk.new_cell _ _ _) (by omega) (by have := HX.out.size; simp; omega) ?_; intro gk ck2 wk hok hgk hwk hck1 hck2; have HU := Lib.hid (const_k HK.out HH.out HSep.out HX.out hok hgk hwk); clear hgk hwk)
            | (at_builtin; refine wpList_append_w rfl (.tmp 21) (.tmp 24) 52 rfl w.heap.size i0 Tryd.underlying52 hi hz0 hz1 hz2 (.slice Ah nh ch) nh (hP p) rfl (HU.out.2.1.alloc _) wk.heap.size 1 (rootF p false) rfl (Blk.new_cell _ _ _) (by omega) (by have := HU.out.2.2.2.size; simp; omega) ?_; intro gh ch2 wh hoh hgh hwh hch1 hch2; have HU2 := Lib.hid (const_h HU.out.1 HU.out.2.1 HU.out.2.2.1 HU.out.2.2.2 hoh hgh hwh); clear hgh hwh))
          go_roundw
          case rel => exact ⟨p + 1, nk + 1, nh + 1, some ⟨gk, 0, none⟩, some ⟨gh, 0, none⟩, ck2, ch2, by omega, by omega, by go_num, rfl, rfl, by rw [HKn.out, List.length_append, HNk.out]; rfl, by rw [HHn.out, List.length_append, HNh.out]; rfl, by rw [HKn.out]; exact HU2.out.1, by rw [HHn.out]; exact HU2.out.2.1, HU2.out.2.2.1, HU2.out.2.2.2⟩
          case measure => simp [intOf]; omega
        · rw [if_neg h8] at hhn
          have HHn := Lib.hid hhn
          clear hhn
          go_wp2_with (first
            | (go_at_call 45; refine (HPr2.out _).mono ?_; rintro e w' ⟨rfl, rfl⟩)
            | (go_at_call 46; (with_reducible refine (HRt.out _).mono ?_); rintro e w' ⟨rfl, rfl⟩)
            | (go_at_call 46; (with_reducible refine (HRf.out _).mono ?_); rintro e w' ⟨rfl, rfl⟩)
            | (at_builtin; refine wpList_append_w rfl (.tmp 13) (.tmp 16) 52 rfl w.heap.size i0 Tryd.underlying52 hi hz0 hz1 hz2 (.slice Ak nk ck) nk (kP p) rfl (HK.out.alloc _) wr.heap.size 1 (rootF p true) rfl (Blk.new_cell _ _ _) (by omega) (by have := HX.out.size; simp; omega) ?_; intro gk ck2 wk hok hgk hwk hck1 hck2; have HU := Lib.hid (const_k HK.out HH.out HSep.out HX.out hok hgk hwk); clear hgk hwk))
          go_roundw
          case rel => exact ⟨p + 1, nk + 1, nh, some ⟨gk, 0, none⟩, Ah, ck2, ch, by omega, by omega, by go_num, rfl, rfl, by rw [HKn.out, List.length_append, HNk.out]; rfl, by rw [HHn.out]; exact HNh.out, by rw [HKn.out]; exact HU.out.1, by rw [HHn.out]; exact HU.out.2.1, HU.out.2.2.1, HU.out.2.2.2⟩
          case measure => simp [intOf]; omega

end Go.Proofs.YtolildehdibpbaaDoor
