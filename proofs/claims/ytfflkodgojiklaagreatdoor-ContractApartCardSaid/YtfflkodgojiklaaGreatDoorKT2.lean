/-
  Joined: RDig PA PN PFr PHow PRun PK PPol PPar.
-/
import Derived.Deep.RegionWith
import Derived.Lib.AppendStr
import Derived.OwnWalk
import Derived.Lib.BufferKept
import Derived.Lib.OthersKept
import Derived.Laws.RangeAny
import Derived.Test.YtfflkodgojiklaaGreatDoorKT1
import Derived.Test.YtfflkodgojiklaaGreatDoorTShelf
namespace Go.Proofs.YtfflkodgojiklaaGreatDoor

section
open Go.RowKit
theorem dg_byte (n : Nat) (h : n < 10) : ((dg n).toNat : Int) = 48 + (n : Int) := by
  have : ∀ m : Fin 10, (dg m.val).toNat = 48 + m.val := by decide
  have h2 := this ⟨n, h⟩
  simp only at h2
  omega
theorem str_at {w : World} {g : Nat} {x : UInt8} (hB : Blk w g 5 [.int .u8 (x.toNat : Int)]) : (Go.convert 151 9 (.slice (some ⟨g, 0, none⟩) 1 1)).run Tryz.prog w = .ok (.string (ba [x])) w := by
  refine run_convert_bytes_back (P := Tryz.prog) _ 151 9 5 ⟨g, 0, none⟩ 1 [x] Tryz.underlying151 Tryz.underlying5 Tryz.underlying9 (fun j hj => ?_)
  match j, hj with
  | 0, _ => exact hB.cellAt rfl
theorem str_one (w : World) (x : UInt8) : (Go.convert 151 9 (.slice (some ⟨w.heap.size, 0, none⟩) 1 1)).run Tryz.prog (w.alloc (.cells #[.int .u8 (x.toNat : Int)] 5)) = .ok (.string (ba [x])) (w.alloc (.cells #[.int .u8 (x.toNat : Int)] 5)) := by
  refine run_convert_bytes_back (P := Tryz.prog) _ 151 9 5 ⟨w.heap.size, 0, none⟩ 1 [x] Tryz.underlying151 Tryz.underlying5 Tryz.underlying9 (fun j hj => ?_)
  have hB : Blk (w.alloc (.cells #[.int .u8 (x.toNat : Int)] 5)) w.heap.size 5 [.int .u8 (x.toNat : Int)] := Blk.fresh rfl rfl
  match j, hj with
  | 0, _ => exact hB.cellAt rfl

theorem ba_append (a b : List UInt8) : ba a ++ ba b = ba (a ++ b) := by
  apply ByteArray.ext
  simp [ba]
end

section
open Go.RowKit
/-- Bytes, as cells. -/
def vb (l : List UInt8) : List Value := Lib.byteCells l
theorem vb_append (a b : List UInt8) : vb (a ++ b) = vb a ++ vb b := by simp [vb, Lib.byteCells]
theorem vb_length (a : List UInt8) : (vb a).length = a.length := by simp [vb, Lib.byteCells]
/-- v is the call's own slice of these bytes. -/
def Bs (w : World) (B : Nat) (v : Value) (l : List UInt8) : Prop := w.ownsRow B 5 1 v l.length (vb l)
theorem Bs.nil (w : World) (B : Nat) : Bs w B (.slice none 0 0) [] := World.ownsRow_nil w _ _ _
theorem Bs.alloc {w : World} {B : Nat} {v : Value} {l : List UInt8} (h : Bs w B v l) (o : Obj) : Bs (w.alloc o) B v l := World.ownsRow.alloc h o
/-- What lies below B stands; and whatever is no row of bytes. -/
structure Fr (B : Nat) (w w' : World) : Prop where
  below : Below B w w'
  kept : Lib.OthersKept 5 none w w'
section
variable {B : Nat} {a w w' : World}
theorem Fr.refl (B : Nat) (w : World) : Fr B w w := ⟨Below.refl _ w, Lib.OthersKept.refl _ _ w⟩
theorem Fr.trans {c : World} (h : Fr B a w) (k : Fr B w c) : Fr B a c := ⟨h.below.trans k.below, h.kept.trans k.kept⟩
theorem Fr.alloc (h : Fr B a w) (hB : B ≤ w.heap.size) (o : Obj) : Fr B a (w.alloc o) := ⟨h.below.alloc hB o, h.kept.alloc o⟩
theorem Fr.grown {v : Value} {n : Nat} {xs : List Value} (h : Fr B a w) (ho : w.ownsRow B 5 1 v n xs) (hg : w.grownBy w' v.ownBlock) (hB : B ≤ w.heap.size) : Fr B a w' :=
  ⟨h.below.grown hg hB (fun k hk => (World.ownsRow.lt ho k hk).1), h.kept.grown hg fun g hgb => by
    rcases ho.2 with ⟨rfl, _⟩ | ⟨g', cap, cur, rfl, _, hgg, _⟩
    · simp [Value.ownBlock] at hgb
    · simp [Value.ownBlock] at hgb
      subst hgb
      exact ⟨cur, (0, 0), hgg⟩⟩
theorem Fr.blk {g : Nat} {t : TypeId} {cs : List Value} (h : Fr B w w') (hb : Blk w g t cs) (ht : t ≠ 5) : Blk w' g t cs :=
  h.kept g _ hb (by simp) (fun c fz e => by injection e with _ e2 _; exact ht e2)
end
theorem strCells_ba (l : List UInt8) : Lib.strCells (ba l) = vb l := by
  unfold Lib.strCells vb Lib.byteCells ba
  simp
end

section
open Go.RowKit
/-- The variable ErrSyntax holds an error. -/
def EV (w : World) : Prop := ∃ te pe, w.cell? ⟨1, 0, none⟩ = some (.iface te pe)
theorem EV.lt {w : World} (h : EV w) : 1 < w.heap.size := by
  obtain ⟨te, pe, h⟩ := h
  exact World.block_lt_of_cell? w ⟨1, 0, none⟩ h
theorem EV.through {w w' : World} (h : EV w) (hb : Below w.heap.size w w') : EV w' := by
  have hl := h.lt
  obtain ⟨te, pe, h⟩ := h
  exact ⟨te, pe, (World.cell?_of_block (a := ⟨1, 0, none⟩) (hb.block _ hl)).trans h⟩
theorem EV.only {w w' : World} {g : Nat} (h : EV w) (hb : w.grownBy w' (some g)) (hg : g ≠ 1) : EV w' := by
  have hl := h.lt
  obtain ⟨te, pe, h⟩ := h
  exact ⟨te, pe, (World.cell?_of_block (a := ⟨1, 0, none⟩) (hb.block _ hl (fun e => hg (Option.some.inj e).symm))).trans h⟩
theorem EV.alloc {w : World} (h : EV w) (o : Obj) : EV (w.alloc o) := h.through ((Below.refl _ w).alloc (Nat.le_refl _) o)

theorem decFrom_val : ∀ (l : List UInt8) (v : Nat), (∀ x, x ∈ l → isDg x = true) → Lib.decFrom v l = some (valP v l)
  | [], _, _ => rfl
  | x :: l, v, h => by
    have hx := (isDg_iff x).1 (h x (by simp))
    have e : Lib.digitVal x = some (x.toNat - 48) := by unfold Lib.digitVal; rw [if_pos hx]
    show (match Lib.digitVal x with | some d => Lib.decFrom (v * 10 + d) l | none => none) = _
    rw [e]
    exact decFrom_val l _ (fun y hy => h y (by simp [hy]))
theorem atoi_val {d : List UInt8} (h : ∀ x, x ∈ d → isDg x = true) (hne : d ≠ []) : Lib.atoi d = some ((valP 0 d : Nat) : Int) := by
  cases d with
  | nil => exact absurd rfl hne
  | cons x l =>
    have hx := (isDg_iff x).1 (h x (by simp))
    have h1 : (x == 45) = false := by
      rw [beq_eq_false_iff_ne]
      rintro rfl
      exact absurd hx.1 (by decide)
    have h2 : (x == 43) = false := by
      rw [beq_eq_false_iff_ne]
      rintro rfl
      exact absurd hx.1 (by decide)
    show (if (x == 45) = true then Option.map (fun (m : Nat) => -(m : Int)) (Lib.decNat l) else if (x == 43) = true then Option.map (fun (m : Nat) => (m : Int)) (Lib.decNat l) else Option.map (fun (m : Nat) => (m : Int)) (Lib.decNat (x :: l))) = _
    rw [h1, h2, if_neg (by simp), if_neg (by simp)]
    unfold Lib.decNat
    rw [List.isEmpty_cons, if_neg (by simp), decFrom_val _ _ h]
    rfl
def numDV (d : List UInt8) : Int := match numD d with | none => 0 | some v => (v : Int)
theorem numD_lt {d : List UInt8} {v : Nat} (h : ∀ x, x ∈ d → isDg x = true) (hd : numD d = some v) : v ≤ 9999 := by
  unfold numD at hd
  split at hd
  · cases hd
  · rename_i hn
    have e := Option.some.inj hd
    rw [← e]
    exact valP_4 h (by omega)

theorem ret_numD {d : List UInt8} {v : Int} {o : Bool} (h : numDV d = v ∧ (numD d).isSome = o) : Ending.returned (Value.tuple #[.int .i64 v, .bool o]) = Ending.returned (.tuple #[.int .i64 (numDV d), .bool (numD d).isSome]) := by
  obtain ⟨rfl, rfl⟩ := h
  rfl
theorem numD_bad {d : List UInt8} (h : d.length = 0 ∨ 4 < d.length ∨ (1 < d.length ∧ d.head? = some 48)) : numDV d = 0 ∧ (numD d).isSome = false := by
  have : numD d = none := by unfold numD; rw [if_pos h]
  unfold numDV
  rw [this]
  exact ⟨rfl, rfl⟩
theorem numD_good {d : List UInt8} (h : ¬ (d.length = 0 ∨ 4 < d.length ∨ (1 < d.length ∧ d.head? = some 48))) : numDV d = ((valP 0 d : Nat) : Int) ∧ (numD d).isSome = true := by
  have : numD d = some (valP 0 d) := by unfold numD; rw [if_neg h]
  unfold numDV
  rw [this]
  exact ⟨rfl, rfl⟩

set_option maxHeartbeats 4000000 in
set_option maxRecDepth 100000 in
theorem pnum_any (d : List UInt8) (hdg : ∀ x, x ∈ d → isDg x = true) (hl : d.length ≤ 1000) (w : World) (he : EV w) :
    Calls Tryz.prog 75 #[.string (ba d)] w fun e w' => e = .returned (.tuple #[.int .i64 (numDV d), .bool (numD d).isSome]) ∧ Below w.heap.size w w' := by
  have hsz := ba_size
  have h0 : ∀ x, d[0]? = some x → ∀ W, (Instr.index 9 (.string (ba d)) (.int .i64 0)).run Tryz.prog W = .ok (.int .u8 x.toNat) W := fun x hx W => run_index_ba Tryz.underlying9 d .i64 0 0 rfl x hx W
  have H0 := Lib.hid h0
  clear h0
  have hh : d.head? = d[0]? := by cases d <;> rfl
  have HH := Lib.hid hh
  clear hh
  by_cases h4 : 4 < d.length
  · have HB := Lib.hid (numD_bad (.inr (.inl h4)))
    go_enter Tryz.func75, Tryz.ntmps75
    go_wp2
    have hh1 := HB.out
    (try simp only [Exit.inBlock, Exit.then]); refine bodyPost_ret (results_tmp2 rfl _ _ _) rfl ?_
    exact ⟨ret_numD hh1, Below.refl _ _⟩
  · by_cases hz : d = []
    · subst hz
      have HB := Lib.hid (numD_bad (d := []) (.inl rfl))
      have hn : Lib.atoi (ba []).data.toList = none := rfl
      obtain ⟨te, pe, hv⟩ := he
      have hc := Tryz.strconv_Atoi_err (ba []) (by rw [ba_size]; simp) hn _ w hv (.inr ⟨te, pe, rfl⟩)
      have HC := Lib.hid hc
      have hlz : ([] : List UInt8).length = 0 := rfl
      clear hc hv hn
      go_enter Tryz.func75, Tryz.ntmps75
      go_wp2_with (go_at_call 103; (with_reducible refine (HC.out).mono ?_); rintro e w1 ⟨N, rfl, _, _, hb⟩; have HX1 := Lib.hid hb; clear hb)
      go_region
      go_wp2
      have hh1 := HB.out
      (try simp only [Exit.inBlock, Exit.then]); refine bodyPost_ret (results_tmp2 rfl _ _ _) rfl ?_
      exact ⟨ret_numD hh1, HX1.out.drew⟩
    · have hpos : 0 < d.length := by cases d with | nil => exact absurd rfl hz | cons x d => simp
      have hc := Tryz.strconv_Atoi (ba d) _ (by rw [ba_size]; omega) (by show Lib.atoi (d.toArray).toList = _; simpa using atoi_val hdg hz) w
      have hc2 : Calls Tryz.prog 103 #[.string (ba d)] w fun e w' => e = .returned (.tuple #[.int .i64 ((valP 0 d : Nat) : Int), .nilIface]) ∧ Below w.heap.size w w' := hc.mono fun e w' ⟨h1, t, h2⟩ => ⟨h1, by rw [h2]; exact Lib.bytesWorld_below _ _ _⟩
      have HC := Lib.hid hc2
      clear hc hc2 hz hdg he
      by_cases h1 : 1 < d.length
      · obtain ⟨z, hz0⟩ : ∃ z, d[0]? = some z := ⟨_, List.getElem?_eq_getElem (by omega)⟩
        have hi0 := H0.out z hz0
        by_cases h48 : z = 48
        · subst h48
          have HB := Lib.hid (numD_bad (d := d) (.inr (.inr ⟨h1, by rw [HH.out, hz0]⟩)))
          have e48 : ((48 : UInt8).toNat : Int) = 48 := rfl
          clear hz0
          go_enter Tryz.func75, Tryz.ntmps75
          go_wp2
          have hh1 := HB.out
          (try simp only [Exit.inBlock, Exit.then]); refine bodyPost_ret (results_tmp2 rfl _ _ _) rfl ?_
          exact ⟨ret_numD hh1, Below.refl _ _⟩
        · have HB := Lib.hid (numD_good (d := d) (fun h => by rcases h with h | h | ⟨_, h⟩ <;> first | omega | (rw [HH.out, hz0] at h; exact h48 (Option.some.inj h))))
          have hz48b : ((z.toNat : Int) == 48) = false := by
            have : z.toNat ≠ 48 := fun e => h48 (UInt8.toNat_inj.1 (by rw [e]; rfl))
            simp; omega
          clear hz0 h48
          go_enter Tryz.func75, Tryz.ntmps75
          go_wp2_with (go_at_call 103; (with_reducible refine (HC.out).mono ?_); rintro e w1 ⟨rfl, hb⟩; have HX1 := Lib.hid hb; clear hb)
          go_region
          go_wp2
          have hh1 := HB.out
          (try simp only [Exit.inBlock, Exit.then]); refine bodyPost_ret (results_tmp2 rfl _ _ _) rfl ?_
          exact ⟨ret_numD hh1, HX1.out.drew⟩
      · have HB := Lib.hid (numD_good (d := d) (fun h => by rcases h with h | h | ⟨h, _⟩ <;> omega))
        go_enter Tryz.func75, Tryz.ntmps75
        go_wp2_with (go_at_call 103; (with_reducible refine (HC.out).mono ?_); rintro e w1 ⟨rfl, hb⟩; have HX1 := Lib.hid hb; clear hb)
        go_region
        go_wp2
        have hh1 := HB.out
        (try simp only [Exit.inBlock, Exit.then]); refine bodyPost_ret (results_tmp2 rfl _ _ _) rfl ?_
        exact ⟨ret_numD hh1, HX1.out.drew⟩
end

section
open Go.RowKit
theorem Tryz.size_str (w : World) : (sizeOf 9).run Tryz.prog w = .ok 1 w := by kernel_rfl
theorem kindB (r : Int) (w : World) : Calls Tryz.prog 71 #[.int .i32 r] w fun e w' => e = .returned (.bool (decide (r = 32))) ∧ w = w' := by
  obtain ⟨v, hv⟩ : ∃ v, (decide (r = 32)) = v := ⟨_, rfl⟩
  rw [hv]
  have hb : (r == 32) = v := by rw [← hv]; rfl
  clear hv
  go_enter Tryz.func71, Tryz.ntmps71
  go_wp2
  go_ret
  exact ⟨rfl, rfl⟩
theorem kindD (r : Int) (w : World) : Calls Tryz.prog 73 #[.int .i32 r] w fun e w' => e = .returned (.bool (decide (48 ≤ r) && decide (r ≤ 57))) ∧ w = w' := by
  obtain ⟨v, hv⟩ : ∃ v, (decide (48 ≤ r) && decide (r ≤ 57)) = v := ⟨_, rfl⟩
  rw [hv]
  by_cases h1 : 48 ≤ r
  · by_cases h2 : r ≤ 57
    · have e : v = true := by rw [← hv]; simp [h1, h2]
      have h3 : decide (r ≤ 57) = true := by simp [h2]
      subst e
      clear hv
      go_enter Tryz.func73, Tryz.ntmps73
      go_wp2
      go_ret
      exact ⟨rfl, rfl⟩
    · have e : v = false := by rw [← hv]; simp [h2]
      have h3 : decide (r ≤ 57) = false := by simp [h2]
      subst e
      clear hv
      go_enter Tryz.func73, Tryz.ntmps73
      go_wp2
      go_ret
      exact ⟨rfl, rfl⟩
  · have e : v = false := by rw [← hv]; simp [h1]
    subst e
    clear hv
    go_enter Tryz.func73, Tryz.ntmps73
    go_wp2
    go_ret
    exact ⟨rfl, rfl⟩
theorem kindL (r : Int) (w : World) : Calls Tryz.prog 74 #[.int .i32 r] w fun e w' => e = .returned (.bool (decide (97 ≤ r) && decide (r ≤ 122))) ∧ w = w' := by
  obtain ⟨v, hv⟩ : ∃ v, (decide (97 ≤ r) && decide (r ≤ 122)) = v := ⟨_, rfl⟩
  rw [hv]
  by_cases h1 : 97 ≤ r
  · by_cases h2 : r ≤ 122
    · have e : v = true := by rw [← hv]; simp [h1, h2]
      have h3 : decide (r ≤ 122) = true := by simp [h2]
      subst e
      clear hv
      go_enter Tryz.func74, Tryz.ntmps74
      go_wp2
      go_ret
      exact ⟨rfl, rfl⟩
    · have e : v = false := by rw [← hv]; simp [h2]
      have h3 : decide (r ≤ 122) = false := by simp [h2]
      subst e
      clear hv
      go_enter Tryz.func74, Tryz.ntmps74
      go_wp2
      go_ret
      exact ⟨rfl, rfl⟩
  · have e : v = false := by rw [← hv]; simp [h1]
    subst e
    clear hv
    go_enter Tryz.func74, Tryz.ntmps74
    go_wp2
    go_ret
    exact ⟨rfl, rfl⟩
theorem ret_sp {a b : List UInt8} (h : a = b) : Ending.returned (Value.string (ba a)) = Ending.returned (.string (ba b)) := by rw [h]
theorem take_of_span {q : UInt8 → Bool} {t : List UInt8} {n : Nat} (hn : n ≤ t.length) (h : spanP q t = t.take n) : (spanP q t).length = n := by rw [h, List.length_take]; omega

set_option maxHeartbeats 8000000 in
set_option maxRecDepth 100000 in
theorem frontB (g : Nat) (t : List UInt8) (w : World) (hb : Blk w g 101 [.string (ba t)]) :
    Calls Tryz.prog 70 #[.pointer (some ⟨g, 0, none⟩), .func (.func 71) #[] #[]] w fun e w' => e = .returned (.string (ba (spanP isBk t))) ∧ Blk w' g 101 [.string (ba (t.drop (spanP isBk t).length))] ∧ w.grownBy w' (some g) := by
  have hsz := ba_size
  have c0 := hb.cellAt (i := 0) rfl
  have HB := Lib.hid hb
  clear hb
  go_enter Tryz.func70, Tryz.ntmps70
  go_wp2
  go_loopw [5] (fun ev wr => ∃ pos : Nat, pos ≤ t.length ∧ ev = .int .i64 (t.length : Int) ∧ wr.heap[w.heap.size]? = some (.stringIter (ba t) pos) ∧ Below w.heap.size w wr ∧ spanP isBk t = t.take pos ++ spanP isBk (t.drop pos)) (fun _ wr => t.length - wr.iterPos w.heap.size)
  case atStart => exact ⟨0, Nat.zero_le _, rfl, World.iter_heap w (ba t) 0, (Below.refl _ w).alloc (Nat.le_refl _) _, rfl⟩
  case round =>
    obtain ⟨pos, hp, rfl, hit, hx, hs⟩ := hrel
    have HX := Lib.hid hx
    have HS := Lib.hid hs
    have hmeas : wr.iterPos w.heap.size = pos := by simp only [World.iterPos, hit]
    clear hx hs
    by_cases hlt : pos < t.length
    · have hpz : pos < (ba t).size := by rw [ba_size]; exact hlt
      obtain ⟨x, hxx⟩ : ∃ x, t[pos]? = some x := ⟨_, List.getElem?_eq_getElem hlt⟩
      have hxe : (ba t)[pos]'hpz = x := by rw [ba_get]; exact (List.getElem?_eq_some_iff.1 hxx).2
      have hdr : t.drop pos = x :: t.drop (pos + 1) := by rw [List.drop_eq_getElem_cons hlt, (List.getElem?_eq_some_iff.1 hxx).2]
      cases hq : isBk x with
      | true =>
        have ha : ((ba t)[pos]'hpz).toNat < 128 := by
          rw [hxe]
          have : x = 32 := by simpa [isBk] using hq
          subst this; decide
        have hnx : ∀ ty, (Instr.next (.pointer (some ⟨w.heap.size, 0, none⟩)) true ty).run Tryz.prog wr = .ok (.tuple #[.bool true, .int .i64 (pos : Int), .int .i32 (x.toNat : Int)]) (wr.iterAt w.heap.size (ba t) (pos + 1)) := fun ty => by
          rw [← hxe]
          exact Lib.run_next_ascii_at wr w.heap.size (ba t) pos ty hit hpz ha
        have hk := fun W => kindB (x.toNat : Int) W
        have hkv : decide ((x.toNat : Int) = 32) = true := by
          have : x = 32 := by simpa [isBk] using hq
          subst this; decide
        rw [hkv] at hk
        have HKd := Lib.hid hk
        have hit2 := Lib.iterAt_heap wr w.heap.size (ba t) pos (pos + 1) hit
        have hx2 := Lib.below_iterAt HX.out (Nat.le_refl _) (ba t) (pos + 1)
        have hsp : spanP isBk t = t.take (pos + 1) ++ spanP isBk (t.drop (pos + 1)) := by
          rw [HS.out, hdr, spanP_cons, hq, if_pos rfl, take_succ' hxx, List.append_assoc]
          rfl
        have HSp := Lib.hid hsp
        generalize wr.iterAt w.heap.size (ba t) (pos + 1) = w2 at *
        have HI2 := Lib.hid hit2
        have HX2 := Lib.hid hx2
        clear hk hkv hsp hq hdr hxe hxx hit2 hx2 ha
        go_wp2_with (go_at_call 71; (with_reducible refine (HKd.out _).mono ?_); rintro e w3 ⟨rfl, rfl⟩)
        go_roundw
        case rel => exact ⟨pos + 1, by omega, rfl, HI2.out, HX2.out, HSp.out⟩
        case measure => rw [hmeas]; have h9 := HI2.out; simp only [World.iterPos, h9]; omega
      | false =>
        have hsp : spanP isBk t = t.take pos := by rw [HS.out, hdr, spanP_nil hq, List.append_nil]
        have hln := take_of_span hp hsp
        have HLn := Lib.hid hln
        have HSp := Lib.hid hsp
        have hto := run_to_ba Tryz.underlying9 t .i64 pos pos rfl hp
        have hfrm := run_from_ba Tryz.underlying9 t .i64 pos pos rfl hp
        obtain ⟨r, wd, hnx, hrk⟩ : ∃ (r : Int) (wd : Nat), (∀ ty, (Instr.next (.pointer (some ⟨w.heap.size, 0, none⟩)) true ty).run Tryz.prog wr = .ok (.tuple #[.bool true, .int .i64 (pos : Int), .int .i32 r]) (wr.iterAt w.heap.size (ba t) wd)) ∧ (decide (r = 32)) = false := by
          by_cases ha : ((ba t)[pos]'hpz).toNat < 128
          · refine ⟨x.toNat, pos + 1, fun ty => ?_, ?_⟩
            · rw [← hxe]
              exact Lib.run_next_ascii_at wr w.heap.size (ba t) pos ty hit hpz ha
            · have h1 : x ≠ 32 := by simpa [isBk] using hq
              have h2 : x.toNat ≠ 32 := fun e => h1 (UInt8.toNat_inj.1 e)
              simp; omega
          · refine ⟨(Utf8.decode (ba t) pos).1, _, fun ty => Lib.run_next_any_at wr w.heap.size (ba t) pos ty hit hpz, ?_⟩
            have hd := (decode_high (ba t) pos hpz (by omega)).1
            simp
            omega
        have hk := fun W => kindB r W
        rw [hrk] at hk
        have HKd := Lib.hid hk
        have hx2 := Lib.below_iterAt HX.out (Nat.le_refl _) (ba t) wd
        generalize wr.iterAt w.heap.size (ba t) wd = w2 at *
        have HX2 := Lib.hid hx2
        have HB2 := Lib.hid (HB.out.through hx2)
        have c2 := HB2.out.cellAt (i := 0) rfl
        clear hk hrk hq hdr hxe hxx hx2 hsp hln hit hmeas
        go_wp2_with (first
          | (go_at_call 71; (with_reducible refine (HKd.out _).mono ?_); rintro e w3 ⟨rfl, rfl⟩)
          | (refine wpList_store_cell rfl 9 (.tmp 42) (.tmp 40) rfl g 0 (by simp [Act.eval]) (.string (ba (t.drop pos))) (by simp [Act.eval]) rfl rfl Tryz.size_str 101 [.string (ba t)] HB2.out (by simp) ?_; intro ws hbs hgs; have HBs : Hid (Blk ws g 101 [.string (ba (t.drop pos))]) := Lib.hid hbs; have HGs := Lib.hid hgs; clear hbs hgs))
        go_ret
        exact ⟨ret_sp HSp.out.symm, by rw [HLn.out]; exact HBs.out, only_trans (only_below HX2.out) HGs.out⟩
    · have hpe : pos = t.length := by omega
      have hsp : spanP isBk t = t := by rw [HS.out, hpe, List.drop_length, List.take_length]; simp [spanP]
      have hln : (spanP isBk t).length = t.length := by rw [hsp]
      have HLn := Lib.hid hln
      have HSp := Lib.hid hsp
      have hto := run_to_ba Tryz.underlying9 t .i64 t.length t.length rfl (Nat.le_refl _)
      rw [List.take_length] at hto
      have hfrm := run_from_ba Tryz.underlying9 t .i64 t.length t.length rfl (Nat.le_refl _)
      have hnx : ∀ ty, (Instr.next (.pointer (some ⟨w.heap.size, 0, none⟩)) true ty).run Tryz.prog wr = .ok (.tuple #[.bool false]) wr := fun ty => Lib.run_next_end_at wr w.heap.size (ba t) pos ty hit (by rw [ba_size]; omega)
      have HB2 := Lib.hid (HB.out.through HX.out)
      have c2 := HB2.out.cellAt (i := 0) rfl
      clear hsp hln hit hmeas hpe hlt hp
      go_wp2_with (first
        | (refine wpList_store_cell rfl 9 (.tmp 42) (.tmp 40) rfl g 0 (by simp [Act.eval]) (.string (ba (t.drop t.length))) (by simp [Act.eval]) rfl rfl Tryz.size_str 101 [.string (ba t)] HB2.out (by simp) ?_; intro ws hbs hgs; have HBs : Hid (Blk ws g 101 [.string (ba (t.drop t.length))]) := Lib.hid hbs; have HGs := Lib.hid hgs; clear hbs hgs))
      go_ret
      exact ⟨ret_sp HSp.out.symm, by rw [HLn.out]; exact HBs.out, only_trans (only_below HX.out) HGs.out⟩

set_option maxHeartbeats 8000000 in
set_option maxRecDepth 100000 in
theorem frontD (g : Nat) (t : List UInt8) (w : World) (hb : Blk w g 101 [.string (ba t)]) :
    Calls Tryz.prog 70 #[.pointer (some ⟨g, 0, none⟩), .func (.func 73) #[] #[]] w fun e w' => e = .returned (.string (ba (spanP isDg t))) ∧ Blk w' g 101 [.string (ba (t.drop (spanP isDg t).length))] ∧ w.grownBy w' (some g) := by
  have hsz := ba_size
  have c0 := hb.cellAt (i := 0) rfl
  have HB := Lib.hid hb
  clear hb
  go_enter Tryz.func70, Tryz.ntmps70
  go_wp2
  go_loopw [5] (fun ev wr => ∃ pos : Nat, pos ≤ t.length ∧ ev = .int .i64 (t.length : Int) ∧ wr.heap[w.heap.size]? = some (.stringIter (ba t) pos) ∧ Below w.heap.size w wr ∧ spanP isDg t = t.take pos ++ spanP isDg (t.drop pos)) (fun _ wr => t.length - wr.iterPos w.heap.size)
  case atStart => exact ⟨0, Nat.zero_le _, rfl, World.iter_heap w (ba t) 0, (Below.refl _ w).alloc (Nat.le_refl _) _, rfl⟩
  case round =>
    obtain ⟨pos, hp, rfl, hit, hx, hs⟩ := hrel
    have HX := Lib.hid hx
    have HS := Lib.hid hs
    have hmeas : wr.iterPos w.heap.size = pos := by simp only [World.iterPos, hit]
    clear hx hs
    by_cases hlt : pos < t.length
    · have hpz : pos < (ba t).size := by rw [ba_size]; exact hlt
      obtain ⟨x, hxx⟩ : ∃ x, t[pos]? = some x := ⟨_, List.getElem?_eq_getElem hlt⟩
      have hxe : (ba t)[pos]'hpz = x := by rw [ba_get]; exact (List.getElem?_eq_some_iff.1 hxx).2
      have hdr : t.drop pos = x :: t.drop (pos + 1) := by rw [List.drop_eq_getElem_cons hlt, (List.getElem?_eq_some_iff.1 hxx).2]
      cases hq : isDg x with
      | true =>
        have ha : ((ba t)[pos]'hpz).toNat < 128 := by
          rw [hxe]
          have := (isDg_iff x).1 hq; omega
        have hnx : ∀ ty, (Instr.next (.pointer (some ⟨w.heap.size, 0, none⟩)) true ty).run Tryz.prog wr = .ok (.tuple #[.bool true, .int .i64 (pos : Int), .int .i32 (x.toNat : Int)]) (wr.iterAt w.heap.size (ba t) (pos + 1)) := fun ty => by
          rw [← hxe]
          exact Lib.run_next_ascii_at wr w.heap.size (ba t) pos ty hit hpz ha
        have hk := fun W => kindD (x.toNat : Int) W
        have hkv : (decide (48 ≤ (x.toNat : Int)) && decide ((x.toNat : Int) ≤ 57)) = true := by
          have := (isDg_iff x).1 hq; simp; omega
        rw [hkv] at hk
        have HKd := Lib.hid hk
        have hit2 := Lib.iterAt_heap wr w.heap.size (ba t) pos (pos + 1) hit
        have hx2 := Lib.below_iterAt HX.out (Nat.le_refl _) (ba t) (pos + 1)
        have hsp : spanP isDg t = t.take (pos + 1) ++ spanP isDg (t.drop (pos + 1)) := by
          rw [HS.out, hdr, spanP_cons, hq, if_pos rfl, take_succ' hxx, List.append_assoc]
          rfl
        have HSp := Lib.hid hsp
        generalize wr.iterAt w.heap.size (ba t) (pos + 1) = w2 at *
        have HI2 := Lib.hid hit2
        have HX2 := Lib.hid hx2
        clear hk hkv hsp hq hdr hxe hxx hit2 hx2 ha
        go_wp2_with (go_at_call 73; (with_reducible refine (HKd.out _).mono ?_); rintro e w3 ⟨rfl, rfl⟩)
        go_roundw
        case rel => exact ⟨pos + 1, by omega, rfl, HI2.out, HX2.out, HSp.out⟩
        case measure => rw [hmeas]; have h9 := HI2.out; simp only [World.iterPos, h9]; omega
      | false =>
        have hsp : spanP isDg t = t.take pos := by rw [HS.out, hdr, spanP_nil hq, List.append_nil]
        have hln := take_of_span hp hsp
        have HLn := Lib.hid hln
        have HSp := Lib.hid hsp
        have hto := run_to_ba Tryz.underlying9 t .i64 pos pos rfl hp
        have hfrm := run_from_ba Tryz.underlying9 t .i64 pos pos rfl hp
        obtain ⟨r, wd, hnx, hrk⟩ : ∃ (r : Int) (wd : Nat), (∀ ty, (Instr.next (.pointer (some ⟨w.heap.size, 0, none⟩)) true ty).run Tryz.prog wr = .ok (.tuple #[.bool true, .int .i64 (pos : Int), .int .i32 r]) (wr.iterAt w.heap.size (ba t) wd)) ∧ (decide (48 ≤ r) && decide (r ≤ 57)) = false := by
          by_cases ha : ((ba t)[pos]'hpz).toNat < 128
          · refine ⟨x.toNat, pos + 1, fun ty => ?_, ?_⟩
            · rw [← hxe]
              exact Lib.run_next_ascii_at wr w.heap.size (ba t) pos ty hit hpz ha
            · have h1 : ¬ (48 ≤ x.toNat ∧ x.toNat ≤ 57) := fun h => by rw [(isDg_iff x).2 h] at hq; cases hq
              simp; omega
          · refine ⟨(Utf8.decode (ba t) pos).1, _, fun ty => Lib.run_next_any_at wr w.heap.size (ba t) pos ty hit hpz, ?_⟩
            have hd := (decode_high (ba t) pos hpz (by omega)).1
            simp
            omega
        have hk := fun W => kindD r W
        rw [hrk] at hk
        have HKd := Lib.hid hk
        have hx2 := Lib.below_iterAt HX.out (Nat.le_refl _) (ba t) wd
        generalize wr.iterAt w.heap.size (ba t) wd = w2 at *
        have HX2 := Lib.hid hx2
        have HB2 := Lib.hid (HB.out.through hx2)
        have c2 := HB2.out.cellAt (i := 0) rfl
        clear hk hrk hq hdr hxe hxx hx2 hsp hln hit hmeas
        go_wp2_with (first
          | (go_at_call 73; (with_reducible refine (HKd.out _).mono ?_); rintro e w3 ⟨rfl, rfl⟩)
          | (refine wpList_store_cell rfl 9 (.tmp 42) (.tmp 40) rfl g 0 (by simp [Act.eval]) (.string (ba (t.drop pos))) (by simp [Act.eval]) rfl rfl Tryz.size_str 101 [.string (ba t)] HB2.out (by simp) ?_; intro ws hbs hgs; have HBs : Hid (Blk ws g 101 [.string (ba (t.drop pos))]) := Lib.hid hbs; have HGs := Lib.hid hgs; clear hbs hgs))
        go_ret
        exact ⟨ret_sp HSp.out.symm, by rw [HLn.out]; exact HBs.out, only_trans (only_below HX2.out) HGs.out⟩
    · have hpe : pos = t.length := by omega
      have hsp : spanP isDg t = t := by rw [HS.out, hpe, List.drop_length, List.take_length]; simp [spanP]
      have hln : (spanP isDg t).length = t.length := by rw [hsp]
      have HLn := Lib.hid hln
      have HSp := Lib.hid hsp
      have hto := run_to_ba Tryz.underlying9 t .i64 t.length t.length rfl (Nat.le_refl _)
      rw [List.take_length] at hto
      have hfrm := run_from_ba Tryz.underlying9 t .i64 t.length t.length rfl (Nat.le_refl _)
      have hnx : ∀ ty, (Instr.next (.pointer (some ⟨w.heap.size, 0, none⟩)) true ty).run Tryz.prog wr = .ok (.tuple #[.bool false]) wr := fun ty => Lib.run_next_end_at wr w.heap.size (ba t) pos ty hit (by rw [ba_size]; omega)
      have HB2 := Lib.hid (HB.out.through HX.out)
      have c2 := HB2.out.cellAt (i := 0) rfl
      clear hsp hln hit hmeas hpe hlt hp
      go_wp2_with (first
        | (refine wpList_store_cell rfl 9 (.tmp 42) (.tmp 40) rfl g 0 (by simp [Act.eval]) (.string (ba (t.drop t.length))) (by simp [Act.eval]) rfl rfl Tryz.size_str 101 [.string (ba t)] HB2.out (by simp) ?_; intro ws hbs hgs; have HBs : Hid (Blk ws g 101 [.string (ba (t.drop t.length))]) := Lib.hid hbs; have HGs := Lib.hid hgs; clear hbs hgs))
      go_ret
      exact ⟨ret_sp HSp.out.symm, by rw [HLn.out]; exact HBs.out, only_trans (only_below HX.out) HGs.out⟩

set_option maxHeartbeats 8000000 in
set_option maxRecDepth 100000 in
theorem frontL (g : Nat) (t : List UInt8) (w : World) (hb : Blk w g 101 [.string (ba t)]) :
    Calls Tryz.prog 70 #[.pointer (some ⟨g, 0, none⟩), .func (.func 74) #[] #[]] w fun e w' => e = .returned (.string (ba (spanP isLt t))) ∧ Blk w' g 101 [.string (ba (t.drop (spanP isLt t).length))] ∧ w.grownBy w' (some g) := by
  have hsz := ba_size
  have c0 := hb.cellAt (i := 0) rfl
  have HB := Lib.hid hb
  clear hb
  go_enter Tryz.func70, Tryz.ntmps70
  go_wp2
  go_loopw [5] (fun ev wr => ∃ pos : Nat, pos ≤ t.length ∧ ev = .int .i64 (t.length : Int) ∧ wr.heap[w.heap.size]? = some (.stringIter (ba t) pos) ∧ Below w.heap.size w wr ∧ spanP isLt t = t.take pos ++ spanP isLt (t.drop pos)) (fun _ wr => t.length - wr.iterPos w.heap.size)
  case atStart => exact ⟨0, Nat.zero_le _, rfl, World.iter_heap w (ba t) 0, (Below.refl _ w).alloc (Nat.le_refl _) _, rfl⟩
  case round =>
    obtain ⟨pos, hp, rfl, hit, hx, hs⟩ := hrel
    have HX := Lib.hid hx
    have HS := Lib.hid hs
    have hmeas : wr.iterPos w.heap.size = pos := by simp only [World.iterPos, hit]
    clear hx hs
    by_cases hlt : pos < t.length
    · have hpz : pos < (ba t).size := by rw [ba_size]; exact hlt
      obtain ⟨x, hxx⟩ : ∃ x, t[pos]? = some x := ⟨_, List.getElem?_eq_getElem hlt⟩
      have hxe : (ba t)[pos]'hpz = x := by rw [ba_get]; exact (List.getElem?_eq_some_iff.1 hxx).2
      have hdr : t.drop pos = x :: t.drop (pos + 1) := by rw [List.drop_eq_getElem_cons hlt, (List.getElem?_eq_some_iff.1 hxx).2]
      cases hq : isLt x with
      | true =>
        have ha : ((ba t)[pos]'hpz).toNat < 128 := by
          rw [hxe]
          have : 97 ≤ x.toNat ∧ x.toNat ≤ 122 := by simpa [isLt] using hq
          omega
        have hnx : ∀ ty, (Instr.next (.pointer (some ⟨w.heap.size, 0, none⟩)) true ty).run Tryz.prog wr = .ok (.tuple #[.bool true, .int .i64 (pos : Int), .int .i32 (x.toNat : Int)]) (wr.iterAt w.heap.size (ba t) (pos + 1)) := fun ty => by
          rw [← hxe]
          exact Lib.run_next_ascii_at wr w.heap.size (ba t) pos ty hit hpz ha
        have hk := fun W => kindL (x.toNat : Int) W
        have hkv : (decide (97 ≤ (x.toNat : Int)) && decide ((x.toNat : Int) ≤ 122)) = true := by
          have : 97 ≤ x.toNat ∧ x.toNat ≤ 122 := by simpa [isLt] using hq
          simp; omega
        rw [hkv] at hk
        have HKd := Lib.hid hk
        have hit2 := Lib.iterAt_heap wr w.heap.size (ba t) pos (pos + 1) hit
        have hx2 := Lib.below_iterAt HX.out (Nat.le_refl _) (ba t) (pos + 1)
        have hsp : spanP isLt t = t.take (pos + 1) ++ spanP isLt (t.drop (pos + 1)) := by
          rw [HS.out, hdr, spanP_cons, hq, if_pos rfl, take_succ' hxx, List.append_assoc]
          rfl
        have HSp := Lib.hid hsp
        generalize wr.iterAt w.heap.size (ba t) (pos + 1) = w2 at *
        have HI2 := Lib.hid hit2
        have HX2 := Lib.hid hx2
        clear hk hkv hsp hq hdr hxe hxx hit2 hx2 ha
        go_wp2_with (go_at_call 74; (with_reducible refine (HKd.out _).mono ?_); rintro e w3 ⟨rfl, rfl⟩)
        go_roundw
        case rel => exact ⟨pos + 1, by omega, rfl, HI2.out, HX2.out, HSp.out⟩
        case measure => rw [hmeas]; have h9 := HI2.out; simp only [World.iterPos, h9]; omega
      | false =>
        have hsp : spanP isLt t = t.take pos := by rw [HS.out, hdr, spanP_nil hq, List.append_nil]
        have hln := take_of_span hp hsp
        have HLn := Lib.hid hln
        have HSp := Lib.hid hsp
        have hto := run_to_ba Tryz.underlying9 t .i64 pos pos rfl hp
        have hfrm := run_from_ba Tryz.underlying9 t .i64 pos pos rfl hp
        obtain ⟨r, wd, hnx, hrk⟩ : ∃ (r : Int) (wd : Nat), (∀ ty, (Instr.next (.pointer (some ⟨w.heap.size, 0, none⟩)) true ty).run Tryz.prog wr = .ok (.tuple #[.bool true, .int .i64 (pos : Int), .int .i32 r]) (wr.iterAt w.heap.size (ba t) wd)) ∧ (decide (97 ≤ r) && decide (r ≤ 122)) = false := by
          by_cases ha : ((ba t)[pos]'hpz).toNat < 128
          · refine ⟨x.toNat, pos + 1, fun ty => ?_, ?_⟩
            · rw [← hxe]
              exact Lib.run_next_ascii_at wr w.heap.size (ba t) pos ty hit hpz ha
            · have h1 : ¬ (97 ≤ x.toNat ∧ x.toNat ≤ 122) := fun h => by simp [isLt] at hq; omega
              simp; omega
          · refine ⟨(Utf8.decode (ba t) pos).1, _, fun ty => Lib.run_next_any_at wr w.heap.size (ba t) pos ty hit hpz, ?_⟩
            have hd := (decode_high (ba t) pos hpz (by omega)).1
            simp
            omega
        have hk := fun W => kindL r W
        rw [hrk] at hk
        have HKd := Lib.hid hk
        have hx2 := Lib.below_iterAt HX.out (Nat.le_refl _) (ba t) wd
        generalize wr.iterAt w.heap.size (ba t) wd = w2 at *
        have HX2 := Lib.hid hx2
        have HB2 := Lib.hid (HB.out.through hx2)
        have c2 := HB2.out.cellAt (i := 0) rfl
        clear hk hrk hq hdr hxe hxx hx2 hsp hln hit hmeas
        go_wp2_with (first
          | (go_at_call 74; (with_reducible refine (HKd.out _).mono ?_); rintro e w3 ⟨rfl, rfl⟩)
          | (refine wpList_store_cell rfl 9 (.tmp 42) (.tmp 40) rfl g 0 (by simp [Act.eval]) (.string (ba (t.drop pos))) (by simp [Act.eval]) rfl rfl Tryz.size_str 101 [.string (ba t)] HB2.out (by simp) ?_; intro ws hbs hgs; have HBs : Hid (Blk ws g 101 [.string (ba (t.drop pos))]) := Lib.hid hbs; have HGs := Lib.hid hgs; clear hbs hgs))
        go_ret
        exact ⟨ret_sp HSp.out.symm, by rw [HLn.out]; exact HBs.out, only_trans (only_below HX2.out) HGs.out⟩
    · have hpe : pos = t.length := by omega
      have hsp : spanP isLt t = t := by rw [HS.out, hpe, List.drop_length, List.take_length]; simp [spanP]
      have hln : (spanP isLt t).length = t.length := by rw [hsp]
      have HLn := Lib.hid hln
      have HSp := Lib.hid hsp
      have hto := run_to_ba Tryz.underlying9 t .i64 t.length t.length rfl (Nat.le_refl _)
      rw [List.take_length] at hto
      have hfrm := run_from_ba Tryz.underlying9 t .i64 t.length t.length rfl (Nat.le_refl _)
      have hnx : ∀ ty, (Instr.next (.pointer (some ⟨w.heap.size, 0, none⟩)) true ty).run Tryz.prog wr = .ok (.tuple #[.bool false]) wr := fun ty => Lib.run_next_end_at wr w.heap.size (ba t) pos ty hit (by rw [ba_size]; omega)
      have HB2 := Lib.hid (HB.out.through HX.out)
      have c2 := HB2.out.cellAt (i := 0) rfl
      clear hsp hln hit hmeas hpe hlt hp
      go_wp2_with (first
        | (refine wpList_store_cell rfl 9 (.tmp 42) (.tmp 40) rfl g 0 (by simp [Act.eval]) (.string (ba (t.drop t.length))) (by simp [Act.eval]) rfl rfl Tryz.size_str 101 [.string (ba t)] HB2.out (by simp) ?_; intro ws hbs hgs; have HBs : Hid (Blk ws g 101 [.string (ba (t.drop t.length))]) := Lib.hid hbs; have HGs := Lib.hid hgs; clear hbs hgs))
      go_ret
      exact ⟨ret_sp HSp.out.symm, by rw [HLn.out]; exact HBs.out, only_trans (only_below HX.out) HGs.out⟩
end

section
open Go.RowKit
def HowOut (r : Option Nat) (e : Ending) : Prop :=
  match r with
  | none => ∃ v : Int, e = .returned (.tuple #[.int .i64 v, .bool false])
  | some a => e = .returned (.tuple #[.int .i64 (a : Int), .bool true])
theorem HowOut.mk_bad {r : Option Nat} {v : Int} (h : r = none) : HowOut r (.returned (.tuple #[.int .i64 v, .bool false])) := by
  subst h; exact ⟨v, rfl⟩
theorem HowOut.mk_good {r : Option Nat} {a : Nat} (h : r = some a) : HowOut r (.returned (.tuple #[.int .i64 (a : Int), .bool true])) := by
  subst h; exact rfl
theorem HowOut.bad {r : Option Nat} {e : Ending} (h : HowOut r e) (hr : r = none) : ∃ v : Int, e = .returned (.tuple #[.int .i64 v, .bool false]) := by
  subst hr; exact h
theorem HowOut.good {r : Option Nat} {e : Ending} {a : Nat} (h : HowOut r e) (hr : r = some a) : e = .returned (.tuple #[.int .i64 (a : Int), .bool true]) := by
  subst hr; exact h

set_option maxHeartbeats 4000000 in
set_option maxRecDepth 100000 in
theorem how_any (d u : List UInt8) (n : Nat) (hdg : ∀ x, x ∈ d → isDg x = true) (hl : d.length ≤ 1000) (w : World) (he : EV w) :
    Calls Tryz.prog 77 #[.string (ba d), .string (ba u), .int .i64 (n : Int)] w fun e w' => HowOut (howQ d u n) e ∧ Below w.heap.size w w' := by
  have hli := ba_list
  have c1 : (⟨#[111, 102]⟩ : ByteArray).toList = [111, 102] := ba_list _
  have c2 : (⟨#[97, 108, 108]⟩ : ByteArray).toList = [97, 108, 108] := ba_list _
  have c3 : (⟨#[97, 110, 121]⟩ : ByteArray).toList = [97, 110, 121] := ba_list _
  have c4 : (⟨#[]⟩ : ByteArray).toList = [] := ba_list _
  have hc := pnum_any d hdg hl w he
  by_cases h1 : u = [111, 102]
  · subst h1
    cases hn : numD d with
    | none =>
      have HQ := Lib.hid (show howQ d [111, 102] n = none by unfold howQ; rw [if_pos rfl, hn])
      have e1 : numDV d = 0 := by unfold numDV; rw [hn]
      rw [hn, e1] at hc
      have hc2 : Calls Tryz.prog 75 #[.string (ba d)] w fun e w' => e = .returned (.tuple #[.int .i64 0, .bool false]) ∧ Below w.heap.size w w' := hc
      have HC := Lib.hid hc2
      clear hc hc2 hn e1 hdg he
      go_enter Tryz.func77, Tryz.ntmps77
      go_wp2_with (go_at_call 75; (with_reducible refine (HC.out).mono ?_); rintro e w1 ⟨rfl, hb⟩; have HX1 := Lib.hid hb; clear hb)
      (try simp only [Exit.inBlock, Exit.then]); refine bodyPost_ret (results_tmp2 rfl _ _ _) rfl ?_
      exact ⟨HowOut.mk_bad HQ.out, HX1.out⟩
    | some v =>
      have hv9 := numD_lt hdg hn
      have e1 : numDV d = (v : Int) := by unfold numDV; rw [hn]
      rw [hn, e1] at hc
      have hc2 : Calls Tryz.prog 75 #[.string (ba d)] w fun e w' => e = .returned (.tuple #[.int .i64 (v : Int), .bool true]) ∧ Below w.heap.size w w' := hc
      have HC := Lib.hid hc2
      clear hc hc2 e1 hdg he
      by_cases hv1 : 1 ≤ v
      · by_cases hv2 : v ≤ 99
        · have HQ := Lib.hid (show howQ d [111, 102] n = some v by unfold howQ; rw [if_pos rfl, hn]; simp only; rw [if_pos ⟨hv1, hv2⟩])
          have hv5 : decide ((v : Int) ≤ 99) = true := by simp; omega
          clear hn
          go_enter Tryz.func77, Tryz.ntmps77
          go_wp2_with (go_at_call 75; (with_reducible refine (HC.out).mono ?_); rintro e w1 ⟨rfl, hb⟩; have HX1 := Lib.hid hb; clear hb)
          (try simp only [Exit.inBlock, Exit.then]); refine bodyPost_ret (results_tmp2 rfl _ _ _) rfl ?_
          exact ⟨HowOut.mk_good HQ.out, HX1.out⟩
        · have HQ := Lib.hid (show howQ d [111, 102] n = none by unfold howQ; rw [if_pos rfl, hn]; simp only; rw [if_neg (fun h => hv2 h.2)])
          have hv5 : decide ((v : Int) ≤ 99) = false := by simp; omega
          clear hn
          go_enter Tryz.func77, Tryz.ntmps77
          go_wp2_with (go_at_call 75; (with_reducible refine (HC.out).mono ?_); rintro e w1 ⟨rfl, hb⟩; have HX1 := Lib.hid hb; clear hb)
          (try simp only [Exit.inBlock, Exit.then]); refine bodyPost_ret (results_tmp2 rfl _ _ _) rfl ?_
          exact ⟨HowOut.mk_bad HQ.out, HX1.out⟩
      · have HQ := Lib.hid (show howQ d [111, 102] n = none by unfold howQ; rw [if_pos rfl, hn]; simp only; rw [if_neg (fun h => hv1 h.1)])
        clear hn
        go_enter Tryz.func77, Tryz.ntmps77
        go_wp2_with (go_at_call 75; (with_reducible refine (HC.out).mono ?_); rintro e w1 ⟨rfl, hb⟩; have HX1 := Lib.hid hb; clear hb)
        (try simp only [Exit.inBlock, Exit.then]); refine bodyPost_ret (results_tmp2 rfl _ _ _) rfl ?_
        exact ⟨HowOut.mk_bad HQ.out, HX1.out⟩
  · have b1 : (u == [111, 102]) = false := by rw [beq_eq_false_iff_ne]; exact h1
    clear hc
    cases d with
    | cons x d =>
      have HQ := Lib.hid (show howQ (x :: d) u n = none by unfold howQ; rw [if_neg h1, if_pos (by simp)])
      clear hdg he
      go_enter Tryz.func77, Tryz.ntmps77
      go_wp2
      (try simp only [Exit.inBlock, Exit.then]); refine bodyPost_ret (results_tmp2 rfl _ _ _) rfl ?_
      exact ⟨HowOut.mk_bad HQ.out, Below.refl _ _⟩
    | nil =>
      by_cases h2 : u = [97, 108, 108]
      · subst h2
        have HQ := Lib.hid (show howQ [] [97, 108, 108] n = some n by rfl)
        go_enter Tryz.func77, Tryz.ntmps77
        go_wp2
        (try simp only [Exit.inBlock, Exit.then]); refine bodyPost_ret (results_tmp2 rfl _ _ _) rfl ?_
        exact ⟨HowOut.mk_good HQ.out, Below.refl _ _⟩
      · have b2 : (u == [97, 108, 108]) = false := by rw [beq_eq_false_iff_ne]; exact h2
        by_cases h3 : u = [97, 110, 121]
        · subst h3
          have HQ := Lib.hid (show howQ [] [97, 110, 121] n = some 1 by rfl)
          go_enter Tryz.func77, Tryz.ntmps77
          go_wp2
          (try simp only [Exit.inBlock, Exit.then]); refine bodyPost_ret (results_tmp2 rfl _ _ _) rfl ?_
          exact ⟨HowOut.mk_good HQ.out, Below.refl _ _⟩
        · have b3 : (u == [97, 110, 121]) = false := by rw [beq_eq_false_iff_ne]; exact h3
          have HQ := Lib.hid (show howQ [] u n = none by unfold howQ; rw [if_neg h1, if_neg (by simp), if_neg h2, if_neg h3])
          go_enter Tryz.func77, Tryz.ntmps77
          go_wp2
          (try simp only [Exit.inBlock, Exit.then]); refine bodyPost_ret (results_tmp2 rfl _ _ _) rfl ?_
          exact ⟨HowOut.mk_bad HQ.out, Below.refl _ _⟩
end

section
open Go.RowKit
set_option maxHeartbeats 2000000 in
theorem blanks_any (g : Nat) (t : List UInt8) (w : World) (hb : Blk w g 101 [.string (ba t)]) :
    Calls Tryz.prog 56 #[.pointer (some ⟨g, 0, none⟩)] w fun e w' => e = .returned (.tuple #[]) ∧ Blk w' g 101 [.string (ba (bareP t))] ∧ w.grownBy w' (some g) := by
  have hc := frontB g t w hb
  rw [spanP_bk] at hc
  have HC := Lib.hid hc
  clear hc hb
  go_enter Tryz.func56, Tryz.ntmps56
  go_wp2_with (go_at_call 70; (with_reducible refine (HC.out).mono ?_); rintro e w1 ⟨rfl, h1, hg⟩; have H1 := Lib.hid h1; have HG := Lib.hid hg; clear h1 hg)
  first
    | (refine bodyPost_ret (results_none rfl _ _ _) rfl ?_)
    | (refine bodyPost_end (results_none rfl _ _ _) rfl ?_)
  exact ⟨rfl, H1.out, HG.out⟩

set_option maxHeartbeats 2000000 in
theorem runD (g : Nat) (t : List UInt8) (w : World) (hb : Blk w g 101 [.string (ba t)]) :
    Calls Tryz.prog 72 #[.pointer (some ⟨g, 0, none⟩), .func (.func 73) #[] #[]] w fun e w' => e = .returned (.string (ba (spanP isDg t))) ∧ Blk w' g 101 [.string (ba (bareP (t.drop (spanP isDg t).length)))] ∧ w.grownBy w' (some g) := by
  have hc := frontD g t w hb
  have HC := Lib.hid hc
  have HBl := Lib.hid (fun W h => blanks_any g (t.drop (spanP isDg t).length) W h)
  clear hc hb
  obtain ⟨s, hs⟩ : ∃ s, spanP isDg t = s := ⟨_, rfl⟩
  rw [hs] at HC HBl ⊢
  clear hs
  go_enter Tryz.func72, Tryz.ntmps72
  go_wp2_with (first
    | (go_at_call 70; (with_reducible refine (HC.out).mono ?_); rintro e w1 ⟨rfl, h1, hg⟩; have H1 := Lib.hid h1; have HG := Lib.hid hg; clear h1 hg)
    | (go_at_call 56; (with_reducible refine (HBl.out _ H1.out).mono ?_); rintro e w2 ⟨rfl, h1, hg⟩; have H2 := Lib.hid h1; have HG2 := Lib.hid (only_trans HG.out hg); clear h1 hg))
  go_ret
  exact ⟨rfl, H2.out, HG2.out⟩

set_option maxHeartbeats 2000000 in
theorem runL (g : Nat) (t : List UInt8) (w : World) (hb : Blk w g 101 [.string (ba t)]) :
    Calls Tryz.prog 72 #[.pointer (some ⟨g, 0, none⟩), .func (.func 74) #[] #[]] w fun e w' => e = .returned (.string (ba (spanP isLt t))) ∧ Blk w' g 101 [.string (ba (bareP (t.drop (spanP isLt t).length)))] ∧ w.grownBy w' (some g) := by
  have hc := frontL g t w hb
  have HC := Lib.hid hc
  have HBl := Lib.hid (fun W h => blanks_any g (t.drop (spanP isLt t).length) W h)
  clear hc hb
  obtain ⟨s, hs⟩ : ∃ s, spanP isLt t = s := ⟨_, rfl⟩
  rw [hs] at HC HBl ⊢
  clear hs
  go_enter Tryz.func72, Tryz.ntmps72
  go_wp2_with (first
    | (go_at_call 70; (with_reducible refine (HC.out).mono ?_); rintro e w1 ⟨rfl, h1, hg⟩; have H1 := Lib.hid h1; have HG := Lib.hid hg; clear h1 hg)
    | (go_at_call 56; (with_reducible refine (HBl.out _ H1.out).mono ?_); rintro e w2 ⟨rfl, h1, hg⟩; have H2 := Lib.hid h1; have HG2 := Lib.hid (only_trans HG.out hg); clear h1 hg))
  go_ret
  exact ⟨rfl, H2.out, HG2.out⟩

/-- what is left behind a sign -/
def signR (x : UInt8) (t : List UInt8) : List UInt8 := bareP (if begP [x] t = true then t.drop 1 else t)
theorem hasPrefix_one (x : UInt8) (t : List UInt8) : Lib.hasPrefix t [x] = begP [x] t := by
  cases t with
  | nil => rfl
  | cons y t =>
    rw [begP_cons, begP_nil]
    show (x == y && ([] : List UInt8).isPrefixOf t) = _
    simp only [List.isPrefixOf_nil_left, Bool.and_true]
    rfl
theorem trimPrefix_one (x : UInt8) (t : List UInt8) : Lib.trimPrefix t [x] = if begP [x] t = true then t.drop 1 else t := by
  unfold Lib.trimPrefix
  rw [hasPrefix_one]
  rfl

set_option maxHeartbeats 4000000 in
set_option maxRecDepth 100000 in
theorem sign_any (x : UInt8) (g : Nat) (t : List UInt8) (w : World) (hb : Blk w g 101 [.string (ba t)]) :
    Calls Tryz.prog 104 #[.pointer (some ⟨g, 0, none⟩), .string ⟨#[x]⟩] w fun e w' => e = .returned (.bool (begP [x] t)) ∧ Blk w' g 101 [.string (ba (signR x t))] ∧ w.grownBy w' (some g) := by
  have hcp : ∀ W : World, Calls Tryz.prog 117 #[.string (ba t), .string ⟨#[x]⟩] W fun e w' => e = .returned (.tuple #[.string (ba (Lib.trimPrefix t [x])), .bool (Lib.hasPrefix t [x])]) ∧ w' = W := fun W => Tryz.strings_CutPrefix (ba t) ⟨#[x]⟩ W
  rw [trimPrefix_one, hasPrefix_one] at hcp
  obtain ⟨v, hv⟩ : ∃ v, (if begP [x] t = true then t.drop 1 else t) = v := ⟨_, rfl⟩
  have hr : signR x t = bareP v := by unfold signR; rw [hv]
  obtain ⟨y, hy⟩ : ∃ y, begP [x] t = y := ⟨_, rfl⟩
  rw [hv, hy] at hcp
  rw [hr, hy]
  have HC := Lib.hid hcp
  have HBl := Lib.hid (fun W h => blanks_any g v W h)
  have c0 := hb.cellAt (i := 0) rfl
  have HB := Lib.hid hb
  clear hcp hv hr hy hb
  go_enter Tryz.func104, Tryz.ntmps104
  go_wp2_with (first
    | (go_at_call 117; (with_reducible refine (HC.out _).mono ?_); rintro e w1 ⟨rfl, rfl⟩)
    | (refine wpList_store_cell rfl 9 (.tmp 19) (.tmp 17) rfl g 0 (by simp [Act.eval]) (.string (ba v)) (by simp [Act.eval]) rfl rfl Tryz.size_str 101 [.string (ba t)] HB.out (by simp) ?_; intro ws hbs hgs; have HBs : Hid (Blk ws g 101 [.string (ba v)]) := Lib.hid hbs; have HGs := Lib.hid hgs; clear hbs hgs)
    | (go_at_call 56; (with_reducible refine (HBl.out _ HBs.out).mono ?_); rintro e w2 ⟨rfl, h1, hg⟩; have H2 := Lib.hid h1; have HG2 := Lib.hid (only_trans HGs.out hg); clear h1 hg))
  go_ret
  exact ⟨rfl, H2.out, HG2.out⟩
end

section
open Go.RowKit
def PQOut (g B : Nat) (r : Option (Fm × List UInt8)) (e : Ending) (w' : World) : Prop :=
  match r with
  | none => (∃ o a A n c, e = .returned (.tuple #[.agg #[.int .i64 o, .int .i64 a, .slice A n c], .bool false])) ∧ ∃ s : List UInt8, Blk w' g 101 [.string (ba s)]
  | some (f, r) => (∃ A n c, e = .returned (.tuple #[.agg #[.int .i64 f.org, .int .i64 f.nd, .slice A n c], .bool true]) ∧ f.In w' (B ≤ ·) A n) ∧ Blk w' g 101 [.string (ba r)]
def KQOut (g B : Nat) (r : Option (List Fm × List UInt8)) (e : Ending) (w' : World) : Prop :=
  match r with
  | none => (∃ A n c, e = .returned (.tuple #[.slice A n c, .bool false])) ∧ ∃ s : List UInt8, Blk w' g 101 [.string (ba s)]
  | some (l, r) => (∃ A c, e = .returned (.tuple #[.slice A l.length c, .bool true]) ∧ ∀ o a, (Fm.mk o a l).In w' (B ≤ ·) A l.length) ∧ Blk w' g 101 [.string (ba r)]
section
variable {g B : Nat} {e : Ending} {w' : World}
theorem PQOut.bad {r : Option (Fm × List UInt8)} (h : PQOut g B r e w') (hr : r = none) : (∃ o a A n c, e = .returned (.tuple #[.agg #[.int .i64 o, .int .i64 a, .slice A n c], .bool false])) ∧ ∃ s : List UInt8, Blk w' g 101 [.string (ba s)] := by
  subst hr; exact h
theorem PQOut.good {r : Option (Fm × List UInt8)} {f : Fm} {t : List UInt8} (h : PQOut g B r e w') (hr : r = some (f, t)) : (∃ A n c, e = .returned (.tuple #[.agg #[.int .i64 f.org, .int .i64 f.nd, .slice A n c], .bool true]) ∧ f.In w' (B ≤ ·) A n) ∧ Blk w' g 101 [.string (ba t)] := by
  subst hr; exact h
theorem PQOut.mk_bad {r : Option (Fm × List UInt8)} {o a : Int} {A : Option Addr} {n c : Nat} {s : List UInt8} (hr : r = none) (h : Blk w' g 101 [.string (ba s)]) : PQOut g B r (.returned (.tuple #[.agg #[.int .i64 o, .int .i64 a, .slice A n c], .bool false])) w' := by
  subst hr; exact ⟨⟨o, a, A, n, c, rfl⟩, s, h⟩
theorem PQOut.mk_good {r : Option (Fm × List UInt8)} {o a : Int} {ks : List Fm} {A : Option Addr} {n c : Nat} {t : List UInt8} (hr : r = some (.mk o a ks, t)) (h : (Fm.mk o a ks).In w' (B ≤ ·) A n) (hb : Blk w' g 101 [.string (ba t)]) : PQOut g B r (.returned (.tuple #[.agg #[.int .i64 o, .int .i64 a, .slice A n c], .bool true])) w' := by
  subst hr; exact ⟨⟨A, n, c, rfl, h⟩, hb⟩
theorem KQOut.bad {r : Option (List Fm × List UInt8)} (h : KQOut g B r e w') (hr : r = none) : (∃ A n c, e = .returned (.tuple #[.slice A n c, .bool false])) ∧ ∃ s : List UInt8, Blk w' g 101 [.string (ba s)] := by
  subst hr; exact h
theorem KQOut.good {r : Option (List Fm × List UInt8)} {l : List Fm} {t : List UInt8} (h : KQOut g B r e w') (hr : r = some (l, t)) : (∃ A c, e = .returned (.tuple #[.slice A l.length c, .bool true]) ∧ ∀ o a, (Fm.mk o a l).In w' (B ≤ ·) A l.length) ∧ Blk w' g 101 [.string (ba t)] := by
  subst hr; exact h
theorem KQOut.mk_bad {r : Option (List Fm × List UInt8)} {A : Option Addr} {n c : Nat} {s : List UInt8} (hr : r = none) (h : Blk w' g 101 [.string (ba s)]) : KQOut g B r (.returned (.tuple #[.slice A n c, .bool false])) w' := by
  subst hr; exact ⟨⟨A, n, c, rfl⟩, s, h⟩
theorem KQOut.mk_bad' {r : Option (List Fm × List UInt8)} {v : Value} {l : List Fm} {s : List UInt8} (hr : r = none) (hk : Kids w' B v l) (h : Blk w' g 101 [.string (ba s)]) : KQOut g B r (.returned (.tuple #[v, .bool false])) w' := by
  subst hr
  obtain ⟨A, c, rfl, _⟩ := hk.out
  exact ⟨⟨A, _, c, rfl⟩, s, h⟩
theorem KQOut.mk_good {r : Option (List Fm × List UInt8)} {v : Value} {l : List Fm} {t : List UInt8} (hr : r = some (l, t)) (hk : Kids w' B v l) (h : Blk w' g 101 [.string (ba t)]) : KQOut g B r (.returned (.tuple #[v, .bool true])) w' := by
  subst hr
  obtain ⟨A, c, rfl, h2⟩ := hk.out
  exact ⟨⟨A, c, rfl, h2⟩, h⟩
end
theorem EV.ne {w : World} {g : Nat} {s : ByteArray} (h : EV w) (hb : Blk w g 101 [.string s]) : g ≠ 1 := by
  rintro rfl
  obtain ⟨te, pe, h⟩ := h
  rw [hb.cellAt (i := 0) rfl] at h
  cases h
theorem only_row' {a b c : World} {g : Nat} {row : Option Nat} (h : a.grownBy b (some g)) (k : b.grownBy c row) (hr : ∀ j, row = some j → a.heap.size ≤ j) : a.grownBy c (some g) :=
  ⟨k.os.trans h.os, k.tape.trans h.tape, k.output.trans h.output, Nat.le_trans h.size k.size, fun i hi hne => by
    rw [k.block i (Nat.lt_of_lt_of_le hi h.size) (fun e => by have := hr i e.symm; omega), h.block i hi hne]⟩
/-- how much is left -/
def restAt (w : World) (g : Nat) : Nat := match w.cell? ⟨g, 0, none⟩ with | some (.string b) => b.size | _ => 0
theorem restAt_of {w : World} {g : Nat} {t : List UInt8} (h : Blk w g 101 [.string (ba t)]) : restAt w g = t.length := by
  unfold restAt
  rw [h.cellAt (i := 0) rfl]
  exact ba_size t
/-- what a policy takes, and that no blank is left ahead -/
theorem pro_takes {k : Nat} {t r : List UInt8} {f : Fm} (ht : bareP t = t) (h : proP k t = some (f, r)) : f.size + r.length ≤ t.length ∧ f.depth ≤ k ∧ bareP r = r ∧ ∃ r', polP k t = some (f, r') ∧ r = bareP r' := by
  have ha := pol_agrees k t
  rw [ht] at ha
  cases hp : polP k t with
  | none => rw [ha.2 hp] at h; cases h
  | some z =>
    obtain ⟨f', r'⟩ := z
    rcases ha.1 f' r' hp with e | ⟨e, _⟩
    · rw [e] at h
      simp only [Option.some.injEq, Prod.mk.injEq] at h
      obtain ⟨rfl, rfl⟩ := h
      have h1 := polP_takes k t _ _ hp
      have h2 := bareP_len r'
      exact ⟨by omega, h1.2, bareP_idem r', r', rfl, rfl⟩
    · rw [e] at h; cases h
theorem signR_bare (x : UInt8) (t : List UInt8) : bareP (signR x t) = signR x t := bareP_idem _
theorem loopQ_succ (p : List UInt8 → Option (Fm × List UInt8)) (n : Nat) (t : List UInt8) : loopQ p (n + 1) t = (match p t with
    | none => none
    | some (f, r) => if begP [44] r then (match loopQ p n (bareP (r.drop 1)) with | none => none | some (l, r') => some (f :: l, r'))
      else if begP [41] r then some ([f], bareP (r.drop 1)) else none) := rfl

set_option maxHeartbeats 8000000 in
set_option maxRecDepth 100000 in
theorem pkids_any (k : Nat) (d : Int) (g : Nat)
    (hP : ∀ (t : List UInt8) (w : World), Blk w g 101 [.string (ba t)] → EV w → t.length ≤ 1000 → Calls Tryz.prog 57 #[.pointer (some ⟨g, 0, none⟩), .int .i64 d] w fun e w' => PQOut g w.heap.size (proP k t) e w' ∧ w.grownBy w' (some g))
    (t : List UInt8) (w : World) (hb : Blk w g 101 [.string (ba t)]) (he : EV w) (ht : t.length ≤ 1000) :
    Calls Tryz.prog 76 #[.pointer (some ⟨g, 0, none⟩), .int .i64 d] w fun e w' => KQOut g w.heap.size (kidsQ (proP k) t) e w' ∧ w.grownBy w' (some g) := by
  have HP := Lib.hid hP
  have hgB : g < w.heap.size := hb.lt
  have hs40 := fun (W : World) h => sign_any 40 g t W h
  have HS40 := Lib.hid hs40
  have HB0 := Lib.hid hb
  have HE0 := Lib.hid he
  have hg0 := he.ne hb
  clear hP hs40 hb he
  obtain ⟨i0, hi, hz0, hz1, hz2⟩ := info_parts Tryz.info_fm3
  go_enter Tryz.func76, Tryz.ntmps76
  cases h40 : begP [40] t with
  | false =>
    have HR := Lib.hid (show kidsQ (proP k) t = none by unfold kidsQ; rw [h40]; rfl)
    go_wp2_with (go_at_call 104; (with_reducible refine (HS40.out _ HB0.out).mono ?_); rintro e w5 ⟨rfl, hb5, hg5⟩; (try rw [h40]); have HB5 := Lib.hid hb5; have HX5 := Lib.hid hg5; clear hb5 hg5)
    (try simp only [Exit.inBlock, Exit.then]); refine bodyPost_ret (results_tmp2 rfl _ _ _) rfl ?_
    exact ⟨KQOut.mk_bad HR.out HB5.out, HX5.out⟩
  | true =>
    have hsg : signR 40 t = bareP (t.drop 1) := by unfold signR; rw [h40, if_pos rfl]
    have hR : kidsQ (proP k) t = preP [] (loopQ (proP k) t.length (bareP (t.drop 1))) := by
      unfold kidsQ
      rw [h40, if_pos rfl]
      cases loopQ (proP k) t.length (bareP (t.drop 1)) with
      | none => rfl
      | some q => rfl
    have hbl := bareP_len (t.drop 1)
    have hdl : (t.drop 1).length ≤ t.length := by rw [List.length_drop]; omega
    have hbi := bareP_idem (t.drop 1)
    rw [hsg] at HS40
    have HR := Lib.hid hR
    have HBi := Lib.hid hbi
    clear hR hsg hbi
    go_wp2_with (go_at_call 104; (with_reducible refine (HS40.out _ HB0.out).mono ?_); rintro e w5 ⟨rfl, hb5, hg5⟩; (try rw [h40]); have HB5 := Lib.hid hb5; have HX5 := Lib.hid hg5; clear hb5 hg5)
    go_loopw [6] (fun sv wr => ∃ (u : List UInt8) (l : List Fm) (m : Nat) (ov : Value), ov = sv ∧ bareP u = u ∧ u.length ≤ m ∧ l.length + u.length ≤ t.length ∧ Kids wr w.heap.size ov l ∧ Blk wr g 101 [.string (ba u)] ∧ w.grownBy wr (some g) ∧ Hid (kidsQ (proP k) t = preP l (loopQ (proP k) m u))) (fun _ wr => restAt wr g)
    case atStart => exact ⟨bareP (t.drop 1), [], _, _, rfl, HBi.out, by omega, by rw [List.length_nil]; omega, Kids.nil _ _, HB5.out, HX5.out, HR⟩
    case round =>
      obtain ⟨u, l, m, ov, rfl, hub, hum, hlu, hk, hb, hx, hrw⟩ := hrel
      have hme := restAt_of hb
      have HK := Lib.hid hk
      have HBr := Lib.hid hb
      have HX := Lib.hid hx
      have HE := Lib.hid (HE0.out.only hx hg0)
      clear hk hb hx
      cases m with
      | zero =>
        have hu0 : u = [] := List.eq_nil_of_length_eq_zero (by omega)
        subst hu0
        have hp : proP k [] = none := by
          cases k with
          | zero => rfl
          | succ k => rfl
        have HFin := Lib.hid (show kidsQ (proP k) t = none by rw [hrw.out]; rfl)
        have HPp := Lib.hid hp
        clear hp hrw
        go_wp2_with (go_at_call 57; (with_reducible refine (HP.out [] wr HBr.out HE.out (by simp)).mono ?_); rintro e w1 ⟨ho, hg1⟩; obtain ⟨⟨o, a, A, n, c, rfl⟩, s, hb1⟩ := PQOut.bad ho HPp.out; have HB1 := Lib.hid (hb1.alloc (.cells #[.int .i64 o, .int .i64 a, .slice A n c] 44)); have HX1 := Lib.hid (only_trans (only_trans HX.out hg1) (only_below ((Below.refl _ w1).alloc (Nat.le_refl _) (.cells #[.int .i64 o, .int .i64 a, .slice A n c] 44)))); clear ho hg1 hb1)
        (try simp only [Exit.inBlock, Exit.then]); refine bodyPost_ret (results_tmp2 rfl _ _ _) rfl ?_
        exact ⟨KQOut.mk_bad HFin.out HB1.out, HX1.out⟩
      | succ m =>
        have hL := loopQ_succ (proP k) m u
        cases hp : proP k u with
        | none =>
          rw [hp] at hL
          have HFin := Lib.hid (show kidsQ (proP k) t = none by rw [hrw.out, hL]; rfl)
          have HPp := Lib.hid hp
          clear hp hL hrw
          go_wp2_with (go_at_call 57; (with_reducible refine (HP.out u wr HBr.out HE.out (by omega)).mono ?_); rintro e w1 ⟨ho, hg1⟩; obtain ⟨⟨o, a, A, n, c, rfl⟩, s, hb1⟩ := PQOut.bad ho HPp.out; have HB1 := Lib.hid (hb1.alloc (.cells #[.int .i64 o, .int .i64 a, .slice A n c] 44)); have HX1 := Lib.hid (only_trans (only_trans HX.out hg1) (only_below ((Below.refl _ w1).alloc (Nat.le_refl _) (.cells #[.int .i64 o, .int .i64 a, .slice A n c] 44)))); clear ho hg1 hb1)
          (try simp only [Exit.inBlock, Exit.then]); refine bodyPost_ret (results_tmp2 rfl _ _ _) rfl ?_
          exact ⟨KQOut.mk_bad HFin.out HB1.out, HX1.out⟩
        | some q =>
          obtain ⟨f, r⟩ := q
          obtain ⟨htk, _, hrb, _⟩ := pro_takes hub hp
          rw [hp] at hL
          simp only at hL
          have hfp := f.size_pos
          have hOB : ∀ b, ov.ownBlock = some b → b < wr.heap.size := fun b hb => by
            obtain ⟨xs, hO, _⟩ := HK.out
            exact (hO.lt b hb).2
          have HOB := Lib.hid hOB
          have HPp := Lib.hid hp
          have hs44 := fun (W : World) h => sign_any 44 g r W h
          clear hp hOB
          cases h44 : begP [44] r with
          | true =>
            rw [h44, if_pos rfl] at hL
            have hsg : signR 44 r = bareP (r.drop 1) := by unfold signR; rw [h44, if_pos rfl]
            rw [hsg] at hs44
            have HS44 := Lib.hid hs44
            have HS41 := HS40
            have h41 := h40
            have HFin := Lib.hid (show kidsQ (proP k) t = preP (l ++ [f]) (loopQ (proP k) m (bareP (r.drop 1))) by
              rw [hrw.out, hL]
              cases loopQ (proP k) m (bareP (r.drop 1)) with
              | none => rfl
              | some q => simp [preP])
            have hbl2 := bareP_len (r.drop 1)
            have hdl2 : (r.drop 1).length + 1 ≤ r.length := by have := begP_len h44; simp at this; rw [List.length_drop]; omega
            have hbi2 := Lib.hid (bareP_idem (r.drop 1))
            clear hs44 hsg hL hrw hrb
            go_wp2_with (first
            | (go_at_call 57; (with_reducible refine (HP.out u wr HBr.out HE.out (by omega)).mono ?_); rintro e w1 ⟨ho, hg1⟩; obtain ⟨⟨A, n, c, rfl, hf⟩, hb1⟩ := PQOut.good ho HPp.out; obtain ⟨xs, hO, hQ⟩ := HK.out.only hg1 hgB; have HX1 := Lib.hid (only_trans HX.out hg1); have HFI := Lib.hid hf; have HO := Lib.hid ((hO.alloc (.cells #[.int .i64 f.org, .int .i64 f.nd, .slice A n c] 44)).alloc (.cells #[.int .i64 f.org, .int .i64 f.nd, .slice A n c] 44)); have HQ := Lib.hid hQ; have HB8 : Hid (Blk (w1.alloc (.cells #[.int .i64 f.org, .int .i64 f.nd, .slice A n c] 44)) w1.heap.size 44 [.int .i64 f.org, .int .i64 f.nd, .slice A n c]) := Lib.hid (Blk.fresh rfl rfl); have HPb := Lib.hid ((hb1.alloc (.cells #[.int .i64 f.org, .int .i64 f.nd, .slice A n c] 44)).alloc (.cells #[.int .i64 f.org, .int .i64 f.nd, .slice A n c] 44)); clear hg1 ho hf hO hQ hb1)
            | (refine wpList_load_blk rfl 44 (.tmp 7) rfl w1.heap.size rfl 44 [.int .i64 f.org, .int .i64 f.nd, .slice A n c] _ HB8.out Tryz.underlying44 rfl (by kernel_rfl) ?_)
            | (refine wpList_build_fm rfl (.tmp 21) rfl [.int .i64 f.org, .int .i64 f.nd, .slice A n c] rfl rfl ?_)
            | (at_builtin; refine wpList_append_lies _ rfl (.tmp 20) (.tmp 22) 42 rfl w.heap.size 44 i0 _ 3 40 Tryz.underlying42 hi hz0 hz1 hz2 rfl (by decide) ov l.length xs rfl HO.out ⟨(w1.alloc (.cells #[.int .i64 f.org, .int .i64 f.nd, .slice A n c] 44)).heap.size, 0, none⟩ 1 1 [.int .i64 f.org, .int .i64 f.nd, .slice A n c] rfl rfl (row_cell' (w := (w1.alloc (.cells #[.int .i64 f.org, .int .i64 f.nd, .slice A n c] 44)).alloc (.cells #[.int .i64 f.org, .int .i64 f.nd, .slice A n c] 44)) (Blk.fresh rfl rfl)) (fun u hu => by simp at hu; rcases hu with rfl | rfl | rfl <;> rfl) (by omega) (by unfold maxLen; omega) (by omega) (by have := HX1.out.size; simp; omega) _ rfl ?_; intro gk cap w4 ho4 hg4 hat hlt; have hOw := (fun j hj => (HO.out.lt j hj).1 : ∀ j, ov.ownBlock = some j → w.heap.size ≤ j); have HK4 := Lib.hid (Kids.snoc HFI.out HX.out.size HOB.out ((Below.refl w1.heap.size w1).alloc (Nat.le_refl _) (.cells #[.int .i64 f.org, .int .i64 f.nd, .slice A n c] 44) |>.alloc (by simp) (.cells #[.int .i64 f.org, .int .i64 f.nd, .slice A n c] 44)) HQ.out ho4 hg4 hat); have HX4 := Lib.hid (only_row' (only_trans HX1.out (only_below (((Below.refl w1.heap.size w1).alloc (Nat.le_refl _) (.cells #[.int .i64 f.org, .int .i64 f.nd, .slice A n c] 44)).alloc (by simp) (.cells #[.int .i64 f.org, .int .i64 f.nd, .slice A n c] 44)))) hg4 hOw); have HB4 := Lib.hid (HPb.out.grown hg4 (fun e => by have := hOw g e.symm; omega)); clear ho4 hg4 hat hlt hOw)
            | (go_at_call 104; (with_reducible refine (HS44.out _ HB4.out).mono ?_); rintro e w5 ⟨rfl, hb5, hg5⟩; (try rw [h44]); have HB5 := Lib.hid hb5; have HX5 := Lib.hid (only_trans HX4.out hg5); have HK5 := Lib.hid (HK4.out.only hg5 hgB); clear hb5 hg5)
            | (go_at_call 104; (with_reducible refine (HS41.out _ HB5.out).mono ?_); rintro e w6 ⟨rfl, hb6, hg6⟩; (try rw [h41]); have HB6 := Lib.hid hb6; have HX6 := Lib.hid (only_trans HX5.out hg6); have HK6 := Lib.hid (HK5.out.only hg6 hgB); clear hb6 hg6))
            go_roundw
            case rel => exact ⟨bareP (r.drop 1), l ++ [f], m, _, rfl, hbi2.out, by omega, by rw [List.length_append, List.length_singleton]; omega, HK5.out, HB5.out, HX5.out, HFin⟩
            case measure => rw [hme, restAt_of HB5.out]; omega
          | false =>
            rw [h44, if_neg (by simp)] at hL
            have hsg : signR 44 r = r := by unfold signR; rw [h44, if_neg (by simp)]; exact hrb
            rw [hsg] at hs44
            have HS44 := Lib.hid hs44
            have hs41 := fun (W : World) h => sign_any 41 g r W h
            cases h41 : begP [41] r with
            | true =>
              rw [h41, if_pos rfl] at hL
              have hsg1 : signR 41 r = bareP (r.drop 1) := by unfold signR; rw [h41, if_pos rfl]
              rw [hsg1] at hs41
              have HS41 := Lib.hid hs41
              have HFin := Lib.hid (show kidsQ (proP k) t = some (l ++ [f], bareP (r.drop 1)) by rw [hrw.out, hL]; rfl)
              clear hs44 hsg hL hrw hrb hs41 hsg1
              go_wp2_with (first
            | (go_at_call 57; (with_reducible refine (HP.out u wr HBr.out HE.out (by omega)).mono ?_); rintro e w1 ⟨ho, hg1⟩; obtain ⟨⟨A, n, c, rfl, hf⟩, hb1⟩ := PQOut.good ho HPp.out; obtain ⟨xs, hO, hQ⟩ := HK.out.only hg1 hgB; have HX1 := Lib.hid (only_trans HX.out hg1); have HFI := Lib.hid hf; have HO := Lib.hid ((hO.alloc (.cells #[.int .i64 f.org, .int .i64 f.nd, .slice A n c] 44)).alloc (.cells #[.int .i64 f.org, .int .i64 f.nd, .slice A n c] 44)); have HQ := Lib.hid hQ; have HB8 : Hid (Blk (w1.alloc (.cells #[.int .i64 f.org, .int .i64 f.nd, .slice A n c] 44)) w1.heap.size 44 [.int .i64 f.org, .int .i64 f.nd, .slice A n c]) := Lib.hid (Blk.fresh rfl rfl); have HPb := Lib.hid ((hb1.alloc (.cells #[.int .i64 f.org, .int .i64 f.nd, .slice A n c] 44)).alloc (.cells #[.int .i64 f.org, .int .i64 f.nd, .slice A n c] 44)); clear hg1 ho hf hO hQ hb1)
            | (refine wpList_load_blk rfl 44 (.tmp 7) rfl w1.heap.size rfl 44 [.int .i64 f.org, .int .i64 f.nd, .slice A n c] _ HB8.out Tryz.underlying44 rfl (by kernel_rfl) ?_)
            | (refine wpList_build_fm rfl (.tmp 21) rfl [.int .i64 f.org, .int .i64 f.nd, .slice A n c] rfl rfl ?_)
            | (at_builtin; refine wpList_append_lies _ rfl (.tmp 20) (.tmp 22) 42 rfl w.heap.size 44 i0 _ 3 40 Tryz.underlying42 hi hz0 hz1 hz2 rfl (by decide) ov l.length xs rfl HO.out ⟨(w1.alloc (.cells #[.int .i64 f.org, .int .i64 f.nd, .slice A n c] 44)).heap.size, 0, none⟩ 1 1 [.int .i64 f.org, .int .i64 f.nd, .slice A n c] rfl rfl (row_cell' (w := (w1.alloc (.cells #[.int .i64 f.org, .int .i64 f.nd, .slice A n c] 44)).alloc (.cells #[.int .i64 f.org, .int .i64 f.nd, .slice A n c] 44)) (Blk.fresh rfl rfl)) (fun u hu => by simp at hu; rcases hu with rfl | rfl | rfl <;> rfl) (by omega) (by unfold maxLen; omega) (by omega) (by have := HX1.out.size; simp; omega) _ rfl ?_; intro gk cap w4 ho4 hg4 hat hlt; have hOw := (fun j hj => (HO.out.lt j hj).1 : ∀ j, ov.ownBlock = some j → w.heap.size ≤ j); have HK4 := Lib.hid (Kids.snoc HFI.out HX.out.size HOB.out ((Below.refl w1.heap.size w1).alloc (Nat.le_refl _) (.cells #[.int .i64 f.org, .int .i64 f.nd, .slice A n c] 44) |>.alloc (by simp) (.cells #[.int .i64 f.org, .int .i64 f.nd, .slice A n c] 44)) HQ.out ho4 hg4 hat); have HX4 := Lib.hid (only_row' (only_trans HX1.out (only_below (((Below.refl w1.heap.size w1).alloc (Nat.le_refl _) (.cells #[.int .i64 f.org, .int .i64 f.nd, .slice A n c] 44)).alloc (by simp) (.cells #[.int .i64 f.org, .int .i64 f.nd, .slice A n c] 44)))) hg4 hOw); have HB4 := Lib.hid (HPb.out.grown hg4 (fun e => by have := hOw g e.symm; omega)); clear ho4 hg4 hat hlt hOw)
            | (go_at_call 104; (with_reducible refine (HS44.out _ HB4.out).mono ?_); rintro e w5 ⟨rfl, hb5, hg5⟩; (try rw [h44]); have HB5 := Lib.hid hb5; have HX5 := Lib.hid (only_trans HX4.out hg5); have HK5 := Lib.hid (HK4.out.only hg5 hgB); clear hb5 hg5)
            | (go_at_call 104; (with_reducible refine (HS41.out _ HB5.out).mono ?_); rintro e w6 ⟨rfl, hb6, hg6⟩; (try rw [h41]); have HB6 := Lib.hid hb6; have HX6 := Lib.hid (only_trans HX5.out hg6); have HK6 := Lib.hid (HK5.out.only hg6 hgB); clear hb6 hg6))
              (try simp only [Exit.inBlock, Exit.then]); refine bodyPost_ret (results_tmp2 rfl _ _ _) rfl ?_
              exact ⟨KQOut.mk_good HFin.out HK6.out HB6.out, HX6.out⟩
            | false =>
              rw [h41, if_neg (by simp)] at hL
              have HS41 := Lib.hid hs41
              have HFin := Lib.hid (show kidsQ (proP k) t = none by rw [hrw.out, hL]; rfl)
              clear hs44 hsg hL hrw hrb hs41
              go_wp2_with (first
            | (go_at_call 57; (with_reducible refine (HP.out u wr HBr.out HE.out (by omega)).mono ?_); rintro e w1 ⟨ho, hg1⟩; obtain ⟨⟨A, n, c, rfl, hf⟩, hb1⟩ := PQOut.good ho HPp.out; obtain ⟨xs, hO, hQ⟩ := HK.out.only hg1 hgB; have HX1 := Lib.hid (only_trans HX.out hg1); have HFI := Lib.hid hf; have HO := Lib.hid ((hO.alloc (.cells #[.int .i64 f.org, .int .i64 f.nd, .slice A n c] 44)).alloc (.cells #[.int .i64 f.org, .int .i64 f.nd, .slice A n c] 44)); have HQ := Lib.hid hQ; have HB8 : Hid (Blk (w1.alloc (.cells #[.int .i64 f.org, .int .i64 f.nd, .slice A n c] 44)) w1.heap.size 44 [.int .i64 f.org, .int .i64 f.nd, .slice A n c]) := Lib.hid (Blk.fresh rfl rfl); have HPb := Lib.hid ((hb1.alloc (.cells #[.int .i64 f.org, .int .i64 f.nd, .slice A n c] 44)).alloc (.cells #[.int .i64 f.org, .int .i64 f.nd, .slice A n c] 44)); clear hg1 ho hf hO hQ hb1)
            | (refine wpList_load_blk rfl 44 (.tmp 7) rfl w1.heap.size rfl 44 [.int .i64 f.org, .int .i64 f.nd, .slice A n c] _ HB8.out Tryz.underlying44 rfl (by kernel_rfl) ?_)
            | (refine wpList_build_fm rfl (.tmp 21) rfl [.int .i64 f.org, .int .i64 f.nd, .slice A n c] rfl rfl ?_)
            | (at_builtin; refine wpList_append_lies _ rfl (.tmp 20) (.tmp 22) 42 rfl w.heap.size 44 i0 _ 3 40 Tryz.underlying42 hi hz0 hz1 hz2 rfl (by decide) ov l.length xs rfl HO.out ⟨(w1.alloc (.cells #[.int .i64 f.org, .int .i64 f.nd, .slice A n c] 44)).heap.size, 0, none⟩ 1 1 [.int .i64 f.org, .int .i64 f.nd, .slice A n c] rfl rfl (row_cell' (w := (w1.alloc (.cells #[.int .i64 f.org, .int .i64 f.nd, .slice A n c] 44)).alloc (.cells #[.int .i64 f.org, .int .i64 f.nd, .slice A n c] 44)) (Blk.fresh rfl rfl)) (fun u hu => by simp at hu; rcases hu with rfl | rfl | rfl <;> rfl) (by omega) (by unfold maxLen; omega) (by omega) (by have := HX1.out.size; simp; omega) _ rfl ?_; intro gk cap w4 ho4 hg4 hat hlt; have hOw := (fun j hj => (HO.out.lt j hj).1 : ∀ j, ov.ownBlock = some j → w.heap.size ≤ j); have HK4 := Lib.hid (Kids.snoc HFI.out HX.out.size HOB.out ((Below.refl w1.heap.size w1).alloc (Nat.le_refl _) (.cells #[.int .i64 f.org, .int .i64 f.nd, .slice A n c] 44) |>.alloc (by simp) (.cells #[.int .i64 f.org, .int .i64 f.nd, .slice A n c] 44)) HQ.out ho4 hg4 hat); have HX4 := Lib.hid (only_row' (only_trans HX1.out (only_below (((Below.refl w1.heap.size w1).alloc (Nat.le_refl _) (.cells #[.int .i64 f.org, .int .i64 f.nd, .slice A n c] 44)).alloc (by simp) (.cells #[.int .i64 f.org, .int .i64 f.nd, .slice A n c] 44)))) hg4 hOw); have HB4 := Lib.hid (HPb.out.grown hg4 (fun e => by have := hOw g e.symm; omega)); clear ho4 hg4 hat hlt hOw)
            | (go_at_call 104; (with_reducible refine (HS44.out _ HB4.out).mono ?_); rintro e w5 ⟨rfl, hb5, hg5⟩; (try rw [h44]); have HB5 := Lib.hid hb5; have HX5 := Lib.hid (only_trans HX4.out hg5); have HK5 := Lib.hid (HK4.out.only hg5 hgB); clear hb5 hg5)
            | (go_at_call 104; (with_reducible refine (HS41.out _ HB5.out).mono ?_); rintro e w6 ⟨rfl, hb6, hg6⟩; (try rw [h41]); have HB6 := Lib.hid hb6; have HX6 := Lib.hid (only_trans HX5.out hg6); have HK6 := Lib.hid (HK5.out.only hg6 hgB); clear hb6 hg6))
              (try simp only [Exit.inBlock, Exit.then]); refine bodyPost_ret (results_tmp2 rfl _ _ _) rfl ?_
              exact ⟨KQOut.mk_bad' HFin.out HK6.out HB6.out, HX6.out⟩
end

section
open Go.RowKit
set_option maxHeartbeats 2000000 in
set_option maxRecDepth 100000 in
theorem ppol_zero (g : Nat) (t : List UInt8) (w : World) (hb : Blk w g 101 [.string (ba t)]) :
    Calls Tryz.prog 57 #[.pointer (some ⟨g, 0, none⟩), .int .i64 11] w fun e w' => PQOut g w.heap.size (proP 0 t) e w' ∧ w.grownBy w' (some g) := by
  have HX := Lib.hid (only_below (g := g) ((Below.refl _ w).alloc (Nat.le_refl _) (.cells #[.int .i64 0, .int .i64 0, .slice none 0 0] 44)))
  have HB : Hid (Blk (w.alloc (.cells #[.int .i64 0, .int .i64 0, .slice none 0 0] 44)) w.heap.size 44 [.int .i64 0, .int .i64 0, .slice none 0 0]) := Lib.hid (Blk.fresh rfl rfl)
  have HPb := Lib.hid (hb.alloc (.cells #[.int .i64 0, .int .i64 0, .slice none 0 0] 44))
  have hgw : g ≠ w.heap.size := by have := hb.lt; omega
  clear hb
  go_enter Tryz.func57, Tryz.ntmps57
  go_wp2_with (first
    | (refine wpList_store_blk rfl 44 (.tmp 4) (.tmp 15) rfl w.heap.size [.int .i64 0, .int .i64 0, .slice none 0 0] rfl rfl 44 [.int .i64 0, .int .i64 0, .slice none 0 0] HB.out (by kernel_rfl) rfl (one3 _ _ _ _ _) ?_; intro wr hbr hgr; have HBr := Lib.hid hbr; have HGr := Lib.hid hgr; have HPr := Lib.hid (HPb.out.grown hgr (fun e => hgw (Option.some.inj e))); have HXr := Lib.hid (only_row' HX.out hgr (fun j hj => by have := Option.some.inj hj; omega)); clear hbr hgr))
  (try simp only [Exit.inBlock, Exit.then]); refine bodyPost_ret (results_cell_row_tmp1 rfl _ _ w.heap.size 44 _ (0, 0) _ rfl HBr.out Tryz.underlying44 rfl (by kernel_rfl)) rfl ?_
  exact ⟨PQOut.mk_bad rfl HPr.out, HXr.out⟩

set_option maxHeartbeats 8000000 in
set_option maxRecDepth 100000 in
theorem ppol_step (k : Nat) (d : Int) (hd : 0 ≤ d ∧ d ≤ 10) (g : Nat)
    (hP : ∀ (t : List UInt8) (w : World), Blk w g 101 [.string (ba t)] → EV w → t.length ≤ 1000 → Calls Tryz.prog 57 #[.pointer (some ⟨g, 0, none⟩), .int .i64 (d + 1)] w fun e w' => PQOut g w.heap.size (proP k t) e w' ∧ w.grownBy w' (some g))
    (t : List UInt8) (w : World) (hb : Blk w g 101 [.string (ba t)]) (he : EV w) (ht : t.length ≤ 1000) :
    Calls Tryz.prog 57 #[.pointer (some ⟨g, 0, none⟩), .int .i64 d] w fun e w' => PQOut g w.heap.size (proP (k + 1) t) e w' ∧ w.grownBy w' (some g) := by
  have hpro := proP_succ k t
  have hli := ba_list
  have c4 : (⟨#[]⟩ : ByteArray).toList = [] := ba_list _
  have hg0 := he.ne hb
  have hgw : g ≠ w.heap.size := by have := hb.lt; omega
  have HX := Lib.hid (only_below (g := g) ((Below.refl _ w).alloc (Nat.le_refl _) (.cells #[.int .i64 0, .int .i64 0, .slice none 0 0] 44)))
  have HB : Hid (Blk (w.alloc (.cells #[.int .i64 0, .int .i64 0, .slice none 0 0] 44)) w.heap.size 44 [.int .i64 0, .int .i64 0, .slice none 0 0]) := Lib.hid (Blk.fresh rfl rfl)
  have HPb := Lib.hid (hb.alloc (.cells #[.int .i64 0, .int .i64 0, .slice none 0 0] 44))
  have HE := Lib.hid (he.alloc (.cells #[.int .i64 0, .int .i64 0, .slice none 0 0] 44))
  have hrd := fun (W : World) h => runD g t W h
  rw [spanP_dg] at hrd
  have hrl := fun (W : World) h => runL g (t1Q t) W h
  have hl1 : (t1Q t).length ≤ t.length := by unfold t1Q; have := bareP_len (t.drop (digP t).length); rw [List.length_drop] at this; omega
  have hl2 : (t2Q t).length ≤ t.length := by unfold t2Q; have := bareP_len ((t1Q t).drop (wQ t).length); rw [List.length_drop] at this; omega
  have hdl := digP_le t
  have hdg : ∀ x, x ∈ digP t → isDg x = true := fun x hx => digP_mem hx
  have hkc := fun (W : World) h he => pkids_any k (d + 1) g hP (t2Q t) W h he (by omega)
  have HKids := Lib.hid hkc
  have HRD : Hid (∀ (W : World), Blk W g 101 [.string (ba t)] → Calls Tryz.prog 72 #[.pointer (some ⟨g, 0, none⟩), .func (.func 73) #[] #[]] W fun e w' => e = .returned (.string (ba (digP t))) ∧ Blk w' g 101 [.string (ba (t1Q t))] ∧ W.grownBy w' (some g)) := Lib.hid hrd
  have HRL : Hid (∀ (W : World), Blk W g 101 [.string (ba (t1Q t))] → Calls Tryz.prog 72 #[.pointer (some ⟨g, 0, none⟩), .func (.func 74) #[] #[]] W fun e w' => e = .returned (.string (ba (wQ t))) ∧ Blk w' g 101 [.string (ba (t2Q t))] ∧ W.grownBy w' (some g)) := Lib.hid hrl
  clear hb he hP hrd hrl hkc hl1
  generalize digP t = dd at *
  generalize t1Q t = t1 at *
  generalize wQ t = u at *
  generalize t2Q t = t2 at *
  go_enter Tryz.func57, Tryz.ntmps57
  cases u with
  | nil =>
    rw [if_pos rfl] at hpro
    have hnum := fun (W : World) he => pnum_any dd hdg (by omega) W he
    cases hn : numD dd with
    | none =>
      rw [hn] at hpro
      simp only at hpro
      have HFin := Lib.hid hpro
      have e1 : numDV dd = 0 := by unfold numDV; rw [hn]
      rw [hn, e1] at hnum
      have HN : Hid (∀ W, EV W → Calls Tryz.prog 75 #[.string (ba dd)] W fun e w' => e = .returned (.tuple #[.int .i64 0, .bool false]) ∧ Below W.heap.size W w') := Lib.hid hnum
      clear hpro hn e1 hnum
      go_wp2_with (first
        | (go_at_call 72; (with_reducible refine (HRD.out _ HPb.out).mono ?_); rintro e w1 ⟨rfl, hb1, hg1⟩; have HP1 := Lib.hid hb1; have HX1 := Lib.hid (only_trans HX.out hg1); have HB1 := Lib.hid (HB.out.grown hg1 (fun e => hgw (Option.some.inj e).symm)); have HE1 := Lib.hid (HE.out.only hg1 hg0); clear hb1 hg1)
        | (go_at_call 72; (with_reducible refine (HRL.out _ HP1.out).mono ?_); rintro e w2 ⟨rfl, hb2, hg2⟩; have HP2 := Lib.hid hb2; have HX2 := Lib.hid (only_trans HX1.out hg2); have HB2 := Lib.hid (HB1.out.grown hg2 (fun e => hgw (Option.some.inj e).symm)); have HE2 := Lib.hid (HE1.out.only hg2 hg0); clear hb2 hg2)
        | (go_at_call 75; (with_reducible refine (HN.out _ HE2.out).mono ?_); rintro e w3 ⟨rfl, hb⟩; have HP3 := Lib.hid (HP2.out.through hb); have HX3 := Lib.hid (only_trans HX2.out (only_below hb)); have HB3 := Lib.hid (HB2.out.through hb); clear hb)
        | (refine wpList_store_blk rfl 44 (.tmp 4) (.tmp 28) rfl w.heap.size [.int .i64 0, .int .i64 0, .slice none 0 0] rfl rfl 44 [.int .i64 0, .int .i64 0, .slice none 0 0] HB3.out (by kernel_rfl) rfl (one3 _ _ _ _ _) ?_; intro wr hbr hgr; have HBr := Lib.hid hbr; have HGr := Lib.hid hgr; have HPr := Lib.hid (HP3.out.grown hgr (fun e => hgw (Option.some.inj e))); have HXr := Lib.hid (only_row' HX3.out hgr (fun j hj => by have := Option.some.inj hj; omega)); clear hbr hgr))
      (try simp only [Exit.inBlock, Exit.then]); refine bodyPost_ret (results_cell_row_tmp1 rfl _ _ w.heap.size 44 _ (0, 0) _ rfl HBr.out Tryz.underlying44 rfl (by kernel_rfl)) rfl ?_
      exact ⟨PQOut.mk_bad HFin.out HPr.out, HXr.out⟩
    | some v =>
      have hv9 := numD_lt hdg hn
      rw [hn] at hpro
      simp only at hpro
      have HFin := Lib.hid hpro
      have e1 : numDV dd = (v : Int) := by unfold numDV; rw [hn]
      rw [hn, e1] at hnum
      have HN : Hid (∀ W, EV W → Calls Tryz.prog 75 #[.string (ba dd)] W fun e w' => e = .returned (.tuple #[.int .i64 (v : Int), .bool true]) ∧ Below W.heap.size W w') := Lib.hid hnum
      clear hpro hn e1 hnum
      go_wp2_with (first
        | (go_at_call 72; (with_reducible refine (HRD.out _ HPb.out).mono ?_); rintro e w1 ⟨rfl, hb1, hg1⟩; have HP1 := Lib.hid hb1; have HX1 := Lib.hid (only_trans HX.out hg1); have HB1 := Lib.hid (HB.out.grown hg1 (fun e => hgw (Option.some.inj e).symm)); have HE1 := Lib.hid (HE.out.only hg1 hg0); clear hb1 hg1)
        | (go_at_call 72; (with_reducible refine (HRL.out _ HP1.out).mono ?_); rintro e w2 ⟨rfl, hb2, hg2⟩; have HP2 := Lib.hid hb2; have HX2 := Lib.hid (only_trans HX1.out hg2); have HB2 := Lib.hid (HB1.out.grown hg2 (fun e => hgw (Option.some.inj e).symm)); have HE2 := Lib.hid (HE1.out.only hg2 hg0); clear hb2 hg2)
        | (go_at_call 75; (with_reducible refine (HN.out _ HE2.out).mono ?_); rintro e w3 ⟨rfl, hb⟩; have HP3 := Lib.hid (HP2.out.through hb); have HX3 := Lib.hid (only_trans HX2.out (only_below hb)); have HB3 := Lib.hid (HB2.out.through hb); clear hb)
        | (refine wpList_store_blk rfl 44 (.tmp 4) (.tmp 28) rfl w.heap.size [.int .i64 (v : Int), .int .i64 0, .slice none 0 0] rfl rfl 44 [.int .i64 0, .int .i64 0, .slice none 0 0] HB3.out (by kernel_rfl) rfl (one3 _ _ _ _ _) ?_; intro wr hbr hgr; have HBr := Lib.hid hbr; have HGr := Lib.hid hgr; have HPr := Lib.hid (HP3.out.grown hgr (fun e => hgw (Option.some.inj e))); have HXr := Lib.hid (only_row' HX3.out hgr (fun j hj => by have := Option.some.inj hj; omega)); clear hbr hgr))
      (try simp only [Exit.inBlock, Exit.then]); refine bodyPost_ret (results_cell_row_tmp1 rfl _ _ w.heap.size 44 _ (0, 0) _ rfl HBr.out Tryz.underlying44 rfl (by kernel_rfl)) rfl ?_
      exact ⟨PQOut.mk_good HFin.out ⟨rfl, by omega, fun h0 => absurd h0 (by omega)⟩ HPr.out, HXr.out⟩
  | cons x u =>
    rw [if_neg (by simp)] at hpro
    have hhow := fun (n : Nat) (W : World) he => how_any dd (x :: u) n hdg (by omega) W he
    have HH := Lib.hid hhow
    have hub : ((x :: u) == ([] : List UInt8)) = false := rfl
    clear hhow
    cases hk : kidsQ (proP k) t2 with
    | none =>
      rw [hk] at hpro
      simp only at hpro
      have HFin := Lib.hid hpro
      have HKp := Lib.hid hk
      have HK := HKids
      clear hpro hk
      go_wp2_with (first
        | (go_at_call 72; (with_reducible refine (HRD.out _ HPb.out).mono ?_); rintro e w1 ⟨rfl, hb1, hg1⟩; have HP1 := Lib.hid hb1; have HX1 := Lib.hid (only_trans HX.out hg1); have HB1 := Lib.hid (HB.out.grown hg1 (fun e => hgw (Option.some.inj e).symm)); have HE1 := Lib.hid (HE.out.only hg1 hg0); clear hb1 hg1)
        | (go_at_call 72; (with_reducible refine (HRL.out _ HP1.out).mono ?_); rintro e w2 ⟨rfl, hb2, hg2⟩; have HP2 := Lib.hid hb2; have HX2 := Lib.hid (only_trans HX1.out hg2); have HB2 := Lib.hid (HB1.out.grown hg2 (fun e => hgw (Option.some.inj e).symm)); have HE2 := Lib.hid (HE1.out.only hg2 hg0); clear hb2 hg2)
        | (go_at_call 76; (with_reducible refine (HK.out _ HP2.out HE2.out).mono ?_); rintro e w3 ⟨ho, hg3⟩; obtain ⟨⟨A, n, c, rfl⟩, s, hb3⟩ := KQOut.bad ho HKp.out; have HP3 := Lib.hid hb3; have HX3 := Lib.hid (only_trans HX2.out hg3); have HB3 := Lib.hid (HB2.out.grown hg3 (fun e => hgw (Option.some.inj e).symm)); clear ho hb3 hg3)
        | (refine wpList_store_blk rfl 44 (.tmp 4) (.tmp 39) rfl w.heap.size [.int .i64 0, .int .i64 0, .slice none 0 0] rfl rfl 44 [.int .i64 0, .int .i64 0, .slice none 0 0] HB3.out (by kernel_rfl) rfl (one3 _ _ _ _ _) ?_; intro wr hbr hgr; have HBr := Lib.hid hbr; have HGr := Lib.hid hgr; have HPr := Lib.hid (HP3.out.grown hgr (fun e => hgw (Option.some.inj e))); have HXr := Lib.hid (only_row' HX3.out hgr (fun j hj => by have := Option.some.inj hj; omega)); clear hbr hgr))
      (try simp only [Exit.inBlock, Exit.then]); refine bodyPost_ret (results_cell_row_tmp1 rfl _ _ w.heap.size 44 _ (0, 0) _ rfl HBr.out Tryz.underlying44 rfl (by kernel_rfl)) rfl ?_
      exact ⟨PQOut.mk_bad HFin.out HPr.out, HXr.out⟩
    | some q =>
      obtain ⟨l, r⟩ := q
      rw [hk] at hpro
      simp only at hpro
      have HKp := Lib.hid hk
      have HK := HKids
      clear hk
      cases hq : howQ dd (x :: u) l.length with
      | none =>
        rw [hq] at hpro
        have HFin := Lib.hid hpro
        have HQ := Lib.hid hq
        clear hpro hq
        go_wp2_with (first
          | (go_at_call 72; (with_reducible refine (HRD.out _ HPb.out).mono ?_); rintro e w1 ⟨rfl, hb1, hg1⟩; have HP1 := Lib.hid hb1; have HX1 := Lib.hid (only_trans HX.out hg1); have HB1 := Lib.hid (HB.out.grown hg1 (fun e => hgw (Option.some.inj e).symm)); have HE1 := Lib.hid (HE.out.only hg1 hg0); clear hb1 hg1)
          | (go_at_call 72; (with_reducible refine (HRL.out _ HP1.out).mono ?_); rintro e w2 ⟨rfl, hb2, hg2⟩; have HP2 := Lib.hid hb2; have HX2 := Lib.hid (only_trans HX1.out hg2); have HB2 := Lib.hid (HB1.out.grown hg2 (fun e => hgw (Option.some.inj e).symm)); have HE2 := Lib.hid (HE1.out.only hg2 hg0); clear hb2 hg2)
          | (go_at_call 76; (with_reducible refine (HK.out _ HP2.out HE2.out).mono ?_); rintro e w3 ⟨ho, hg3⟩; obtain ⟨⟨A, c, rfl, hin⟩, hb3⟩ := KQOut.good ho HKp.out; have HLt := Lib.hid HB2.out.lt; have HIN := Lib.hid hin; have HP3 := Lib.hid hb3; have HX3 := Lib.hid (only_trans HX2.out hg3); have HB3 := Lib.hid (HB2.out.grown hg3 (fun e => hgw (Option.some.inj e).symm)); have HE3 := Lib.hid (HE2.out.only hg3 hg0); clear ho hb3 hg3 hin)
          | (go_at_call 77; (with_reducible refine (HH.out _ _ HE3.out).mono ?_); rintro e w4 ⟨ho, hb⟩; obtain ⟨v, rfl⟩ := HowOut.bad ho HQ.out; have HP4 := Lib.hid (HP3.out.through hb); have HX4 := Lib.hid (only_trans HX3.out (only_below hb)); have HB4 := Lib.hid (HB3.out.through hb); have HI4 := Lib.hid (fun o a => (HIN.out o a).through hb); clear ho hb)
          | (refine wpList_store_blk rfl 44 (.tmp 4) (.tmp 50) rfl w.heap.size [.int .i64 0, .int .i64 v, .slice A l.length c] rfl rfl 44 [.int .i64 0, .int .i64 0, .slice none 0 0] HB4.out (by kernel_rfl) rfl (one3 _ _ _ _ _) ?_; intro wr hbr hgr; have HBr := Lib.hid hbr; have HGr := Lib.hid hgr; have HPr := Lib.hid (HP4.out.grown hgr (fun e => hgw (Option.some.inj e))); have HXr := Lib.hid (only_row' HX4.out hgr (fun j hj => by have := Option.some.inj hj; omega)); clear hbr hgr))
        (try simp only [Exit.inBlock, Exit.then]); refine bodyPost_ret (results_cell_row_tmp1 rfl _ _ w.heap.size 44 _ (0, 0) _ rfl HBr.out Tryz.underlying44 rfl (by kernel_rfl)) rfl ?_
        exact ⟨PQOut.mk_bad HFin.out HPr.out, HXr.out⟩
      | some a =>
        rw [hq] at hpro
        have HFin := Lib.hid hpro
        have HQ := Lib.hid hq
        clear hpro hq
        go_wp2_with (first
          | (go_at_call 72; (with_reducible refine (HRD.out _ HPb.out).mono ?_); rintro e w1 ⟨rfl, hb1, hg1⟩; have HP1 := Lib.hid hb1; have HX1 := Lib.hid (only_trans HX.out hg1); have HB1 := Lib.hid (HB.out.grown hg1 (fun e => hgw (Option.some.inj e).symm)); have HE1 := Lib.hid (HE.out.only hg1 hg0); clear hb1 hg1)
          | (go_at_call 72; (with_reducible refine (HRL.out _ HP1.out).mono ?_); rintro e w2 ⟨rfl, hb2, hg2⟩; have HP2 := Lib.hid hb2; have HX2 := Lib.hid (only_trans HX1.out hg2); have HB2 := Lib.hid (HB1.out.grown hg2 (fun e => hgw (Option.some.inj e).symm)); have HE2 := Lib.hid (HE1.out.only hg2 hg0); clear hb2 hg2)
          | (go_at_call 76; (with_reducible refine (HK.out _ HP2.out HE2.out).mono ?_); rintro e w3 ⟨ho, hg3⟩; obtain ⟨⟨A, c, rfl, hin⟩, hb3⟩ := KQOut.good ho HKp.out; have HLt := Lib.hid HB2.out.lt; have HIN := Lib.hid hin; have HP3 := Lib.hid hb3; have HX3 := Lib.hid (only_trans HX2.out hg3); have HB3 := Lib.hid (HB2.out.grown hg3 (fun e => hgw (Option.some.inj e).symm)); have HE3 := Lib.hid (HE2.out.only hg3 hg0); clear ho hb3 hg3 hin)
          | (go_at_call 77; (with_reducible refine (HH.out _ _ HE3.out).mono ?_); rintro e w4 ⟨ho, hb⟩; obtain rfl := HowOut.good ho HQ.out; have HP4 := Lib.hid (HP3.out.through hb); have HX4 := Lib.hid (only_trans HX3.out (only_below hb)); have HB4 := Lib.hid (HB3.out.through hb); have HI4 := Lib.hid (fun o a => (HIN.out o a).through hb); clear ho hb)
          | (refine wpList_store_blk rfl 44 (.tmp 4) (.tmp 50) rfl w.heap.size [.int .i64 0, .int .i64 (a : Int), .slice A l.length c] rfl rfl 44 [.int .i64 0, .int .i64 0, .slice none 0 0] HB4.out (by kernel_rfl) rfl (one3 _ _ _ _ _) ?_; intro wr hbr hgr; have HBr := Lib.hid hbr; have HGr := Lib.hid hgr; have HPr := Lib.hid (HP4.out.grown hgr (fun e => hgw (Option.some.inj e))); have HXr := Lib.hid (only_row' HX4.out hgr (fun j hj => by have := Option.some.inj hj; omega)); clear hbr hgr))
        (try simp only [Exit.inBlock, Exit.then]); refine bodyPost_ret (results_cell_row_tmp1 rfl _ _ w.heap.size 44 _ (0, 0) _ rfl HBr.out Tryz.underlying44 rfl (by kernel_rfl)) rfl ?_
        exact ⟨PQOut.mk_good HFin.out (((HI4.out _ _).past HGr.out HLt.out).from_ (Nat.le_of_lt HLt.out)) HPr.out, HXr.out⟩

theorem ppol_all (g : Nat) : ∀ (k : Nat) (d : Int), d = 11 - (k : Int) → k ≤ 10 → ∀ (t : List UInt8) (w : World), Blk w g 101 [.string (ba t)] → EV w → t.length ≤ 1000 →
    Calls Tryz.prog 57 #[.pointer (some ⟨g, 0, none⟩), .int .i64 d] w fun e w' => PQOut g w.heap.size (proP k t) e w' ∧ w.grownBy w' (some g)
  | 0, d, hd, _, t, w, hb, _, _ => by
    have e : d = 11 := by omega
    rw [e]
    exact ppol_zero g t w hb
  | k + 1, d, hd, hk, t, w, hb, he, ht => ppol_step k d (by omega) g (fun t w hb he ht => ppol_all g k (d + 1) (by omega) (by omega) t w hb he ht) t w hb he ht
end

section
open Go.RowKit
theorem polP_bare (k : Nat) (t : List UInt8) : polP (k + 1) (bareP t) = polP (k + 1) t := by rw [polP_succ, polP_succ, bareP_idem]

set_option maxHeartbeats 8000000 in
set_option maxRecDepth 100000 in
theorem pparse_any (t : List UInt8) (n : Int) (w : World) (ht : t.length ≤ 1000) (he : EV w) :
    Calls Tryz.prog 38 #[.string (ba t), .int .i64 n] w fun e w' => ParseOut w.heap.size (parseP t n) e w' ∧ Below w.heap.size w w' := by
  have hsz := ba_size
  have hli := ba_list
  have hnil := ba_nil
  go_enter Tryz.func38, Tryz.ntmps38
  by_cases hlong : 200 < t.length
  · have HFin := Lib.hid (parse_long (n := n) hlong)
    have HX : Hid (Below w.heap.size w (w.alloc (.cells #[.int .i64 0, .int .i64 0, .slice none 0 0] 44))) := Lib.hid ((Below.refl _ w).alloc (Nat.le_refl _) _)
    have HB : Hid (Blk (w.alloc (.cells #[.int .i64 0, .int .i64 0, .slice none 0 0] 44)) w.heap.size 44 [.int .i64 0, .int .i64 0, .slice none 0 0]) := Lib.hid (Blk.fresh rfl rfl)
    go_wp2_with (first
      | (refine wpList_store_blk rfl 44 (.tmp 4) (.tmp 13) rfl w.heap.size [.int .i64 0, .int .i64 0, .slice none 0 0] rfl rfl 44 [.int .i64 0, .int .i64 0, .slice none 0 0] HB.out (by kernel_rfl) rfl (one3 _ _ _ _ _) ?_; intro wr hbr hgr; have HBr := Lib.hid hbr; have HGr := Lib.hid hgr; have HXr := Lib.hid (below_block HX.out hgr (Nat.le_refl _) (Nat.le_refl _)); clear hbr hgr))
    (try simp only [Exit.inBlock, Exit.then]); refine bodyPost_ret (results_cell_row_tmp1 rfl _ _ w.heap.size 44 _ (0, 0) _ rfl HBr.out Tryz.underlying44 rfl (by kernel_rfl)) rfl ?_
    exact ⟨ParseOut.err HFin.out, HXr.out⟩
  · have hl9 : t.length ≤ 200 := by omega
    have HX : Hid (Below w.heap.size w ((w.alloc (.cells #[.int .i64 0, .int .i64 0, .slice none 0 0] 44)).alloc (.cells #[.string (ba t)] 101))) := Lib.hid (((Below.refl _ w).alloc (Nat.le_refl _) _).alloc (by simp) _)
    have HB : Hid (Blk ((w.alloc (.cells #[.int .i64 0, .int .i64 0, .slice none 0 0] 44)).alloc (.cells #[.string (ba t)] 101)) w.heap.size 44 [.int .i64 0, .int .i64 0, .slice none 0 0]) := Lib.hid ((Blk.fresh (w := w) (g := w.heap.size) (t := 44) (cs := [.int .i64 0, .int .i64 0, .slice none 0 0]) rfl rfl).alloc _)
    have HP : Hid (Blk ((w.alloc (.cells #[.int .i64 0, .int .i64 0, .slice none 0 0] 44)).alloc (.cells #[.string (ba t)] 101)) (w.heap.size + 1) 101 [.string (ba t)]) := Lib.hid (Blk.fresh (by simp) rfl)
    have HE := Lib.hid ((he.alloc (.cells #[.int .i64 0, .int .i64 0, .slice none 0 0] 44)).alloc (.cells #[.string (ba t)] 101))
    have hg0 := HE.out.ne HP.out
    have HBl := Lib.hid (fun (W : World) h => blanks_any (w.heap.size + 1) t W h)
    have hbl := bareP_len t
    have hpl : ∀ (W : World), Blk W (w.heap.size + 1) 101 [.string (ba (bareP t))] → EV W → Calls Tryz.prog 57 #[.pointer (some ⟨w.heap.size + 1, 0, none⟩), .int .i64 1] W fun e w' => PQOut (w.heap.size + 1) W.heap.size (proP 10 (bareP t)) e w' ∧ W.grownBy w' (some (w.heap.size + 1)) := fun W h1 h2 => ppol_all (w.heap.size + 1) 10 1 (by omega) (by omega) (bareP t) W h1 h2 (by omega)
    have HPl := Lib.hid hpl
    have ha := pol_agrees 10 t
    have hbi := bareP_idem t
    clear hpl he
    cases hp : proP 10 (bareP t) with
    | none =>
      have hfin : parseP t n = (.mk 0 0 [], 2) := by
        cases hq : polP 10 t with
        | none => exact parse_none hlong hq
        | some q =>
          obtain ⟨f, r⟩ := q
          refine parse_rest hlong hq fun e => ?_
          rcases ha.1 f r hq with h1 | ⟨_, h2⟩
          · rw [hp] at h1; cases h1
          · rw [e] at h2; cases h2
      have HFin := Lib.hid hfin
      have HPp := Lib.hid hp
      clear hfin hp ha
      go_wp2_with (first
        | (go_at_call 56; (with_reducible refine (HBl.out _ HP.out).mono ?_); rintro e w1 ⟨rfl, hb1, hg1⟩; have HP1 := Lib.hid hb1; have HX1 := Lib.hid (below_block HX.out hg1 (by omega) (Nat.le_refl _)); have HB1 := Lib.hid (HB.out.grown hg1 (fun e => by have := Option.some.inj e; omega)); have HE1 := Lib.hid (HE.out.only hg1 hg0); clear hb1 hg1)
        | (go_at_call 57; (with_reducible refine (HPl.out _ HP1.out HE1.out).mono ?_); rintro e w2 ⟨ho, hg2⟩; obtain ⟨⟨o, a, A, m, c, rfl⟩, s, hb2⟩ := PQOut.bad ho HPp.out; have HX2 := Lib.hid ((below_block HX1.out hg2 (by omega) (Nat.le_refl _)).alloc (by have := HX1.out.size; have := hg2.size; omega) (.cells #[.int .i64 o, .int .i64 a, .slice A m c] 44)); have HB2 := Lib.hid ((HB1.out.grown hg2 (fun e => by have := Option.some.inj e; omega)).alloc (.cells #[.int .i64 o, .int .i64 a, .slice A m c] 44)); clear ho hb2 hg2)
        | (refine wpList_store_blk rfl 44 (.tmp 4) (.tmp 28) rfl w.heap.size [.int .i64 0, .int .i64 0, .slice none 0 0] rfl rfl 44 [.int .i64 0, .int .i64 0, .slice none 0 0] HB2.out (by kernel_rfl) rfl (one3 _ _ _ _ _) ?_; intro wr hbr hgr; have HBr := Lib.hid hbr; have HGr := Lib.hid hgr; have HXr := Lib.hid (below_block HX2.out hgr (Nat.le_refl _) (Nat.le_refl _)); clear hbr hgr))
      (try simp only [Exit.inBlock, Exit.then]); refine bodyPost_ret (results_cell_row_tmp1 rfl _ _ w.heap.size 44 _ (0, 0) _ rfl HBr.out Tryz.underlying44 rfl (by kernel_rfl)) rfl ?_
      exact ⟨ParseOut.err HFin.out, HXr.out⟩
    | some q =>
      obtain ⟨f, r⟩ := q
      obtain ⟨htk, htd, _, r', hpr, hrr⟩ := pro_takes hbi hp
      rw [polP_bare 9 t] at hpr
      have HPp := Lib.hid hp
      clear hp ha hbi
      cases r with
      | cons x r =>
        have HFin := Lib.hid (parse_rest (n := n) hlong hpr (by rw [← hrr]; simp))
        clear hpr hrr
        go_wp2_with (first
          | (go_at_call 56; (with_reducible refine (HBl.out _ HP.out).mono ?_); rintro e w1 ⟨rfl, hb1, hg1⟩; have HP1 := Lib.hid hb1; have HX1 := Lib.hid (below_block HX.out hg1 (by omega) (Nat.le_refl _)); have HB1 := Lib.hid (HB.out.grown hg1 (fun e => by have := Option.some.inj e; omega)); have HE1 := Lib.hid (HE.out.only hg1 hg0); clear hb1 hg1)
          | (go_at_call 57; (with_reducible refine (HPl.out _ HP1.out HE1.out).mono ?_); rintro e w2 ⟨ho, hg2⟩; obtain ⟨⟨A, m, c, rfl, hf⟩, hb2⟩ := PQOut.good ho HPp.out; have HLt := Lib.hid HB1.out.lt; have HX2 := Lib.hid ((below_block HX1.out hg2 (by omega) (Nat.le_refl _)).alloc (by have := HX1.out.size; have := hg2.size; omega) (.cells #[.int .i64 f.org, .int .i64 f.nd, .slice A m c] 44)); have HB2 := Lib.hid ((HB1.out.grown hg2 (fun e => by have := Option.some.inj e; omega)).alloc (.cells #[.int .i64 f.org, .int .i64 f.nd, .slice A m c] 44)); have HP2 := Lib.hid (hb2.alloc (.cells #[.int .i64 f.org, .int .i64 f.nd, .slice A m c] 44)); have c2 := HP2.out.cellAt (i := 0) rfl; have HI := Lib.hid (hf.alloc (.cells #[.int .i64 f.org, .int .i64 f.nd, .slice A m c] 44)); have HB7 : Hid (Blk (w2.alloc (.cells #[.int .i64 f.org, .int .i64 f.nd, .slice A m c] 44)) w2.heap.size 44 [.int .i64 f.org, .int .i64 f.nd, .slice A m c]) := Lib.hid (Blk.fresh rfl rfl); clear ho hb2 hg2 hf)
          | (refine wpList_store_blk rfl 44 (.tmp 4) (.tmp 28) rfl w.heap.size [.int .i64 0, .int .i64 0, .slice none 0 0] rfl rfl 44 [.int .i64 0, .int .i64 0, .slice none 0 0] HB2.out (by kernel_rfl) rfl (one3 _ _ _ _ _) ?_; intro wr hbr hgr; have HBr := Lib.hid hbr; have HGr := Lib.hid hgr; have HXr := Lib.hid (below_block HX2.out hgr (Nat.le_refl _) (Nat.le_refl _)); clear hbr hgr))
        (try simp only [Exit.inBlock, Exit.then]); refine bodyPost_ret (results_cell_row_tmp1 rfl _ _ w.heap.size 44 _ (0, 0) _ rfl HBr.out Tryz.underlying44 rfl (by kernel_rfl)) rfl ?_
        exact ⟨ParseOut.err HFin.out, HXr.out⟩
      | nil =>
        have hcall : ∀ (A : Option Addr) (m c : Nat) (W : World), f.In W (fun _ => True) A m → Calls Tryz.prog 58 #[.agg #[.int .i64 f.org, .int .i64 f.nd, .slice A m c], .int .i64 n] W fun e w' => e = .returned (.int .i64 (f.check n)) ∧ Below W.heap.size W w' := fun A m c W hin => check_any f n A m c W ⟨by omega, by omega⟩ hin
        have HC := Lib.hid hcall
        clear hcall
        by_cases hc : f.check n = 0
        · have HFin := Lib.hid (parse_ok (n := n) hlong hpr hrr.symm hc)
          rw [hc] at HC
          clear hpr hrr hc
          go_wp2_with (first
            | (go_at_call 56; (with_reducible refine (HBl.out _ HP.out).mono ?_); rintro e w1 ⟨rfl, hb1, hg1⟩; have HP1 := Lib.hid hb1; have HX1 := Lib.hid (below_block HX.out hg1 (by omega) (Nat.le_refl _)); have HB1 := Lib.hid (HB.out.grown hg1 (fun e => by have := Option.some.inj e; omega)); have HE1 := Lib.hid (HE.out.only hg1 hg0); clear hb1 hg1)
            | (go_at_call 57; (with_reducible refine (HPl.out _ HP1.out HE1.out).mono ?_); rintro e w2 ⟨ho, hg2⟩; obtain ⟨⟨A, m, c, rfl, hf⟩, hb2⟩ := PQOut.good ho HPp.out; have HLt := Lib.hid HB1.out.lt; have HX2 := Lib.hid ((below_block HX1.out hg2 (by omega) (Nat.le_refl _)).alloc (by have := HX1.out.size; have := hg2.size; omega) (.cells #[.int .i64 f.org, .int .i64 f.nd, .slice A m c] 44)); have HB2 := Lib.hid ((HB1.out.grown hg2 (fun e => by have := Option.some.inj e; omega)).alloc (.cells #[.int .i64 f.org, .int .i64 f.nd, .slice A m c] 44)); have HP2 := Lib.hid (hb2.alloc (.cells #[.int .i64 f.org, .int .i64 f.nd, .slice A m c] 44)); have c2 := HP2.out.cellAt (i := 0) rfl; have HI := Lib.hid (hf.alloc (.cells #[.int .i64 f.org, .int .i64 f.nd, .slice A m c] 44)); have HB7 : Hid (Blk (w2.alloc (.cells #[.int .i64 f.org, .int .i64 f.nd, .slice A m c] 44)) w2.heap.size 44 [.int .i64 f.org, .int .i64 f.nd, .slice A m c]) := Lib.hid (Blk.fresh rfl rfl); clear ho hb2 hg2 hf)
            | (refine wpList_load_blk rfl 44 (.tmp 7) rfl w2.heap.size rfl 44 [.int .i64 f.org, .int .i64 f.nd, .slice A m c] _ HB7.out Tryz.underlying44 rfl (by kernel_rfl) ?_)
            | (go_at_call 58; (with_reducible refine (HC.out _ _ _ _ (Fm.In.any HI.out)).mono ?_); rintro e w3 ⟨rfl, hb⟩; have HX2 := Lib.hid (below_step HX2.out hb); have HB2 := Lib.hid (HB2.out.through hb); have HI := Lib.hid (HI.out.through hb); have HB7 := Lib.hid (HB7.out.through hb); clear hb)
            | (refine wpList_store_blk rfl 44 (.tmp 4) (.tmp 36) rfl w.heap.size [.int .i64 f.org, .int .i64 f.nd, .slice A m c] rfl rfl 44 [.int .i64 0, .int .i64 0, .slice none 0 0] HB2.out (by kernel_rfl) rfl (one3 _ _ _ _ _) ?_; intro wr hbr hgr; have HBr := Lib.hid hbr; have HGr := Lib.hid hgr; have HXr := Lib.hid (below_block HX2.out hgr (Nat.le_refl _) (Nat.le_refl _)); clear hbr hgr))
          (try simp only [Exit.inBlock, Exit.then]); refine bodyPost_ret (results_cell_row_tmp1 rfl _ _ w.heap.size 44 _ (0, 0) _ rfl HBr.out Tryz.underlying44 rfl (by kernel_rfl)) rfl ?_
          exact ⟨ParseOut.mk_good HFin.out (((HI.out.past HGr.out HLt.out)).from_ (Nat.le_of_lt HLt.out)), HXr.out⟩
        · have HFin := Lib.hid (parse_check (n := n) hlong hpr hrr.symm hc)
          obtain ⟨x, hx⟩ : ∃ x, f.check n = x := ⟨_, rfl⟩
          rw [hx] at HC HFin hc
          have hxb : (x == 0) = false := by simp; omega
          clear hpr hrr hx
          go_wp2_with (first
            | (go_at_call 56; (with_reducible refine (HBl.out _ HP.out).mono ?_); rintro e w1 ⟨rfl, hb1, hg1⟩; have HP1 := Lib.hid hb1; have HX1 := Lib.hid (below_block HX.out hg1 (by omega) (Nat.le_refl _)); have HB1 := Lib.hid (HB.out.grown hg1 (fun e => by have := Option.some.inj e; omega)); have HE1 := Lib.hid (HE.out.only hg1 hg0); clear hb1 hg1)
            | (go_at_call 57; (with_reducible refine (HPl.out _ HP1.out HE1.out).mono ?_); rintro e w2 ⟨ho, hg2⟩; obtain ⟨⟨A, m, c, rfl, hf⟩, hb2⟩ := PQOut.good ho HPp.out; have HLt := Lib.hid HB1.out.lt; have HX2 := Lib.hid ((below_block HX1.out hg2 (by omega) (Nat.le_refl _)).alloc (by have := HX1.out.size; have := hg2.size; omega) (.cells #[.int .i64 f.org, .int .i64 f.nd, .slice A m c] 44)); have HB2 := Lib.hid ((HB1.out.grown hg2 (fun e => by have := Option.some.inj e; omega)).alloc (.cells #[.int .i64 f.org, .int .i64 f.nd, .slice A m c] 44)); have HP2 := Lib.hid (hb2.alloc (.cells #[.int .i64 f.org, .int .i64 f.nd, .slice A m c] 44)); have c2 := HP2.out.cellAt (i := 0) rfl; have HI := Lib.hid (hf.alloc (.cells #[.int .i64 f.org, .int .i64 f.nd, .slice A m c] 44)); have HB7 : Hid (Blk (w2.alloc (.cells #[.int .i64 f.org, .int .i64 f.nd, .slice A m c] 44)) w2.heap.size 44 [.int .i64 f.org, .int .i64 f.nd, .slice A m c]) := Lib.hid (Blk.fresh rfl rfl); clear ho hb2 hg2 hf)
            | (refine wpList_load_blk rfl 44 (.tmp 7) rfl w2.heap.size rfl 44 [.int .i64 f.org, .int .i64 f.nd, .slice A m c] _ HB7.out Tryz.underlying44 rfl (by kernel_rfl) ?_)
            | (go_at_call 58; (with_reducible refine (HC.out _ _ _ _ (Fm.In.any HI.out)).mono ?_); rintro e w3 ⟨rfl, hb⟩; have HX2 := Lib.hid (below_step HX2.out hb); have HB2 := Lib.hid (HB2.out.through hb); have HI := Lib.hid (HI.out.through hb); have HB7 := Lib.hid (HB7.out.through hb); clear hb)
            | (refine wpList_store_blk rfl 44 (.tmp 4) (.tmp 34) rfl w.heap.size [.int .i64 0, .int .i64 0, .slice none 0 0] rfl rfl 44 [.int .i64 0, .int .i64 0, .slice none 0 0] HB2.out (by kernel_rfl) rfl (one3 _ _ _ _ _) ?_; intro wr hbr hgr; have HBr := Lib.hid hbr; have HGr := Lib.hid hgr; have HXr := Lib.hid (below_block HX2.out hgr (Nat.le_refl _) (Nat.le_refl _)); clear hbr hgr))
          (try simp only [Exit.inBlock, Exit.then]); refine bodyPost_ret (results_cell_row_tmp1 rfl _ _ w.heap.size 44 _ (0, 0) _ rfl HBr.out Tryz.underlying44 rfl (by kernel_rfl)) rfl ?_
          exact ⟨ParseOut.err HFin.out, HXr.out⟩
end

end Go.Proofs.YtfflkodgojiklaaGreatDoor
