/-
  An entry that is being done, step by step: what holds ahead of each step.
-/
import Derived.Test.YtfflkodgojiklaaGreatDoorCoRD
import Derived.Test.YtfflkodgojiklaaGreatDoorCoAK
import Derived.Test.YtfflkodgojiklaaGreatDoorCoST
import Derived.Test.YtfflkodgojiklaaGreatDoorCoSO
import Derived.Test.YtfflkodgojiklaaGreatDoorCoPY
import Derived.Test.YtfflkodgojiklaaGreatDoorCoSG
import Derived.Test.YtfflkodgojiklaaGreatDoorCoFI
namespace Go.Proofs.YtfflkodgojiklaaGreatDoor
open Go.RowKit

/-- where it stands, but for the entry itself -/
structure DBase (w W : World) (g gs : Nat) (y : Ey) (l : Lg) (A : Option Addr) (nn c : Nat) (B : Option Addr) (m d : Nat) : Prop where
  hb : Below w.heap.size w W
  hf : Blk W gs 63 [.func (.func 19) #[.pointer (some ⟨g, 0, none⟩)] #[], .func (.func 20) #[.pointer (some ⟨g, 0, none⟩)] #[], .func (.func 21) #[.pointer (some ⟨g, 0, none⟩)] #[], .func (.func 22) #[.pointer (some ⟨g, 0, none⟩)] #[], .func (.func 23) #[.pointer (some ⟨g, 0, none⟩)] #[], .func (.func 24) #[.pointer (some ⟨g, 0, none⟩)] #[]]
  b3 : Blk W w.heap.size 25 [.int .i64 l.sq, .int .i64 l.tt, .slice A nn c, .slice B m d]
  b4 : Blk W (w.heap.size + 1) 30 [.int .i64 y.co.cl, .int .i64 y.co.sp, .int .i64 y.co.op, .string (ba y.co.lt), .int .i64 y.co.a, .int .i64 y.co.b, .string (ba y.co.tx), .int .u32 (y.ms : Int)]
  b6 : Blk W (w.heap.size + 2) 25 [.int .i64 0, .int .i64 0, .slice none 0 0, .slice none 0 0]
theorem DBase.step {w W W' : World} {g gs : Nat} {y : Ey} {l : Lg} {A : Option Addr} {nn c : Nat} {B : Option Addr} {m d : Nat} (h : DBase w W g gs y l A nn c B m d) (hg : w.heap.size + 3 ≤ g) (hne : gs ≠ g) (k : W.grownBy W' (some g)) : DBase w W' g gs y l A nn c B m d :=
  ⟨h.hb.grown k h.hb.size (fun j hj => by have := Option.some.inj hj; omega), h.hf.grown k (fun e => hne (Option.some.inj e)), h.b3.grown k (fun e => by have := Option.some.inj e; omega), h.b4.grown k (fun e => by have := Option.some.inj e; omega), h.b6.grown k (fun e => by have := Option.some.inj e; omega)⟩
/-- the ledger behind an entry that is OK -/
def finL (l : Lg) (y : Ey) : Lg := ⟨(withL l (nextD (oldL l y.co) y.co)).1.sq, (payL y.co.op (withL l (nextD (oldL l y.co) y.co)).1.tt (nextD (oldL l y.co) y.co).am).1, (withL l (nextD (oldL l y.co) y.co)).1.ls, (withL l (nextD (oldL l y.co) y.co)).1.os⟩
/-- what each step answers -/
def erD (l : Lg) (y : Ey) (n : Int) (i : Nat) : Int :=
  match i with
  | 0 => if (findR (findL y.co.lt l.ls)).2 = false ∧ y.co.op ≠ 1 then 7 else 0
  | 1 => if (readL l y.co n).2 ≠ 0 then 2 else 0
  | 2 => if (readL l y.co n).1.hold y.ms = false then 9 else 0
  | 3 => (stepL (oldL l y.co) y.co.op y.co.a y.co.b y.co.tx).2
  | 4 => (withL l (nextD (oldL l y.co) y.co)).2
  | _ => (payL y.co.op (withL l (nextD (oldL l y.co) y.co)).1.tt (nextD (oldL l y.co) y.co).am).2
theorem resD_err (l : Lg) (y : Ey) (n : Int) : firstF (erD l y n) 6 0 = (resD l y n).2 := by
  have e : firstF (erD l y n) 6 0 = (if erD l y n 0 ≠ 0 then erD l y n 0 else if erD l y n 1 ≠ 0 then erD l y n 1 else if erD l y n 2 ≠ 0 then erD l y n 2 else if erD l y n 3 ≠ 0 then erD l y n 3 else if erD l y n 4 ≠ 0 then erD l y n 4 else if erD l y n 5 ≠ 0 then erD l y n 5 else 0) := rfl
  have e0 : erD l y n 0 = if (findR (findL y.co.lt l.ls)).2 = false ∧ y.co.op ≠ 1 then 7 else 0 := rfl
  have e1 : erD l y n 1 = if (readL l y.co n).2 ≠ 0 then 2 else 0 := rfl
  have e2 : erD l y n 2 = if (readL l y.co n).1.hold y.ms = false then 9 else 0 := rfl
  have e3 : erD l y n 3 = (stepL (oldL l y.co) y.co.op y.co.a y.co.b y.co.tx).2 := rfl
  have e4 : erD l y n 4 = (withL l (nextD (oldL l y.co) y.co)).2 := rfl
  have e5 : erD l y n 5 = (payL y.co.op (withL l (nextD (oldL l y.co) y.co)).1.tt (nextD (oldL l y.co) y.co).am).2 := rfl
  rw [e]
  unfold resD
  by_cases h0 : (findR (findL y.co.lt l.ls)).2 = false ∧ y.co.op ≠ 1
  · rw [e0, if_pos h0, if_pos h0, if_pos (by decide)]
  rw [e0, if_neg h0, if_neg h0, if_neg (by decide)]
  by_cases h1 : (readL l y.co n).2 ≠ 0
  · rw [e1, if_pos h1, if_pos h1, if_pos (by decide)]
  rw [e1, if_neg h1, if_neg h1, if_neg (by decide)]
  by_cases h2 : (readL l y.co n).1.hold y.ms = false
  · rw [e2, if_pos h2, if_pos h2, if_pos (by decide)]
  rw [e2, if_neg h2, if_neg h2, if_neg (by decide), e3]
  by_cases h3 : (stepL (oldL l y.co) y.co.op y.co.a y.co.b y.co.tx).2 ≠ 0
  · rw [if_pos h3, if_pos h3]
  rw [if_neg h3, if_neg h3, e4]
  by_cases h4 : (withL l (nextD (oldL l y.co) y.co)).2 ≠ 0
  · rw [if_pos h4, if_pos h4]
  rw [if_neg h4, if_neg h4, e5]
  by_cases h5 : (payL y.co.op (withL l (nextD (oldL l y.co) y.co)).1.tt (nextD (oldL l y.co) y.co).am).2 ≠ 0
  · rw [if_pos h5, if_pos h5]
  rw [if_neg h5, if_neg h5]
theorem resD_led (l : Lg) (y : Ey) (n : Int) : ((resD l y n).2 = 0 → (resD l y n).1 = finL l y) ∧ ((resD l y n).2 ≠ 0 → (resD l y n).1 = l) := by
  unfold resD
  by_cases h0 : (findR (findL y.co.lt l.ls)).2 = false ∧ y.co.op ≠ 1
  · rw [if_pos h0]; exact ⟨fun h => absurd h (by simp), fun _ => rfl⟩
  rw [if_neg h0]
  by_cases h1 : (readL l y.co n).2 ≠ 0
  · rw [if_pos h1]; exact ⟨fun h => absurd h (by simp), fun _ => rfl⟩
  rw [if_neg h1]
  by_cases h2 : (readL l y.co n).1.hold y.ms = false
  · rw [if_pos h2]; exact ⟨fun h => absurd h (by simp), fun _ => rfl⟩
  rw [if_neg h2]
  by_cases h3 : (stepL (oldL l y.co) y.co.op y.co.a y.co.b y.co.tx).2 ≠ 0
  · rw [if_pos h3]; exact ⟨fun h => absurd h h3, fun _ => rfl⟩
  rw [if_neg h3]
  by_cases h4 : (withL l (nextD (oldL l y.co) y.co)).2 ≠ 0
  · rw [if_pos h4]; exact ⟨fun h => absurd h h4, fun _ => rfl⟩
  rw [if_neg h4]
  by_cases h5 : (payL y.co.op (withL l (nextD (oldL l y.co) y.co)).1.tt (nextD (oldL l y.co) y.co).am).2 ≠ 0
  · rw [if_pos h5]; exact ⟨fun h => absurd h h5, fun _ => rfl⟩
  rw [if_neg h5]
  exact ⟨fun _ => rfl, fun h => absurd rfl h⟩
theorem parseP_check {t : List UInt8} {n : Int} (h : (parseP t n).2 = 0) : (parseP t n).1.check n = 0 := by
  unfold parseP at h ⊢
  split at h
  · cases h
  rename_i hl
  rw [if_neg hl]
  cases hp : polP 10 t with
  | none => rw [hp] at h; cases h
  | some q =>
    obtain ⟨f, r⟩ := q
    rw [hp] at h
    simp only at h ⊢
    split at h
    · cases h
    rename_i hr
    rw [if_neg hr]
    split at h
    · rename_i hc; exact absurd h hc
    · rename_i hc
      rw [if_neg hc]
      simpa using hc

/-- what holds ahead of the i-th step -/
def PD (w : World) (g gs : Nat) (y : Ey) (n : Int) (l : Lg) (A : Option Addr) (nn c : Nat) (B : Option Addr) (m d : Nat) (i : Nat) (W : World) : Prop :=
  match i with
  | 0 => DBase w W g gs y l A nn c B m d ∧ Blk W g 61 [.int .i64 y.co.cl, .int .i64 y.co.sp, .int .i64 y.co.op, .string (ba y.co.lt), .int .i64 y.co.a, .int .i64 y.co.b, .string (ba y.co.tx), .int .u32 (y.ms : Int), .int .i64 n, .int .i64 l.sq, .int .i64 l.tt, .slice A nn c, .slice B m d, .string (ba []), .int .i64 0, .int .i64 0, .int .i64 0, .string (ba []), .string (ba []), .int .i64 0, .int .i64 0, .slice none 0 0]
  | 1 => DBase w W g gs y l A nn c B m d ∧ Blk W g 61 [.int .i64 y.co.cl, .int .i64 y.co.sp, .int .i64 y.co.op, .string (ba y.co.lt), .int .i64 y.co.a, .int .i64 y.co.b, .string (ba y.co.tx), .int .u32 (y.ms : Int), .int .i64 n, .int .i64 l.sq, .int .i64 l.tt, .slice A nn c, .slice B m d, .string (ba (oldL l y.co).nm), .int .i64 (oldL l y.co).st, .int .i64 (oldL l y.co).am, .int .i64 (oldL l y.co).du, .string (ba (oldL l y.co).po), .string (ba (oldL l y.co).pa), .int .i64 0, .int .i64 0, .slice none 0 0]
  | 2 => DBase w W g gs y l A nn c B m d ∧ (readL l y.co n).2 = 0 ∧ ∃ F k kc, Blk W g 61 [.int .i64 y.co.cl, .int .i64 y.co.sp, .int .i64 y.co.op, .string (ba y.co.lt), .int .i64 y.co.a, .int .i64 y.co.b, .string (ba y.co.tx), .int .u32 (y.ms : Int), .int .i64 n, .int .i64 l.sq, .int .i64 l.tt, .slice A nn c, .slice B m d, .string (ba (oldL l y.co).nm), .int .i64 (oldL l y.co).st, .int .i64 (oldL l y.co).am, .int .i64 (oldL l y.co).du, .string (ba (oldL l y.co).po), .string (ba (oldL l y.co).pa), .int .i64 (readL l y.co n).1.org, .int .i64 (readL l y.co n).1.nd, .slice F k kc] ∧ (readL l y.co n).1.In W (fun _ => True) F k
  | 3 => DBase w W g gs y l A nn c B m d ∧ ∃ o a F k kc, Blk W g 61 [.int .i64 y.co.cl, .int .i64 y.co.sp, .int .i64 y.co.op, .string (ba y.co.lt), .int .i64 y.co.a, .int .i64 y.co.b, .string (ba y.co.tx), .int .u32 (y.ms : Int), .int .i64 n, .int .i64 l.sq, .int .i64 l.tt, .slice A nn c, .slice B m d, .string (ba (oldL l y.co).nm), .int .i64 (oldL l y.co).st, .int .i64 (oldL l y.co).am, .int .i64 (oldL l y.co).du, .string (ba (oldL l y.co).po), .string (ba (oldL l y.co).pa), .int .i64 o, .int .i64 a, .slice F k kc]
  | 4 => DBase w W g gs y l A nn c B m d ∧ ∃ o a F k kc, Blk W g 61 [.int .i64 y.co.cl, .int .i64 y.co.sp, .int .i64 y.co.op, .string (ba y.co.lt), .int .i64 y.co.a, .int .i64 y.co.b, .string (ba y.co.tx), .int .u32 (y.ms : Int), .int .i64 n, .int .i64 l.sq, .int .i64 l.tt, .slice A nn c, .slice B m d, .string (ba (nextD (oldL l y.co) y.co).nm), .int .i64 (nextD (oldL l y.co) y.co).st, .int .i64 (nextD (oldL l y.co) y.co).am, .int .i64 (nextD (oldL l y.co) y.co).du, .string (ba (nextD (oldL l y.co) y.co).po), .string (ba (nextD (oldL l y.co) y.co).pa), .int .i64 o, .int .i64 a, .slice F k kc]
  | 5 => DBase w W g gs y l A nn c B m d ∧ ∃ o a F k kc A5 n5 c5 B5 m5 d5, Blk W g 61 [.int .i64 y.co.cl, .int .i64 y.co.sp, .int .i64 y.co.op, .string (ba y.co.lt), .int .i64 y.co.a, .int .i64 y.co.b, .string (ba y.co.tx), .int .u32 (y.ms : Int), .int .i64 n, .int .i64 (withL l (nextD (oldL l y.co) y.co)).1.sq, .int .i64 (withL l (nextD (oldL l y.co) y.co)).1.tt, .slice A5 n5 c5, .slice B5 m5 d5, .string (ba (nextD (oldL l y.co) y.co).nm), .int .i64 (nextD (oldL l y.co) y.co).st, .int .i64 (nextD (oldL l y.co) y.co).am, .int .i64 (nextD (oldL l y.co) y.co).du, .string (ba (nextD (oldL l y.co) y.co).po), .string (ba (nextD (oldL l y.co) y.co).pa), .int .i64 o, .int .i64 a, .slice F k kc] ∧ LgIn W A5 n5 B5 m5 (withL l (nextD (oldL l y.co) y.co)).1 ∧ n5 ≤ c5 ∧ m5 ≤ d5 ∧ (∀ a, A5 = some a → g < a.block) ∧ ∀ a, B5 = some a → g < a.block
  | _ => DBase w W g gs y l A nn c B m d ∧ ∃ o a F k kc A5 n5 c5 B5 m5 d5, Blk W g 61 [.int .i64 y.co.cl, .int .i64 y.co.sp, .int .i64 y.co.op, .string (ba y.co.lt), .int .i64 y.co.a, .int .i64 y.co.b, .string (ba y.co.tx), .int .u32 (y.ms : Int), .int .i64 n, .int .i64 (finL l y).sq, .int .i64 (finL l y).tt, .slice A5 n5 c5, .slice B5 m5 d5, .string (ba (nextD (oldL l y.co) y.co).nm), .int .i64 (nextD (oldL l y.co) y.co).st, .int .i64 (nextD (oldL l y.co) y.co).am, .int .i64 (nextD (oldL l y.co) y.co).du, .string (ba (nextD (oldL l y.co) y.co).po), .string (ba (nextD (oldL l y.co) y.co).pa), .int .i64 o, .int .i64 a, .slice F k kc] ∧ LgIn W A5 n5 B5 m5 (finL l y) ∧ n5 ≤ c5 ∧ m5 ≤ d5 ∧ (∀ a, A5 = some a → g < a.block) ∧ ∀ a, B5 = some a → g < a.block

/-- what is asked of an entry and a ledger that it is done to -/
structure DHyp (w : World) (g gs : Nat) (y : Ey) (l : Lg) (A : Option Addr) (nn c : Nat) (B : Option Addr) (m : Nat) : Prop where
  hL : LgIn w A nn B m l
  hnc : nn ≤ c
  hn : nn ≤ 900
  hm : m ≤ 900
  hLe : Led w
  hE : EV w
  hs : y.ms < 4294967296
  hlt : y.co.lt.length ≤ 140737488355328
  ht : (textL l y.co).length ≤ 1000
  hg : w.heap.size + 3 ≤ g
  hne : gs ≠ g

set_option maxHeartbeats 1000000 in
theorem ds0 (w : World) (g gs : Nat) (y : Ey) (n : Int) (l : Lg) (A : Option Addr) (nn c : Nat) (B : Option Addr) (m d : Nat) (H : DHyp w g gs y l A nn c B m) (W : World) (hP : PD w g gs y n l A nn c B m d 0 W) : Calls Tryz.prog 19 #[.pointer (some ⟨g, 0, none⟩)] W fun e w' => e = .returned (.int .i64 (erD l y n 0)) ∧ (erD l y n 0 = 0 → PD w g gs y n l A nn c B m d 1 w') ∧ (erD l y n 0 ≠ 0 → DBase w w' g gs y l A nn c B m d) := by
  obtain ⟨hb, hB⟩ := hP
  refine (dfind_any y n l A nn c B m d ⟨[], 0, 0, 0, [], []⟩ 0 0 none 0 0 g W hB (H.hL.through hb.hb) (by have := H.hn; have := H.hm; omega)).mono ?_
  rintro e w' ⟨rfl, hgr, h1⟩
  refine ⟨rfl, fun h0 => ⟨hb.step H.hg H.hne hgr, h1 fun hc => ?_⟩, fun _ => hb.step H.hg H.hne hgr⟩
  have h2 : (if (findR (findL y.co.lt l.ls)).2 = false ∧ y.co.op ≠ 1 then (7 : Int) else 0) = 0 := h0
  rw [if_pos hc] at h2
  cases h2

set_option maxHeartbeats 1000000 in
theorem ds1 (w : World) (g gs : Nat) (y : Ey) (n : Int) (l : Lg) (A : Option Addr) (nn c : Nat) (B : Option Addr) (m d : Nat) (H : DHyp w g gs y l A nn c B m) (W : World) (hP : PD w g gs y n l A nn c B m d 1 W) : Calls Tryz.prog 20 #[.pointer (some ⟨g, 0, none⟩)] W fun e w' => e = .returned (.int .i64 (erD l y n 1)) ∧ (erD l y n 1 = 0 → PD w g gs y n l A nn c B m d 2 w') ∧ (erD l y n 1 ≠ 0 → DBase w w' g gs y l A nn c B m d) := by
  obtain ⟨hb, hB⟩ := hP
  refine (dread_any y n l A nn c B m d (oldL l y.co) 0 0 none 0 0 g W hB (H.hE.through hb.hb) H.ht).mono ?_
  rintro e w' ⟨rfl, hgr, h1⟩
  refine ⟨rfl, fun h0 => ?_, fun _ => hb.step H.hg H.hne hgr⟩
  have h2 : (if (readL l y.co n).2 ≠ 0 then (2 : Int) else 0) = 0 := h0
  have h3 : (readL l y.co n).2 = 0 := by
    by_cases h4 : (readL l y.co n).2 ≠ 0
    · rw [if_pos h4] at h2; cases h2
    · simpa using h4
  obtain ⟨F, k, kc, hB2, hi2⟩ := h1 h3
  exact ⟨hb.step H.hg H.hne hgr, h3, F, k, kc, hB2, Fm.In.any hi2⟩

set_option maxHeartbeats 1000000 in
theorem ds2 (w : World) (g gs : Nat) (y : Ey) (n : Int) (l : Lg) (A : Option Addr) (nn c : Nat) (B : Option Addr) (m d : Nat) (H : DHyp w g gs y l A nn c B m) (W : World) (hP : PD w g gs y n l A nn c B m d 2 W) : Calls Tryz.prog 21 #[.pointer (some ⟨g, 0, none⟩)] W fun e w' => e = .returned (.int .i64 (erD l y n 2)) ∧ (erD l y n 2 = 0 → PD w g gs y n l A nn c B m d 3 w') ∧ (erD l y n 2 ≠ 0 → DBase w w' g gs y l A nn c B m d) := by
  obtain ⟨hb, h0, F, k, kc, hB, hin⟩ := hP
  refine (dask_any y n l A nn c B m d (oldL l y.co) (readL l y.co n).1 F k kc g W hB H.hs hin (parseP_check h0)).mono ?_
  rintro e w' ⟨rfl, hgr, h1⟩
  exact ⟨rfl, fun _ => ⟨hb.step H.hg H.hne hgr, _, _, F, k, kc, h1⟩, fun _ => hb.step H.hg H.hne hgr⟩

set_option maxHeartbeats 1000000 in
theorem ds3 (w : World) (g gs : Nat) (y : Ey) (n : Int) (l : Lg) (A : Option Addr) (nn c : Nat) (B : Option Addr) (m d : Nat) (H : DHyp w g gs y l A nn c B m) (W : World) (hP : PD w g gs y n l A nn c B m d 3 W) : Calls Tryz.prog 22 #[.pointer (some ⟨g, 0, none⟩)] W fun e w' => e = .returned (.int .i64 (erD l y n 3)) ∧ (erD l y n 3 = 0 → PD w g gs y n l A nn c B m d 4 w') ∧ (erD l y n 3 ≠ 0 → DBase w w' g gs y l A nn c B m d) := by
  obtain ⟨hb, o, a, F, k, kc, hB⟩ := hP
  refine (dstep_any y n l A nn c B m d (oldL l y.co) o a F k kc g W hB (H.hLe.through hb.hb)).mono ?_
  rintro e w' ⟨rfl, hgr, h1⟩
  exact ⟨rfl, fun _ => ⟨hb.step H.hg H.hne hgr, o, a, F, k, kc, h1⟩, fun _ => hb.step H.hg H.hne hgr⟩

set_option maxHeartbeats 1000000 in
theorem ds4 (w : World) (g gs : Nat) (y : Ey) (n : Int) (l : Lg) (A : Option Addr) (nn c : Nat) (B : Option Addr) (m d : Nat) (H : DHyp w g gs y l A nn c B m) (W : World) (hP : PD w g gs y n l A nn c B m d 4 W) : Calls Tryz.prog 23 #[.pointer (some ⟨g, 0, none⟩)] W fun e w' => e = .returned (.int .i64 (erD l y n 4)) ∧ (erD l y n 4 = 0 → PD w g gs y n l A nn c B m d 5 w') ∧ (erD l y n 4 ≠ 0 → DBase w w' g gs y l A nn c B m d) := by
  obtain ⟨hb, o, a, F, k, kc, hB⟩ := hP
  refine (dstore_any y n l A nn c B m d (nextD (oldL l y.co) y.co) o a F k kc g W hB (H.hL.through hb.hb) (by have := H.hn; have := H.hm; omega) (by have := H.hn; have := H.hm; omega) H.hnc H.hlt).mono ?_
  rintro e w' ⟨rfl, hgr, A5, n5, c5, B5, m5, d5, h1, h2, h3, h4, h5, h6⟩
  have hlt2 := hB.lt
  exact ⟨rfl, fun _ => ⟨hb.step H.hg H.hne hgr, o, a, F, k, kc, A5, n5, c5, B5, m5, d5, h1, h2, h3, h4, fun a ha => Nat.lt_of_lt_of_le hlt2 (h5 a ha), fun a ha => Nat.lt_of_lt_of_le hlt2 (h6 a ha)⟩, fun _ => hb.step H.hg H.hne hgr⟩

set_option maxHeartbeats 1000000 in
theorem ds5 (w : World) (g gs : Nat) (y : Ey) (n : Int) (l : Lg) (A : Option Addr) (nn c : Nat) (B : Option Addr) (m d : Nat) (H : DHyp w g gs y l A nn c B m) (W : World) (hP : PD w g gs y n l A nn c B m d 5 W) : Calls Tryz.prog 24 #[.pointer (some ⟨g, 0, none⟩)] W fun e w' => e = .returned (.int .i64 (erD l y n 5)) ∧ (erD l y n 5 = 0 → PD w g gs y n l A nn c B m d 6 w') ∧ (erD l y n 5 ≠ 0 → DBase w w' g gs y l A nn c B m d) := by
  obtain ⟨hb, o, a, F, k, kc, A5, n5, c5, B5, m5, d5, hB, h2, h3, h4, h5, h6⟩ := hP
  refine (dpay_any y n (withL l (nextD (oldL l y.co) y.co)).1 A5 n5 c5 B5 m5 d5 (nextD (oldL l y.co) y.co) o a F k kc g W hB).mono ?_
  rintro e w' ⟨rfl, hgr, h1⟩
  exact ⟨rfl, fun _ => ⟨hb.step H.hg H.hne hgr, o, a, F, k, kc, A5, n5, c5, B5, m5, d5, h1, ⟨h2.1.far hgr fun a ha => by have := h5 a ha; omega, h2.2.far hgr fun a ha => by have := h6 a ha; omega⟩, h3, h4, h5, h6⟩, fun _ => hb.step H.hg H.hne hgr⟩

theorem dsteps (w : World) (g gs : Nat) (y : Ey) (n : Int) (l : Lg) (A : Option Addr) (nn c : Nat) (B : Option Addr) (m d : Nat) (H : DHyp w g gs y l A nn c B m) : ∀ (i : Nat), i < 6 → ∀ (W : World), PD w g gs y n l A nn c B m d i W → Calls Tryz.prog (fkL i) #[.pointer (some ⟨g, 0, none⟩)] W fun e w' => e = .returned (.int .i64 (erD l y n i)) ∧ (erD l y n i = 0 → PD w g gs y n l A nn c B m d (i + 1) w') ∧ (erD l y n i ≠ 0 → DBase w w' g gs y l A nn c B m d)
  | 0, _ => ds0 w g gs y n l A nn c B m d H
  | 1, _ => ds1 w g gs y n l A nn c B m d H
  | 2, _ => ds2 w g gs y n l A nn c B m d H
  | 3, _ => ds3 w g gs y n l A nn c B m d H
  | 4, _ => ds4 w g gs y n l A nn c B m d H
  | 5, _ => ds5 w g gs y n l A nn c B m d H
  | _ + 6, h => absurd h (by omega)

end Go.Proofs.YtfflkodgojiklaaGreatDoor
