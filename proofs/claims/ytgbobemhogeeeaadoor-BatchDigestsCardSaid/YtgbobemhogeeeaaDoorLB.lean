/-
  The program's sums (joined).
-/
import Derived.Test.YtgbobemhogeeeaaDoorDE
import Derived.Laws.BitsAllLaws
import Derived.Laws.CopyOwn
import Derived.Deep.MidRow
import Derived.Deep.RegionHeld
import Derived.Outline
import Derived.RegionTactic
import Derived.ChangeAlike
import Derived.Deep.QuietTactic
import Derived.BigQuiet
import Derived.Deep.RegionLaw
import Derived.Deep.RegionHeld3
import Derived.Lib.SlBytesConst
import Derived.ChangeKeysEq
import Derived.Laws.StructEq
namespace Go.Proofs.YtgbobemhogeeeaaDoor
open Go.RowKit

theorem By.onlyS {w w' : World} {g n : Nat} {A : Option Addr} {xs : List UInt8} (h : By w (· ≠ g) A n xs) (ho : w.grownBy w' (some g)) : By w' (· ≠ g) A n xs :=
  (h.lt.keep fun k hk => ho.block k hk.2 (fun e => hk.1 (by injection e))).weak fun _ hk => hk.1


/-- A word, as an integer; as a cell holds it. -/
def n32 (x : UInt32) : Int := (x.toNat : Int)

def c32 (x : UInt32) : Value := .int .u32 (n32 x)

theorem n32_lo (x : UInt32) : 0 ≤ n32 x := by unfold n32; omega

theorem n32_hi (x : UInt32) : n32 x < 4294967296 := by have := x.toNat_lt; unfold n32; omega

theorem n32_inj {x y : UInt32} : n32 x = n32 y ↔ x = y := by
  unfold n32
  constructor
  · intro h
    exact UInt32.toNat_inj.1 (by omega)
  · rintro rfl
    rfl

theorem n32_beq (x y : UInt32) : (n32 x == n32 y) = (x == y) := by
  rw [Bool.eq_iff_iff]
  simp [n32_inj]

theorem n32_ofNat (k : Nat) (h : k < 4294967296) : n32 (UInt32.ofNat k) = k := by
  unfold n32
  rw [UInt32.toNat_ofNat_of_lt' (by simpa [UInt32.size] using h)]

/-- turned to the right -/
def rotr (x : UInt32) (k : Nat) : UInt32 := UInt32.ofNat (x.toNat / 2 ^ k + x.toNat % 2 ^ k * 2 ^ (32 - k))

/-- shifted to the right -/
def shr (x : UInt32) (k : Nat) : UInt32 := UInt32.ofNat (x.toNat / 2 ^ k)

theorem two32 {k : Nat} (hk : k ≤ 32) : 2 ^ k * 2 ^ (32 - k) = 4294967296 := by
  rw [← Nat.pow_add, Nat.add_sub_cancel' hk]

theorem rotr_lt (x : Nat) (hx : x < 4294967296) (k : Nat) (hk : k ≤ 32) : x / 2 ^ k + x % 2 ^ k * 2 ^ (32 - k) < 4294967296 := by
  have h2 := two32 hk
  have h1 : x / 2 ^ k < 2 ^ (32 - k) := Nat.div_lt_of_lt_mul (by rw [h2]; exact hx)
  have h3 : x % 2 ^ k < 2 ^ k := Nat.mod_lt _ (Nat.two_pow_pos k)
  have h4 : (x % 2 ^ k + 1) * 2 ^ (32 - k) ≤ 2 ^ k * 2 ^ (32 - k) := Nat.mul_le_mul_right _ h3
  rw [Nat.add_mul, Nat.one_mul] at h4
  omega

theorem rotr_nat (x : UInt32) (k : Nat) (hk : k ≤ 32) : (rotr x k).toNat = x.toNat / 2 ^ k + x.toNat % 2 ^ k * 2 ^ (32 - k) := by
  unfold rotr
  exact UInt32.toNat_ofNat_of_lt' (by simpa [UInt32.size] using rotr_lt x.toNat x.toNat_lt k hk)

theorem rotr_0 (x : UInt32) : rotr x 0 = x := by
  apply UInt32.toNat_inj.1
  rw [rotr_nat x 0 (by omega)]
  simp [Nat.mod_one]

theorem rotr_1 (x : UInt32) : (rotr x 1).toNat = x.toNat / 2 + x.toNat % 2 * 2147483648 := rotr_nat x 1 (by omega)

/-- by one more -/
theorem rotr_succ (x : UInt32) (k : Nat) (hk : k < 32) : rotr (rotr x k) 1 = rotr x (k + 1) := by
  apply UInt32.toNat_inj.1
  rw [rotr_1, rotr_nat x k (by omega), rotr_nat x (k + 1) (by omega)]
  generalize x.toNat = n
  have e1 : 32 - k = (31 - k) + 1 := by omega
  have e2 : 32 - (k + 1) = 31 - k := by omega
  have hp := Nat.two_pow_pos k
  have h31 : 2 ^ k * 2 ^ (31 - k) = 2147483648 := by
    rw [← Nat.pow_add, Nat.add_sub_cancel' (by omega)]
  rw [e1, e2, Nat.pow_succ, Nat.pow_succ]
  rw [← Nat.div_div_eq_div_mul, Nat.mod_mul]
  generalize hP : 2 ^ k = P at *
  generalize hR : 2 ^ (31 - k) = R at *
  generalize n / P = a
  generalize n % P = s
  have e3 : s * (R * 2) = 2 * (s * R) := by rw [← Nat.mul_assoc, Nat.mul_comm]
  have e4 : (s + P * (a % 2)) * R = s * R + a % 2 * 2147483648 := by
    rw [Nat.add_mul, ← h31]
    congr 1
    rw [Nat.mul_comm P, Nat.mul_assoc]
  rw [e3, e4]
  omega

theorem rotr_32 (x : UInt32) : rotr x 32 = x := by
  apply UInt32.toNat_inj.1
  rw [rotr_nat x 32 (by omega)]
  have := x.toNat_lt
  simp
  omega

/-- by so many more -/
theorem rotr_add (x : UInt32) (j k : Nat) (hk : j + k ≤ 32) : rotr (rotr x j) k = rotr x (j + k) := by
  induction k with
  | zero => rw [rotr_0]; rfl
  | succ k ih => rw [← rotr_succ _ k (by omega), ih (by omega), rotr_succ _ _ (by omega)]; rfl

/-- and back -/
theorem rotr_back (x : UInt32) (j k : Nat) (hj : j ≤ 32) (hk : k ≤ 32) (h : (j + k) % 32 = 0) : rotr (rotr x j) k = x := by
  rcases (by omega : j + k = 0 ∨ j + k = 32 ∨ j + k = 64) with e | e | e
  · obtain rfl : j = 0 := by omega
    obtain rfl : k = 0 := by omega
    rw [rotr_0, rotr_0]
  · rw [rotr_add _ _ _ (by omega), e, rotr_32]
  · obtain rfl : j = 32 := by omega
    obtain rfl : k = 32 := by omega
    rw [rotr_32, rotr_32]

/- WHAT THE WALK READS, as words. -/
theorem w32_add (x y : UInt32) : (n32 x + n32 y) % 4294967296 = n32 (x + y) := by
  unfold n32
  rw [UInt32.toNat_add]
  omega

theorem w32_and (x y : UInt32) : bits .and .u32 (n32 x) (n32 y) = n32 (x &&& y) := by
  unfold n32
  rw [u32_and_nat _ _ x.toNat_lt y.toNat_lt, UInt32.toNat_and]

theorem w32_or (x y : UInt32) : bits .or .u32 (n32 x) (n32 y) = n32 (x ||| y) := by
  unfold n32
  rw [u32_or_nat _ _ x.toNat_lt y.toNat_lt, UInt32.toNat_or]

theorem w32_xor (x y : UInt32) : bits .xor .u32 (n32 x) (n32 y) = n32 (x ^^^ y) := by
  unfold n32
  rw [u32_xor_nat _ _ x.toNat_lt y.toNat_lt, UInt32.toNat_xor]

theorem w32_not (x : UInt32) : bits .xor .u32 4294967295 (n32 x) = n32 (~~~x) := by
  have h : (4294967295 : Int) = n32 4294967295 := rfl
  rw [h, w32_xor]
  congr 1

theorem w32_not' (x : UInt32) : bits .xor .u32 IntKind.u32.max (n32 x) = n32 (~~~x) := w32_not x

theorem w32_shr (x : UInt32) (k : Nat) : n32 x / 2 ^ k = n32 (shr x k) := by
  unfold n32 shr
  rw [UInt32.toNat_ofNat_of_lt' (by
    have h1 := x.toNat_lt
    have h2 := Nat.div_le_self x.toNat (2 ^ k)
    simp only [UInt32.size]
    omega)]
  simp

theorem w32_shr3 (x : UInt32) : n32 x / 8 = n32 (shr x 3) := w32_shr x 3

theorem w32_shr10 (x : UInt32) : n32 x / 1024 = n32 (shr x 10) := w32_shr x 10

/-- What the program's Turn reckons. -/
theorem w32_turn (x : UInt32) (k : Nat) (hk : k < 32) : bits .or .u32 (n32 x / 2 ^ k) (n32 x * 2 ^ (32 - k) % 4294967296) = n32 (rotr x k) := by
  have hx := x.toNat_lt
  have h2 := two32 (k := k) (by omega)
  have e1 : n32 x / 2 ^ k = ((x.toNat / 2 ^ k : Nat) : Int) := by unfold n32; simp
  have e2 : n32 x * 2 ^ (32 - k) % 4294967296 = ((x.toNat % 2 ^ k * 2 ^ (32 - k) : Nat) : Int) := by
    rw [← Nat.mul_mod_mul_right, h2]
    unfold n32
    simp
  have h1 : x.toNat / 2 ^ k < 2 ^ (32 - k) := Nat.div_lt_of_lt_mul (by rw [h2]; exact hx)
  have h3 := rotr_lt x.toNat hx k (by omega)
  rw [e1, e2, u32_or_nat _ _ (Nat.lt_of_le_of_lt (Nat.div_le_self _ _) hx) (Nat.lt_of_le_of_lt (Nat.le_add_left _ _) h3), Nat.or_comm, nat_join (32 - k) _ _ (by simp) h1]
  unfold n32
  rw [rotr_nat x k (by omega), Nat.add_comm]

/-- What one round of the document's Turn reckons. -/
theorem w32_turn1 (x : UInt32) : n32 x / 2 + n32 x % 2 * 2147483648 = n32 (rotr x 1) := by
  unfold n32
  rw [rotr_1]
  omega

/- THE FUNCTIONS OF A ROUND. -/
def choose (e f g : UInt32) : UInt32 := (e &&& f) ||| (~~~e &&& g)

def most (a b c : UInt32) : UInt32 := (a &&& b) ||| (a &&& c) ||| (b &&& c)

theorem choose_xor (e f g : UInt32) : (e &&& f) ^^^ (~~~e &&& g) = choose e f g := by
  unfold choose
  apply UInt32.toBitVec_inj.1
  simp only [UInt32.toBitVec_and, UInt32.toBitVec_or, UInt32.toBitVec_xor, UInt32.toBitVec_not]
  ext i hi
  simp only [BitVec.getElem_and, BitVec.getElem_or, BitVec.getElem_xor, BitVec.getElem_not]
  cases e.toBitVec[i] <;> cases f.toBitVec[i] <;> cases g.toBitVec[i] <;> rfl

theorem most_xor (a b c : UInt32) : (a &&& b) ^^^ (a &&& c) ^^^ (b &&& c) = most a b c := by
  unfold most
  apply UInt32.toBitVec_inj.1
  simp only [UInt32.toBitVec_and, UInt32.toBitVec_or, UInt32.toBitVec_xor]
  ext i hi
  simp only [BitVec.getElem_and, BitVec.getElem_or, BitVec.getElem_xor]
  cases a.toBitVec[i] <;> cases b.toBitVec[i] <;> cases c.toBitVec[i] <;> rfl

def three (x : UInt32) (i j k : Nat) : UInt32 := rotr x i ^^^ rotr x j ^^^ rotr x k

def sg0 (x : UInt32) : UInt32 := rotr x 7 ^^^ rotr x 18 ^^^ shr x 3

def sg1 (x : UInt32) : UInt32 := rotr x 17 ^^^ rotr x 19 ^^^ shr x 10

/-- The eight words. -/
structure S8 where
  a : UInt32
  b : UInt32
  c : UInt32
  d : UInt32
  e : UInt32
  f : UInt32
  g : UInt32
  h : UInt32

def S8.list (s : S8) : List UInt32 := [s.a, s.b, s.c, s.d, s.e, s.f, s.g, s.h]

def S8.plus (s t : S8) : S8 := ⟨s.a + t.a, s.b + t.b, s.c + t.c, s.d + t.d, s.e + t.e, s.f + t.f, s.g + t.g, s.h + t.h⟩

def S8.zero : S8 := ⟨0, 0, 0, 0, 0, 0, 0, 0⟩

theorem S8.plus_assoc (s t u : S8) : (s.plus t).plus u = s.plus (t.plus u) := by
  simp only [S8.plus, UInt32.add_assoc]

theorem S8.plus_zero (s : S8) : s.plus S8.zero = s := by
  cases s
  simp [S8.plus, S8.zero]

def hTab : List UInt32 := [1779033703, 3144134277, 1013904242, 2773480762, 1359893119, 2600822924, 528734635, 1541459225]

def kTab : List UInt32 := [1116352408, 1899447441, 3049323471, 3921009573, 961987163, 1508970993, 2453635748, 2870763221, 3624381080, 310598401, 607225278, 1426881987, 1925078388, 2162078206, 2614888103, 3248222580, 3835390401, 4022224774, 264347078, 604807628, 770255983, 1249150122, 1555081692, 1996064986, 2554220882, 2821834349, 2952996808, 3210313671, 3336571891, 3584528711, 113926993, 338241895, 666307205, 773529912, 1294757372, 1396182291, 1695183700, 1986661051, 2177026350, 2456956037, 2730485921, 2820302411, 3259730800, 3345764771, 3516065817, 3600352804, 4094571909, 275423344, 430227734, 506948616, 659060556, 883997877, 958139571, 1322822218, 1537002063, 1747873779, 1955562222, 2024104815, 2227730452, 2361852424, 2428436474, 2756734187, 3204031479, 3329325298]

def first8 : S8 := ⟨1779033703, 3144134277, 1013904242, 2773480762, 1359893119, 2600822924, 528734635, 1541459225⟩

def tt1 (k w : UInt32) (s : S8) : UInt32 := s.h + three s.e 6 11 25 + choose s.e s.f s.g + k + w

def tt2 (s : S8) : UInt32 := three s.a 2 13 22 + most s.a s.b s.c

/-- a round -/
def rnd (k w : UInt32) (s : S8) : S8 := ⟨tt1 k w s + tt2 s, s.a, s.b, s.c, s.d + tt1 k w s, s.e, s.f, s.g⟩

theorem rnd_a (k w : UInt32) (s : S8) : (rnd k w s).a = s.h + (rotr s.e 6 ^^^ rotr s.e 11 ^^^ rotr s.e 25) + choose s.e s.f s.g + k + w + ((rotr s.a 2 ^^^ rotr s.a 13 ^^^ rotr s.a 22) + most s.a s.b s.c) := rfl

theorem rnd_e (k w : UInt32) (s : S8) : (rnd k w s).e = s.d + (s.h + (rotr s.e 6 ^^^ rotr s.e 11 ^^^ rotr s.e 25) + choose s.e s.f s.g + k + w) := rfl

/-- so many rounds -/
def rounds (ws : List UInt32) (s : S8) : Nat → S8
  | 0 => s
  | k + 1 => rnd (kTab.getD k 0) (ws.getD k 0) (rounds ws s k)

/-- The bytes of a number read, the highest first. -/
def beW (l : List UInt8) : UInt32 := l.foldl (fun acc x => (acc <<< 8) ||| x.toUInt32) 0

/-- the j-th word of a block -/
def wordAt (b : List UInt8) (j : Nat) : UInt32 := beW ((b.drop (4 * j)).take 4)

def nextW (l : List UInt32) (b : List UInt8) (i : Nat) : UInt32 :=
  if i < 16 then wordAt b i else l.getD (i - 16) 0 + sg0 (l.getD (i - 15) 0) + l.getD (i - 7) 0 + sg1 (l.getD (i - 2) 0)

/-- the first n words of a block -/
def wds (b : List UInt8) : Nat → List UInt32
  | 0 => []
  | n + 1 => wds b n ++ [nextW (wds b n) b n]

/-- what the rounds of a block make of eight words; the eight words behind a block -/
def mixed (s : S8) (b : List UInt8) : S8 := rounds (wds b 64) s 64

def press (s : S8) (b : List UInt8) : S8 := s.plus (mixed s b)

/-- the eight words behind n blocks -/
def after (xs : List UInt8) : Nat → S8
  | 0 => first8
  | n + 1 => press (after xs n) ((xs.drop (64 * n)).take 64)

/-- what stands behind so many bytes -/
def ends (n : Nat) : List UInt8 := 128 :: (List.replicate ((119 - n % 64) % 64) 0 ++ beB (8 * n) 8)

/-- the eight words, as bytes -/
def S8.bytes (s : S8) : List UInt8 := (s.list.map fun x => beB x.toNat 4).flatten

/-- THE SUM. -/
def sha (xs : List UInt8) : List UInt8 := (after (xs ++ ends xs.length) ((xs ++ ends xs.length).length / 64)).bytes

theorem wds_length (b : List UInt8) (n : Nat) : (wds b n).length = n := by
  induction n with
  | zero => rfl
  | succ n ih => simp [wds, ih]

theorem wds_pre (b : List UInt8) (m n : Nat) (h : n ≤ m) : (wds b m).take n = wds b n := by
  induction m with
  | zero =>
    obtain rfl : n = 0 := by omega
    rfl
  | succ m ih =>
    by_cases e : n = m + 1
    · subst e
      rw [List.take_of_length_le (by rw [wds_length]; exact Nat.le_refl _)]
    · rw [wds, List.take_append_of_le_length (by rw [wds_length]; omega)]
      exact ih (by omega)

theorem wds_get (b : List UInt8) (m n j : Nat) (h : n ≤ m) (hj : j < n) : (wds b n).getD j 0 = (wds b m).getD j 0 := by
  rw [← wds_pre b m n h]
  simp [List.getD, hj]

theorem wds_at (b : List UInt8) (m n : Nat) (h : n < m) : (wds b m).getD n 0 = nextW (wds b n) b n := by
  rw [← wds_get b m (n + 1) n h (by omega), wds]
  have e := wds_length b n
  simp [List.getD, e]

theorem after_app (xs ys : List UInt8) (n : Nat) (h : 64 * n ≤ xs.length) : after (xs ++ ys) n = after xs n := by
  induction n with
  | zero => rfl
  | succ n ih =>
    rw [after, after, ih (by omega)]
    congr 1
    rw [List.drop_append_of_le_length (by omega), List.take_append_of_le_length (by rw [List.length_drop]; omega)]

theorem ends_length (n : Nat) : (ends n).length = 1 + (119 - n % 64) % 64 + 8 := by
  simp [ends]
  omega

theorem ends_whole (n : Nat) : (n + (ends n).length) % 64 = 0 := by
  rw [ends_length]
  omega

theorem S8.bytes_length (s : S8) : s.bytes.length = 32 := by
  simp [S8.bytes, S8.list]

theorem sha_length (xs : List UInt8) : (sha xs).length = 32 := S8.bytes_length _

theorem sha_abc : (sha [97, 98, 99]).take 4 = [186, 120, 22, 191] := by decide +kernel

theorem one_u32 {xs : List UInt32} : (xs.map c32).toArray.all (·.oneCell') = true := by
  refine Array.all_eq_true_iff_forall_mem.2 fun v hv => ?_
  obtain ⟨x, _, rfl⟩ := List.mem_map.1 (by simpa using hv)
  rfl

/-- Eight words, as cells. -/
def S8.cells (s : S8) : List Value := s.list.map c32

theorem S8.cells_length (s : S8) : s.cells.length = 8 := rfl

theorem S8.cells_at (s : S8) (k : Nat) (hk : k < 8) : s.cells[k]? = some (.int .u32 (n32 (s.list.getD k 0))) := by
  have hl : k < s.list.length := hk
  unfold S8.cells
  rw [List.getElem?_map, List.getElem?_eq_getElem hl]
  simp [c32, List.getD, hl]

theorem S8.plus_at (s t : S8) (k : Nat) (hk : k < 8) : (s.plus t).list.getD k 0 = s.list.getD k 0 + t.list.getD k 0 := by
  match k, hk with
  | 0, _ => rfl
  | 1, _ => rfl
  | 2, _ => rfl
  | 3, _ => rfl
  | 4, _ => rfl
  | 5, _ => rfl
  | 6, _ => rfl
  | 7, _ => rfl

theorem beW_snoc (l : List UInt8) (x : UInt8) : beW (l ++ [x]) = (beW l <<< 8) ||| x.toUInt32 := by simp [beW]

theorem w32_pack (y : UInt32) (x : UInt8) : bits .or .u32 (n32 y * 256 % 4294967296) (x.toNat : Int) = n32 ((y <<< 8) ||| x.toUInt32) := by
  have e1 : n32 y * (256 : Int) % (4294967296 : Int) = n32 (y <<< 8) := by
    unfold n32
    rw [UInt32.toNat_shiftLeft]
    simp [Nat.shiftLeft_eq]
  have e2 : (x.toNat : Int) = n32 x.toUInt32 := by unfold n32; simp
  rw [e1, e2, w32_or]

/-- The word j when k bytes have been read. -/
def pw (b : List UInt8) (k j : Nat) : UInt32 := beW (((b.take k).drop (4 * j)).take 4)

theorem pw_step (b : List UInt8) (k : Nat) (hk : k < b.length) : pw b (k + 1) (k / 4) = (pw b k (k / 4) <<< 8) ||| b[k].toUInt32 := by
  unfold pw
  rw [← beW_snoc, List.take_succ_eq_append_getElem hk, List.drop_append_of_le_length (by rw [List.length_take]; omega)]
  congr 1
  have hl : ((b.take k).drop (4 * (k / 4))).length ≤ 3 := by rw [List.length_drop, List.length_take]; omega
  rw [List.take_of_length_le (l := (b.take k).drop (4 * (k / 4)) ++ [b[k]]) (by simp only [List.length_append, List.length_singleton]; omega), List.take_of_length_le (l := (b.take k).drop (4 * (k / 4))) (by omega)]

theorem pw_other (b : List UInt8) (k j : Nat) (hk : k < b.length) (hj : j ≠ k / 4) : pw b (k + 1) j = pw b k j := by
  unfold pw
  rw [List.take_succ_eq_append_getElem hk]
  rcases (by omega : j < k / 4 ∨ k / 4 < j) with h | h
  · rw [List.drop_append_of_le_length (by rw [List.length_take]; omega), List.take_append_of_le_length (by simp; omega)]
  · rw [List.drop_eq_nil_of_le (by simp; omega), List.drop_eq_nil_of_le (by simp; omega)]

def pcs (b : List UInt8) (k : Nat) : List Value := (List.range 64).map fun j => c32 (pw b k j)

theorem pcs_get (b : List UInt8) (k j : Nat) (hj : j < 64) : (pcs b k)[j]? = some (c32 (pw b k j)) := by simp [pcs, hj]

theorem pcs_0 (b : List UInt8) : pcs b 0 = List.replicate 64 (c32 0) := by
  apply List.ext_getElem?
  intro j
  simp only [pcs, List.getElem?_map, List.getElem?_replicate]
  by_cases hj : j < 64
  · simp [hj, pw, beW]
  · simp [hj]

theorem pcs_set (b : List UInt8) (k : Nat) (hb : b.length = 64) (hk : k < 64) : (pcs b k).set (k / 4) (c32 ((pw b k (k / 4) <<< 8) ||| (b.getD k 0).toUInt32)) = pcs b (k + 1) := by
  have hk' : k < b.length := by omega
  have e0 : b.getD k 0 = b[k] := by simp [List.getD, hk']
  rw [e0]
  apply List.ext_getElem?
  intro j
  rw [List.getElem?_set]
  by_cases hj : k / 4 = j
  · subst hj
    rw [if_pos rfl, if_pos (by simp [pcs]; omega), pcs_get b (k + 1) _ (by omega), pw_step b k (by omega)]
  · rw [if_neg hj]
    by_cases h64 : j < 64
    · rw [pcs_get b k j h64, pcs_get b (k + 1) j h64, pw_other b k j (by omega) (fun e => hj e.symm)]
    · simp [pcs, h64]

/-- The cells when i words are there. -/
def scs (b : List UInt8) (i : Nat) : List Value := (wds b i).map c32 ++ List.replicate (64 - i) (c32 0)

theorem scs_get (b : List UInt8) (i j : Nat) (hj : j < i) : (scs b i)[j]? = some (c32 ((wds b i).getD j 0)) := by
  have hl := wds_length b i
  unfold scs
  rw [List.getElem?_append_left (by simp; omega), List.getElem?_map, List.getElem?_eq_getElem (by omega)]
  simp [List.getD, hl, hj]

theorem scs_zero (b : List UInt8) (i : Nat) (hi : i < 64) : (scs b i)[i]? = some (c32 0) := by
  have hl := wds_length b i
  unfold scs
  rw [List.getElem?_append_right (by simp; omega), List.getElem?_replicate, if_pos (by simp; omega)]

theorem scs_set (b : List UInt8) (i : Nat) (hi : i < 64) : (scs b i).set i (c32 (nextW (wds b i) b i)) = scs b (i + 1) := by
  have hl := wds_length b i
  unfold scs
  rw [wds, List.map_append, List.set_append_right _ _ (by simp; omega)]
  have e : 64 - i = (64 - (i + 1)) + 1 := by omega
  rw [e, List.replicate_succ]
  simp [hl]

theorem scs_64 (b : List UInt8) : scs b 64 = (wds b 64).map c32 := by simp [scs]

theorem pcs_64 (b : List UInt8) (hb : b.length = 64) : pcs b 64 = scs b 16 := by
  apply List.ext_getElem?
  intro j
  by_cases h64 : j < 64
  · rw [pcs_get b 64 j h64]
    have ht : b.take 64 = b := List.take_of_length_le (by omega)
    by_cases hj : j < 16
    · rw [scs_get b 16 j hj, wds_at b 16 j hj, nextW, if_pos hj, pw, ht, wordAt]
    · have hl := wds_length b 16
      unfold scs
      rw [List.getElem?_append_right (by simp; omega), List.getElem?_replicate, if_pos (by simp; omega), pw, List.drop_eq_nil_of_le (by simp; omega)]
      simp [beW]
  · have hl := wds_length b 16
    rw [List.getElem?_eq_none (by simp [pcs]; omega), List.getElem?_eq_none (by simp [scs]; omega)]

/-- The cells of a hash: what the blocks added, the last block, the length. -/
def hcs (ad : S8) (pt : List UInt8) (n : Nat) : List Value := ad.cells ++ (vs pt ++ [.int .i64 (n : Int)])

/-- What they say of the bytes xs. -/
def HOk (ad : S8) (pt xs : List UInt8) : Prop :=
  pt.length = 64 ∧ first8.plus ad = after xs (xs.length / 64) ∧ pt.take (xs.length % 64) = xs.drop (64 * (xs.length / 64))

/-- Block g is a hash to which xs was added. -/
def HS (w : World) (g : Nat) (xs : List UInt8) : Prop :=
  ∃ ad pt, Blk w g 88 (hcs ad pt xs.length) ∧ HOk ad pt xs

theorem HOk.nil : HOk S8.zero (List.replicate 64 0) [] := ⟨by simp, S8.plus_zero _, by simp⟩

theorem hcs_length {ad : S8} {pt : List UInt8} {n : Nat} (h : pt.length = 64) : (hcs ad pt n).length = 73 := by
  simp [hcs, vs_length, S8.cells_length, h]

theorem hcs_len {ad : S8} {pt : List UInt8} {n : Nat} (h : pt.length = 64) : (hcs ad pt n)[72]? = some (.int .i64 (n : Int)) := by
  unfold hcs
  rw [List.getElem?_append_right (by rw [S8.cells_length]; omega), List.getElem?_append_right (by rw [vs_length, S8.cells_length]; omega), vs_length, S8.cells_length, h]
  rfl

theorem hcs_setLen {ad : S8} {pt : List UInt8} {n : Nat} (h : pt.length = 64) (m : Nat) : (hcs ad pt n).set 72 (.int .i64 (m : Int)) = hcs ad pt m := by
  unfold hcs
  rw [List.set_append_right _ _ (by rw [S8.cells_length]; omega), List.set_append_right _ _ (by rw [vs_length, S8.cells_length]; omega), vs_length, S8.cells_length, h]
  rfl

theorem hcs_word {ad : S8} {pt : List UInt8} {n : Nat} (j : Nat) (hj : j < 8) : (hcs ad pt n)[j]? = some (.int .u32 (n32 (ad.list.getD j 0))) := by
  unfold hcs
  rw [List.getElem?_append_left (by rw [S8.cells_length]; omega), S8.cells_at _ _ hj]

theorem hcs_splice {ad : S8} {pt : List UInt8} {n : Nat} (h : pt.length = 64) (r : Nat) (zs : List UInt8) (hz : r + zs.length ≤ 64) : splice (hcs ad pt n) (8 + r) (vs zs) = hcs ad (splice pt r zs) n := by
  unfold splice hcs
  have e1 : (ad.cells ++ (vs pt ++ [Value.int .i64 (n : Int)])).take (8 + r) = ad.cells ++ (vs pt).take r := by
    rw [List.take_append, S8.cells_length, List.take_of_length_le (by rw [S8.cells_length]; omega), Nat.add_sub_cancel_left, List.take_append_of_le_length (by rw [vs_length]; omega)]
  have e2 : (ad.cells ++ (vs pt ++ [Value.int .i64 (n : Int)])).drop (8 + r + (vs zs).length) = (vs pt).drop (r + zs.length) ++ [Value.int .i64 (n : Int)] := by
    rw [List.drop_append, S8.cells_length, List.drop_eq_nil_of_le (by rw [S8.cells_length]; omega), vs_length, Nat.add_assoc, Nat.add_sub_cancel_left, List.drop_append_of_le_length (by rw [vs_length]; omega)]
    rfl
  rw [e1, e2]
  simp [vs]

theorem splice_length {pt zs : List UInt8} {r : Nat} (h : pt.length = 64) (hz : r + zs.length ≤ 64) : (splice pt r zs).length = 64 := by
  rw [length_splice _ _ _ (by omega), h]

theorem splice_take {pt zs : List UInt8} {r : Nat} (h : pt.length = 64) (hz : r + zs.length ≤ 64) : (splice pt r zs).take (r + zs.length) = pt.take r ++ zs := by
  unfold splice
  rw [← List.append_assoc, List.take_append_of_le_length (by simp; omega), List.take_of_length_le (by simp; omega)]

/-- More bytes, the block not full. -/
theorem HOk.part {ad : S8} {pt xs : List UInt8} (h : HOk ad pt xs) (zs : List UInt8) (hz : xs.length % 64 + zs.length < 64) : HOk ad (splice pt (xs.length % 64) zs) (xs ++ zs) := by
  obtain ⟨h1, h2, h3⟩ := h
  have e1 : (xs ++ zs).length / 64 = xs.length / 64 := by rw [List.length_append]; omega
  have e2 : (xs ++ zs).length % 64 = xs.length % 64 + zs.length := by rw [List.length_append]; omega
  refine ⟨splice_length h1 (by omega), ?_, ?_⟩
  · rw [e1, after_app _ _ _ (by omega), h2]
  · rw [e1, e2, splice_take h1 (by omega), h3, List.drop_append_of_le_length (by omega)]

/-- More bytes, up to the block's end. -/
theorem HOk.full {ad : S8} {pt xs : List UInt8} (h : HOk ad pt xs) (zs : List UInt8) (hz : xs.length % 64 + zs.length = 64) :
    HOk (ad.plus (rounds (wds (splice pt (xs.length % 64) zs) 64) (first8.plus ad) 64)) (splice pt (xs.length % 64) zs) (xs ++ zs) := by
  obtain ⟨h1, h2, h3⟩ := h
  have hl := splice_length h1 (r := xs.length % 64) (zs := zs) (by omega)
  have e1 : (xs ++ zs).length / 64 = xs.length / 64 + 1 := by rw [List.length_append]; omega
  have e2 : (xs ++ zs).length % 64 = 0 := by rw [List.length_append]; omega
  have e3 : splice pt (xs.length % 64) zs = ((xs ++ zs).drop (64 * (xs.length / 64))).take 64 := by
    have e := splice_take h1 (r := xs.length % 64) (zs := zs) (by omega)
    rw [hz, List.take_of_length_le (by omega), h3] at e
    rw [e, List.drop_append_of_le_length (by omega), List.take_of_length_le (by simp; omega)]
  refine ⟨hl, ?_, ?_⟩
  · rw [e1, after, after_app _ _ _ (by omega), ← h2, ← S8.plus_assoc, press, mixed, ← e3]
  · rw [e1, e2, List.take_zero, List.drop_eq_nil_of_le (by rw [List.length_append]; omega)]

/-- What is in the block when all is there: the sum. -/
theorem HOk.sum {ad : S8} {pt xs : List UInt8} (h : HOk ad pt (xs ++ ends xs.length)) : (first8.plus ad).bytes = sha xs := by
  rw [h.2.1]
  rfl

theorem HS.add {w : World} {g : Nat} {ad : S8} {pt : List UInt8} {n : Nat} (h : Blk w g 88 (hcs ad pt n)) (ad' : S8) : Blk (w.setCells g 0 ad'.cells) g 88 (hcs ad' pt n) :=
  Blk.cells g ad'.cells [] ad.cells _ w rfl h

/-- The frame, of a hash and of another block. -/
theorem HS.keep {w w' : World} {g : Nat} {xs : List UInt8} (h : HS w g xs) (hk : w'.heap[g]? = w.heap[g]?) : HS w' g xs := by
  obtain ⟨ad, pt, hb, hs⟩ := h
  exact ⟨ad, pt, hk.trans hb, hs⟩

theorem HS.lt {w : World} {g : Nat} {xs : List UInt8} (h : HS w g xs) : g < w.heap.size := by
  obtain ⟨ad, pt, hb, hs⟩ := h
  exact hb.lt

theorem HS.through {w w' : World} {g : Nat} {xs : List UInt8} (h : HS w g xs) (hb : Below w.heap.size w w') : HS w' g xs := h.keep (hb.block g h.lt)

theorem hcs_one {ad : S8} {pt : List UInt8} {n : Nat} : (hcs ad pt n).toArray.all (·.oneCell') = true := by
  refine Array.all_eq_true_iff_forall_mem.2 fun v hv => ?_
  have hv' : v ∈ ad.cells ++ (vs pt ++ [Value.int .i64 (n : Int)]) := by simpa [hcs] using hv
  rcases List.mem_append.1 hv' with h | h
  · obtain ⟨x, _, rfl⟩ := List.mem_map.1 h
    rfl
  · rcases List.mem_append.1 h with h | h
    · exact vs_one v h
    · obtain rfl : v = _ := by simpa using h
      rfl

set_option maxHeartbeats 400000 in
theorem turn_mod (x : UInt32) (n : Int) (k : Nat) (hk : k < 32) (hn : n % 32 = k) (w : World) :
    Calls Tryd.prog 54 #[.int .u32 (n32 x), .int .i64 n] w fun e w' => e = .returned (.int .u32 (n32 (rotr x k))) ∧ w = w' := by
  have hr : (IntKind.u64.wrap n).tmod 32 = k := by
    rw [IntKind.wrap_u64, Int.tmod_eq_emod_of_nonneg (by omega)]
    omega
  have h2 : ((32 : Int) - k).toNat = 32 - k := by omega
  have h3 : IntKind.u64.wrap (32 - (k : Int)) = 32 - k := by rw [IntKind.wrap_u64]; omega
  have ht := Lib.hid (w32_turn x k hk)
  clear hn
  go_enter Tryd.func54, Tryd.ntmps54
  go_wp2
  rw [ht.out]
  go_ret
  exact ⟨rfl, rfl⟩

/-- turned by a number that the text names -/
theorem turn_any (x : UInt32) (k : Nat) (hk : k < 32) (w : World) :
    Calls Tryd.prog 54 #[.int .u32 (n32 x), .int .i64 k] w fun e w' => e = .returned (.int .u32 (n32 (rotr x k))) ∧ w = w' :=
  turn_mod x k k hk (by omega) w

theorem turn_lit (x : UInt32) (n : Int) (h0 : 0 ≤ n) (h1 : n < 32) (w : World) :
    Calls Tryd.prog 54 #[.int .u32 (n32 x), .int .i64 n] w fun e w' => e = .returned (.int .u32 (n32 (rotr x n.toNat))) ∧ w = w' :=
  turn_mod x n n.toNat (by omega) (by omega) w

theorem turn_q (x : UInt32) (n : Int) (h0 : 0 ≤ n) (h1 : n < 32) (w : World) :
    Calls Tryd.prog 54 #[.int .u32 (n32 x), .int .i64 n] w fun e w' => e = .returned (.int .u32 (n32 (rotr x n.toNat))) ∧ w' = w :=
  (turn_lit x n h0 h1 w).mono fun _ _ ⟨he, hw⟩ => ⟨he, hw.symm⟩

theorem Tryd.sched_idx (b : List UInt8) (hb : b.length = 64) (j : Nat) (hj : j < 64) (w : World) :
    (Instr.index 86 (.agg (vs b).toArray) (.int .i64 (j : Int))).run Tryd.prog w = .ok (.int .u8 ((b.getD j 0).toNat : Int)) w :=
  run_index_row w 86 5 64 (vs b) .i64 j _ Tryd.underlying86 (by kernel_rfl) (by kernel_rfl) hj (vs_getD b j (by omega))

set_option maxHeartbeats 1000000 in
set_option maxRecDepth 100000 in
theorem schedule_any (b : List UInt8) (hb : b.length = 64) (w : World) :
    Calls Tryd.prog 49 #[.agg (vs b).toArray] w fun e w' => e = .returned (.agg ((wds b 64).map c32).toArray) ∧ Below w.heap.size w w' := by
  have HB := Lib.hid hb
  clear hb
  go_enter Tryd.func49, Tryd.ntmps49
  go_wp2_with (refine wpList_load_row rfl 86 (.tmp 1) rfl w.heap.size rfl 86 (vs b).toArray (0, 0) _ ?hg Tryd.underlying86 rfl ?hs ?_)
  case hg => exact (Below.heap_alloc _ _ _ (by simp; omega)).trans ((Below.heap_alloc _ _ _ (by simp)).trans (heap_alloc_new _ _))
  case hs => rw [show (vs b).toArray.size = 64 from by simp [vs, HB.out]]; kernel_rfl
  go_wp2
  go_loopw [12] (fun i wr => ∃ k : Nat, k ≤ 64 ∧ i = .int .i64 k ∧ Blk wr (w.heap.size + 1 + 1) 90 (pcs b k) ∧ Blk wr (w.heap.size + 1) 90 (List.replicate 64 (c32 0)) ∧ Below w.heap.size w wr) (fun i _ => 64 - (intOf i).toNat)
  case atStart =>
    refine ⟨0, by omega, rfl, ?_, ?_, ?_⟩
    · rw [pcs_0]; exact Blk.fresh (by simp) (by kernel_rfl)
    · exact Blk.alloc (Blk.fresh (by simp) (by kernel_rfl)) _
    · exact (((Below.refl _ w).alloc (Nat.le_refl _) _).alloc (by simp) _).alloc (by simp; omega) _
  case round =>
    obtain ⟨k, hk, rfl, h3, h2, hb⟩ := hrel
    by_cases hlt : k < 64
    · have H3 := Lib.hid h3
      have H2 := Lib.hid h2
      have HBe := Lib.hid hb
      have hc : wr.cell? ⟨w.heap.size + 1 + 1, k / 4, none⟩ = some (.int .u32 (n32 (pw b k (k / 4)))) := h3.cellAt (pcs_get b k (k / 4) (by omega))
      have hf : wr.frozen? ⟨w.heap.size + 1 + 1, k / 4, none⟩ = false := h3.frozen _
      have hx := Tryd.sched_idx b HB.out k hlt
      have hset := pcs_set b k HB.out hlt
      generalize b.getD k 0 = x at hx hset
      have HS := Lib.hid hset
      have hp := w32_pack (pw b k (k / 4)) x
      have hbt := x.toNat_lt
      clear hset
      clear h3 h2 hb
      go_wp2
      go_roundw
      case rel =>
        refine ⟨k + 1, by omega, by go_num, ?_, H2.out.far (by simp) _, HBe.out.setCell (by simp; omega) _⟩
        have h := H3.out.set_ (k / 4) (c32 ((pw b k (k / 4) <<< 8) ||| x.toUInt32))
        rw [HS.out] at h
        exact h
      case measure => simp [intOf]; omega
    · have e64 : k = 64 := by omega
      rw [e64, pcs_64 b HB.out] at h3
      clear e64
      have H3 := Lib.hid h3
      have H2 := Lib.hid h2
      have HBe := Lib.hid hb
      clear h3 h2 hb
      go_wp2
      obtain ⟨wo, rfl⟩ : ∃ wo : World, wo = wr := ⟨_, rfl⟩
      go_loopw [6] (fun i wr => ∃ k : Nat, 16 ≤ k ∧ k ≤ 64 ∧ i = .int .i64 k ∧ Blk wr (w.heap.size + 1 + 1) 90 (scs b k) ∧ Blk wr (w.heap.size + 1) 90 (List.replicate 64 (c32 0)) ∧ Below w.heap.size w wr) (fun i _ => 64 - (intOf i).toNat)
      case atStart => exact ⟨16, by omega, by omega, rfl, H3.out, H2.out, HBe.out⟩
      case round =>
        obtain ⟨k, hk16, hk, rfl, h3, h2, hb⟩ := hrel
        by_cases hlt : k < 64
        · clear H3 H2 HBe
          have H3 := Lib.hid h3
          have H2 := Lib.hid h2
          have HBe := Lib.hid hb
          have hc : ∀ j, j < k → wr.cell? ⟨w.heap.size + 1 + 1, j, none⟩ = some (.int .u32 (n32 ((wds b k).getD j 0))) := fun j hj => h3.cellAt (scs_get b k j hj)
          have c15 := hc (k - 15) (by omega)
          have c2 := hc (k - 2) (by omega)
          have c16 := hc (k - 16) (by omega)
          have c7 := hc (k - 7) (by omega)
          have ck : wr.cell? ⟨w.heap.size + 1 + 1, k, none⟩ = some (.int .u32 (n32 0)) := h3.cellAt (scs_zero b k hlt)
          have hf : wr.frozen? ⟨w.heap.size + 1 + 1, k, none⟩ = false := h3.frozen _
          have hxx := w32_xor
          have haa := w32_add
          have s3 := w32_shr3
          have s10 := w32_shr10
          have hset := scs_set b k hlt
          rw [nextW, if_neg (by omega)] at hset
          generalize (wds b k).getD (k - 15) 0 = x15 at c15 hset
          generalize (wds b k).getD (k - 2) 0 = x2 at c2 hset
          generalize (wds b k).getD (k - 16) 0 = x16 at c16 hset
          generalize (wds b k).getD (k - 7) 0 = x7 at c7 hset
          have HS := Lib.hid hset
          clear h3 h2 hb hc hset
          go_wp2
          go_region
          all_goals go_wp2_with (go_at_call 54; refine (turn_lit _ _ (by omega) (by omega) _).mono ?_; rintro e w' ⟨rfl, rfl⟩)
          all_goals go_region
          all_goals go_wp2
          all_goals go_roundw
          case measure => simp [intOf]; omega
          case rel =>
            refine ⟨k + 1, by omega, by omega, by go_num, ?_, H2.out.far (by simp) _, (HBe.out.setCell (by simp; omega) _).drew.drew⟩
            have h := H3.out.set_ k (c32 (x16 + sg0 x15 + x7 + sg1 x2))
            rw [HS.out] at h
            exact h
        · have e64 : k = 64 := by omega
          rw [e64, scs_64] at h3
          clear e64 H3 H2 HBe
          obtain ⟨ws, hws⟩ : ∃ ws, ws = (wds b 64).map c32 := ⟨_, rfl⟩
          have hlen : ws.toArray.size = 64 := by rw [hws]; simp [wds_length]
          have hone : ws.toArray.all (·.oneCell') = true := by rw [hws]; exact one_u32
          rw [← hws] at h3
          have HW := Lib.hid hws
          have HL := Lib.hid hlen
          have HO := Lib.hid hone
          have H3 := Lib.hid h3
          have H2 := Lib.hid h2
          have HBe := Lib.hid hb
          clear h3 h2 hb hlen hws hone
          go_wp2_with (first
            | (refine wpList_load_row rfl 90 (.tmp 3) rfl (w.heap.size + 1 + 1) rfl 90 ws.toArray (0, 0) _ H3.out Tryd.underlying90 rfl ?hs2 ?_)
            | (refine wpList_store_row rfl 90 (.tmp 2) (.tmp 71) rfl (w.heap.size + 1) ws.toArray rfl rfl 90 (List.replicate 64 (c32 0)).toArray H2.out ?i1 ?i2 HO.out ?_))
          case hs2 => rw [HL.out]; kernel_rfl
          case i1 => rw [HL.out]; kernel_rfl
          case i2 => rw [HL.out]; rfl
          refine bodyPost_ret (v := .agg ws.toArray) (results_cell_row rfl _ _ (w.heap.size + 1) 90 _ (0, 0) _ rfl (H2.out.row _) Tryd.underlying90 rfl ?r1) rfl ⟨by rw [HW.out], below_row HBe.out _ (by omega) _⟩
          rw [HL.out]; kernel_rfl

/-- The two tables stand as the program's text lays them. -/
def Tab (w : World) : Prop :=
  (∀ i : Nat, i < 8 → w.cell? ⟨0, i, none⟩ = some (.int .u32 (n32 (first8.list.getD i 0)))) ∧
  (∀ i : Nat, i < 64 → w.cell? ⟨1, i, none⟩ = some (.int .u32 (n32 (kTab.getD i 0))))

theorem Tab.lt {w : World} (h : Tab w) : 0 < w.heap.size ∧ 1 < w.heap.size :=
  ⟨World.block_lt_of_cell? w ⟨0, 0, none⟩ (h.1 0 (by omega)), World.block_lt_of_cell? w ⟨1, 0, none⟩ (h.2 0 (by omega))⟩

theorem Tab.below {B : Nat} {w w' : World} (h : Tab w) (hb : Below B w w') (h0 : 0 < B) (h1 : 1 < B) : Tab w' :=
  ⟨fun i hi => (hb.cell (p := ⟨0, i, none⟩) h0).trans (h.1 i hi), fun i hi => (hb.cell (p := ⟨1, i, none⟩) h1).trans (h.2 i hi)⟩

theorem Tab.through {w w' : World} (h : Tab w) (hb : Below w.heap.size w w') : Tab w' := h.below hb h.lt.1 h.lt.2

theorem Tryd.mix_idx (s : S8) (j : Nat) (hj : j < 8) (w : World) :
    (Instr.index 85 (.agg s.cells.toArray) (.int .i64 (j : Int))).run Tryd.prog w = .ok (.int .u32 (n32 (s.list.getD j 0))) w :=
  run_index_row w 85 41 8 s.cells .i64 j _ Tryd.underlying85 (by kernel_rfl) (by kernel_rfl) hj (s.cells_at j hj)

theorem Tryd.mix_build (a b c d e f g h : Int) (w : World) :
    (Instr.build 85 #[(0, .int .u32 a), (1, .int .u32 b), (2, .int .u32 c), (3, .int .u32 d), (4, .int .u32 e), (5, .int .u32 f), (6, .int .u32 g), (7, .int .u32 h)]).run Tryd.prog w =
      .ok (.agg #[.int .u32 a, .int .u32 b, .int .u32 c, .int .u32 d, .int .u32 e, .int .u32 f, .int .u32 g, .int .u32 h]) w := by kernel_rfl

set_option maxHeartbeats 2000000 in
set_option maxRecDepth 100000 in
theorem mix_any (ad : S8) (ws : List UInt32) (hws : ws.length = 64) (w : World) (ht : Tab w) :
    Calls Tryd.prog 48 #[.agg ad.cells.toArray, .agg (ws.map c32).toArray] w fun e w' => e = .returned (.agg (ad.plus (rounds ws (first8.plus ad) 64)).cells.toArray) ∧ Below w.heap.size w w' := by
  obtain ⟨wc, hwc⟩ : ∃ wc, wc = ws.map c32 := ⟨_, rfl⟩
  have hwat : ∀ k, k < 64 → wc[k]? = some (.int .u32 (n32 (ws.getD k 0))) := by
    intro k hk
    rw [hwc, List.getElem?_map, List.getElem?_eq_getElem (by omega)]
    simp [c32, List.getD, hws, hk]
  rw [← hwc]
  have HW := Lib.hid hwat
  have HT := Lib.hid ht
  clear hwat hwc hws ht
  go_enter Tryd.func48, Tryd.ntmps48
  go_wp2
  go_loopw [22] (fun i wr => ∃ k : Nat, k ≤ 8 ∧ i = .int .i64 k ∧ Blk wr (w.heap.size + 1 + 1 + 1) 85 (swp (first8.plus ad).cells S8.zero.cells k) ∧ Blk wr w.heap.size 85 ad.cells ∧ Blk wr (w.heap.size + 1) 90 wc ∧ Blk wr (w.heap.size + 1 + 1) 85 S8.zero.cells ∧ Below w.heap.size w wr) (fun i _ => 8 - (intOf i).toNat)
  case atStart =>
    refine ⟨0, by omega, rfl, ?_, ?_, ?_, ?_, ?_⟩
    · rw [swp_0]; exact Blk.fresh (by simp) (by kernel_rfl)
    · exact (((Blk.fresh rfl rfl).alloc _).alloc _).alloc _
    · exact ((Blk.fresh (by simp) rfl).alloc _).alloc _
    · exact (Blk.fresh (by simp) (by kernel_rfl)).alloc _
    · exact ((((Below.refl _ w).alloc (Nat.le_refl _) _).alloc (by simp) _).alloc (by simp; omega) _).alloc (by simp; omega) _
  case round =>
    obtain ⟨k, hk, rfl, h3, h0, h1, h2, hb⟩ := hrel
    by_cases hlt : k < 8
    · as_aux_lemma =>
      have hT := HT.out.through hb
      have hc3 : wr.cell? ⟨w.heap.size + 1 + 1 + 1, k, none⟩ = some (.int .u32 (n32 (S8.zero.list.getD k 0))) := h3.cellAt ((swp_at (first8.plus ad).cells S8.zero.cells k hlt).trans (S8.zero.cells_at k hlt))
      have hf3 : wr.frozen? ⟨w.heap.size + 1 + 1 + 1, k, none⟩ = false := h3.frozen _
      have hc0 : wr.cell? ⟨w.heap.size, k, none⟩ = some (.int .u32 (n32 (ad.list.getD k 0))) := h0.cellAt (ad.cells_at k hlt)
      have hcT := hT.1 k hlt
      have hset := swp_set (first8.plus ad).cells S8.zero.cells k _ ((first8.plus ad).cells_at k hlt) hlt
      rw [S8.plus_at _ _ k hlt] at hset
      have HS := Lib.hid hset
      have haa := w32_add
      have H3 := Lib.hid h3
      have H0 := Lib.hid h0
      have H1 := Lib.hid h1
      have H2 := Lib.hid h2
      have HBe := Lib.hid hb
      clear h3 h0 h1 h2 hb hT hset
      generalize S8.zero.list.getD k 0 = z at hc3
      generalize first8.list.getD k 0 = x at hcT HS
      generalize ad.list.getD k 0 = y at hc0 HS
      go_wp2
      go_region
      go_wp2
      go_roundw
      case rel =>
        have h := H3.out.set_ k (.int .u32 (n32 (x + y)))
        rw [HS.out] at h
        exact ⟨k + 1, by omega, by go_num, h, H0.out.far (by simp; omega) _, H1.out.far (by simp) _, H2.out.far (by simp) _, (HBe.out.setCell (by simp; omega) _).drew⟩
      case measure => simp [intOf]; omega
    · as_aux_lemma =>
      have e8 : k = 8 := by omega
      rw [e8, swp_all _ _ 8 rfl rfl] at h3
      obtain ⟨s0, hs0⟩ : ∃ s0, s0 = first8.plus ad := ⟨_, rfl⟩
      rw [← hs0] at h3
      have c0 : wr.cell? ⟨w.heap.size + 1 + 1 + 1, 0, none⟩ = some (.int .u32 (n32 s0.a)) := h3.cellAt rfl
      have c1 : wr.cell? ⟨w.heap.size + 1 + 1 + 1, 1, none⟩ = some (.int .u32 (n32 s0.b)) := h3.cellAt rfl
      have c2 : wr.cell? ⟨w.heap.size + 1 + 1 + 1, 2, none⟩ = some (.int .u32 (n32 s0.c)) := h3.cellAt rfl
      have c3 : wr.cell? ⟨w.heap.size + 1 + 1 + 1, 3, none⟩ = some (.int .u32 (n32 s0.d)) := h3.cellAt rfl
      have c4 : wr.cell? ⟨w.heap.size + 1 + 1 + 1, 4, none⟩ = some (.int .u32 (n32 s0.e)) := h3.cellAt rfl
      have c5 : wr.cell? ⟨w.heap.size + 1 + 1 + 1, 5, none⟩ = some (.int .u32 (n32 s0.f)) := h3.cellAt rfl
      have c6 : wr.cell? ⟨w.heap.size + 1 + 1 + 1, 6, none⟩ = some (.int .u32 (n32 s0.g)) := h3.cellAt rfl
      have c7 : wr.cell? ⟨w.heap.size + 1 + 1 + 1, 7, none⟩ = some (.int .u32 (n32 s0.h)) := h3.cellAt rfl
      have HS0 := Lib.hid hs0
      have H0 := Lib.hid h0
      have H1 := Lib.hid h1
      have H2 := Lib.hid h2
      have HBe := Lib.hid hb
      clear h3 h0 h1 h2 hb e8 hs0
      go_wp2
      go_quiet (fail)
      clear c0 c1 c2 c3 c4 c5 c6 c7
      go_wp2
      obtain ⟨wo, hwo⟩ : ∃ wo : World, wo = wr.drewN nq := ⟨_, rfl⟩
      have H0' : Blk wo w.heap.size 85 ad.cells := by rw [hwo]; exact H0.out
      have H1' : Blk wo (w.heap.size + 1) 90 wc := by rw [hwo]; exact H1.out
      have H2' : Blk wo (w.heap.size + 1 + 1) 85 S8.zero.cells := by rw [hwo]; exact H2.out
      have HB' : Below w.heap.size w wo := by rw [hwo]; exact below_drewN HBe.out _
      rw [← hwo]
      clear hwo H0 H1 H2 HBe
      go_loopw [7, 8, 9, 10, 11, 12, 13, 14, 51] (fun a b c d e f g h i wr => ∃ (k : Nat) (s : S8), k ≤ 64 ∧ s = rounds ws s0 k ∧ i = .int .i64 k ∧ a = .int .u32 (n32 s.a) ∧ b = .int .u32 (n32 s.b) ∧ c = .int .u32 (n32 s.c) ∧ d = .int .u32 (n32 s.d) ∧ e = .int .u32 (n32 s.e) ∧ f = .int .u32 (n32 s.f) ∧ g = .int .u32 (n32 s.g) ∧ h = .int .u32 (n32 s.h) ∧ Blk wr w.heap.size 85 ad.cells ∧ Blk wr (w.heap.size + 1) 90 wc ∧ Blk wr (w.heap.size + 1 + 1) 85 S8.zero.cells ∧ Below w.heap.size w wr) (fun _ _ _ _ _ _ _ _ i _ => 64 - (intOf i).toNat)
      case atStart => exact ⟨0, s0, by omega, rfl, rfl, rfl, rfl, rfl, rfl, rfl, rfl, rfl, rfl, H0', H1', H2', HB'⟩
      case round =>
        obtain ⟨j, s, hj, hs, rfl, rfl, rfl, rfl, rfl, rfl, rfl, rfl, rfl, h0, h1, h2, hb⟩ := hrel
        clear H0' H1' H2' HB'
        have HSs := Lib.hid hs
        have H0 := Lib.hid h0
        have H1 := Lib.hid h1
        have H2 := Lib.hid h2
        have HBe := Lib.hid hb
        by_cases hltj : j < 64
        · as_aux_lemma =>
          have hT := HT.out.through hb
          have hcT := hT.2 j hltj
          have hcw : wr.cell? ⟨w.heap.size + 1, j, none⟩ = some (.int .u32 (n32 (ws.getD j 0))) := h1.cellAt (HW.out j hltj)
          have hr : rnd (kTab.getD j 0) (ws.getD j 0) s = rounds ws s0 (j + 1) := by rw [rounds, hs]
          generalize kTab.getD j 0 = kk at hcT hr
          generalize ws.getD j 0 = ww at hcw hr
          have HR := Lib.hid hr
          clear hs h0 h1 h2 hb hT hr
          have hand := w32_and
          have hxor := w32_xor
          have hadd := w32_add
          have hnot := w32_not'
          have hch := choose_xor
          have hmo := most_xor
          go_wp2
          go_quiet ((go_at_call 54; exact Calls.quiet_of_same (turn_q _ _ (by omega) (by omega) _)))
          go_wp2_with (go_at_call 54; refine (turn_lit _ _ (by omega) (by omega) _).mono ?_; rintro e w' ⟨rfl, rfl⟩)
          go_roundw
          case rel => exact ⟨j + 1, rnd kk ww s, by omega, HR.out, by go_num, by rw [w32_add, rnd_a], rfl, rfl, rfl, by rw [w32_add, rnd_e], rfl, rfl, rfl, H0.out, H1.out, H2.out, below_drewN HBe.out _⟩
          case measure => simp [intOf]; omega
        · as_aux_lemma =>
          have e64 : j = 64 := by omega
          rw [e64] at hs
          clear HSs H0 H1 H2 HBe e64
          have HSs := Lib.hid hs
          have H0 := Lib.hid h0
          have H2 := Lib.hid h2
          have HBe := Lib.hid hb
          clear hs h0 h1 h2 hb
          go_wp2_with (refine wpList_build_to rfl 85 _ rfl [(0, .int .u32 (n32 s.a)), (1, .int .u32 (n32 s.b)), (2, .int .u32 (n32 s.c)), (3, .int .u32 (n32 s.d)), (4, .int .u32 (n32 s.e)), (5, .int .u32 (n32 s.f)), (6, .int .u32 (n32 s.g)), (7, .int .u32 (n32 s.h))] rfl _ (Tryd.mix_build _ _ _ _ _ _ _ _ _) ?_)
          obtain ⟨wv, rfl⟩ : ∃ wv : World, wv = wr := ⟨_, rfl⟩
          go_loopw [125] (fun i wr => ∃ k : Nat, k ≤ 8 ∧ i = .int .i64 k ∧ Blk wr w.heap.size 85 (swp (ad.plus s).cells ad.cells k) ∧ Blk wr (w.heap.size + 1 + 1) 85 S8.zero.cells ∧ Below w.heap.size w wr) (fun i _ => 8 - (intOf i).toNat)
          case atStart => exact ⟨0, by omega, rfl, by rw [swp_0]; exact H0.out, H2.out, HBe.out⟩
          case round =>
            obtain ⟨m, hm, rfl, h0, h2, hb⟩ := hrel
            clear H0 H2 HBe
            by_cases hltm : m < 8
            · as_aux_lemma =>
              have hc0 : wr.cell? ⟨w.heap.size, m, none⟩ = some (.int .u32 (n32 (ad.list.getD m 0))) := h0.cellAt ((swp_at (ad.plus s).cells ad.cells m hltm).trans (ad.cells_at m hltm))
              have hf0 : wr.frozen? ⟨w.heap.size, m, none⟩ = false := h0.frozen _
              have hset := swp_set (ad.plus s).cells ad.cells m _ ((ad.plus s).cells_at m hltm) hltm
              rw [S8.plus_at _ _ m hltm] at hset
              have hidx : (Instr.index 85 (.agg #[.int .u32 (n32 s.a), .int .u32 (n32 s.b), .int .u32 (n32 s.c), .int .u32 (n32 s.d), .int .u32 (n32 s.e), .int .u32 (n32 s.f), .int .u32 (n32 s.g), .int .u32 (n32 s.h)]) (.int .i64 (m : Int))).run Tryd.prog wr = .ok (.int .u32 (n32 (s.list.getD m 0))) wr := Tryd.mix_idx s m hltm wr
              have haa := w32_add
              have HS := Lib.hid hset
              have H0 := Lib.hid h0
              have H2 := Lib.hid h2
              have HBe := Lib.hid hb
              clear h0 h2 hb hset
              generalize s.list.getD m 0 = y at hidx HS
              generalize ad.list.getD m 0 = x at hc0 HS
              go_wp2
              go_roundw
              case rel =>
                have h := H0.out.set_ m (.int .u32 (n32 (x + y)))
                rw [HS.out] at h
                exact ⟨m + 1, by omega, by go_num, h, H2.out.far (by simp; omega) _, HBe.out.setCell (by simp) _⟩
              case measure => simp [intOf]; omega
            · as_aux_lemma =>
              have e8 : m = 8 := by omega
              rw [e8, swp_all _ _ 8 rfl rfl] at h0
              obtain ⟨r, hr⟩ : ∃ r, r = (ad.plus s).cells := ⟨_, rfl⟩
              have hlen : r.toArray.size = 8 := by rw [hr]; rfl
              have hone : r.toArray.all (·.oneCell') = true := by rw [hr]; exact one_u32
              have hfin : r.toArray = (ad.plus (rounds ws (first8.plus ad) 64)).cells.toArray := by rw [hr, HSs.out, HS0.out]
              rw [← hr] at h0
              have HL := Lib.hid hlen
              have HO := Lib.hid hone
              have HF := Lib.hid hfin
              have H0 := Lib.hid h0
              have H2 := Lib.hid h2
              have HBe := Lib.hid hb
              clear h0 h2 hb e8 hr hlen hone hfin
              go_wp2_with (first
                | (refine wpList_load_row rfl 85 (.tmp 2) rfl w.heap.size rfl 85 r.toArray (0, 0) _ H0.out Tryd.underlying85 rfl ?hs2 ?_)
                | (refine wpList_store_row rfl 85 (.tmp 4) (.tmp 136) rfl (w.heap.size + 1 + 1) r.toArray rfl rfl 85 S8.zero.cells.toArray H2.out ?i1 ?i2 HO.out ?_))
              case hs2 => rw [HL.out]; kernel_rfl
              case i1 => rw [HL.out]; kernel_rfl
              case i2 => rw [HL.out]; rfl
              refine bodyPost_ret (v := .agg r.toArray) (results_cell_row rfl _ _ (w.heap.size + 1 + 1) 85 _ (0, 0) _ rfl (H2.out.row _) Tryd.underlying85 rfl ?r1) rfl ⟨by rw [HF.out], below_row HBe.out _ (by omega) _⟩
              rw [HL.out]; kernel_rfl

theorem Tab.only {w w' : World} {g : Nat} (h : Tab w) (ho : w.grownBy w' (some g)) (_h0 : 0 < g) (h1 : 1 < g) : Tab w' :=
  ⟨fun i hi => (World.cell?_of_block (a := ⟨0, i, none⟩) (ho.block _ h.lt.1 (fun e => by injection e with e; exact absurd (show 0 = g from e) (by omega)))).trans (h.1 i hi),
   fun i hi => (World.cell?_of_block (a := ⟨1, i, none⟩) (ho.block _ h.lt.2 (fun e => by injection e with e; exact absurd (show 1 = g from e) (by omega)))).trans (h.2 i hi)⟩

def lenV : Value → Nat
  | .slice _ n _ => n
  | _ => 0

theorem By.src {w : World} {Q : Nat → Prop} {A : Option Addr} {n k : Nat} {xs : List UInt8} (h : By w Q A n xs) (hn : 0 < n) : ∃ ad, A = some ad ∧ ∀ j v, (vs (xs.take k))[j]? = some v → w.cell? (ad.add j) = some v := by
  obtain ⟨g, o, e, _, hc⟩ := h.2 hn
  refine ⟨_, e, fun j v hv => ?_⟩
  rw [vs_get] at hv
  obtain ⟨x, hx, rfl⟩ := Option.map_eq_some_iff.1 hv
  rw [List.getElem?_take] at hx
  split at hx
  · have ea : (⟨g, o, none⟩ : Addr).add j = ⟨g, o + j, none⟩ := by unfold Addr.add; split <;> simp_all
    rw [ea]
    exact hc j x hx
  · cases hx

theorem By.cut {w : World} {Q : Nat → Prop} {A : Option Addr} {n k c : Nat} {xs : List UInt8} (h : By w Q A n xs) (hk : k ≤ n) (hc : n ≤ c) : By w Q (cutA A c k) (n - k) (xs.drop k) := h.drop hk hc

set_option maxHeartbeats 1000000 in
set_option maxRecDepth 100000 in
theorem add_any (g : Nat) (xs ys : List UInt8) (A : Option Addr) (n c : Nat) (w : World) (hby : By w (· ≠ g) A n ys) (hnc : n ≤ c) (hcm : c ≤ maxLen) (h : HS w g xs) (ht : Tab w) (hg0 : 0 < g) (hg1 : 1 < g)
    (hlen : xs.length + n ≤ 1099511627776) :
    Calls Tryd.prog 35 #[.pointer (some ⟨g, 0, none⟩), .slice A n c] w fun e w' => e = .returned (.tuple #[]) ∧ HS w' g (xs ++ ys) ∧ w.grownBy w' (some g) := by
  have HBy := Lib.hid hby
  have HH := Lib.hid h
  have HT := Lib.hid ht
  clear hby h ht
  have hylen : ys.length = n := HBy.out.len
  have HY := Lib.hid hylen
  clear hylen
  unfold maxLen at hcm
  go_enter Tryd.func35, Tryd.ntmps35
  go_wp2
  go_loopw [1] (fun b wr => ∃ (xs' zs : List UInt8) (A' : Option Addr) (m c' : Nat), b = .slice A' m c' ∧ xs' ++ zs = xs ++ ys ∧ m ≤ c' ∧ c' ≤ 9223372036854775807 ∧ By wr (· ≠ g) A' m zs ∧ HS wr g xs' ∧ w.grownBy wr (some g)) (fun b _ => lenV b)
  case atStart => exact ⟨xs, ys, A, n, c, rfl, rfl, hnc, hcm, HBy.out, HH.out, only_refl _ _⟩
  case round =>
    obtain ⟨xs', zs, A', m, c', rfl, hcat, hmc, hcm', hz, hh, ho⟩ := hrel
    by_cases hm : m = 0
    · subst hm
      obtain rfl : zs = [] := List.eq_nil_of_length_eq_zero hz.len
      rw [List.append_nil] at hcat
      rw [hcat] at hh
      have H1 := Lib.hid hh
      have H2 := Lib.hid ho
      clear hcat hz hh ho
      go_wp2
      go_end0
      exact ⟨rfl, H1.out, H2.out⟩
    · obtain ⟨ad, pt, hblk, hok⟩ := hh
      have hzl : zs.length = m := hz.len
      have hL : xs'.length + m = xs.length + n := by
        have h := congrArg List.length hcat
        rw [List.length_append, List.length_append, hzl, HY.out] at h
        exact h
      obtain ⟨r, hr⟩ : ∃ r, r = xs'.length % 64 := ⟨_, rfl⟩
      obtain ⟨k, hk⟩ : ∃ k, k = Nat.min m (64 - r) := ⟨_, rfl⟩
      have hr64 : r < 64 := by omega
      have hkm : k ≤ m := by rw [hk]; exact Nat.min_le_left _ _
      have hkr : k ≤ 64 - r := by rw [hk]; exact Nat.min_le_right _ _
      have hk0 : 0 < k := by rw [hk]; exact Nat.lt_min.2 ⟨by omega, by omega⟩
      have hkl : (zs.take k).length = k := by rw [List.length_take]; omega
      obtain ⟨L, hLe⟩ : ∃ L, L = xs'.length := ⟨_, rfl⟩
      rw [← hLe] at hblk hr hL
      have hri : (L : Int) % 64 = (r : Int) := by omega
      have hrt : (L : Int).tmod 64 = (r : Int) := by rw [Int.tmod_eq_emod_of_nonneg (by omega)]; exact hri
      have hcl : wr.cell? ⟨g, 72, none⟩ = some (.int .i64 (L : Int)) := hblk.cellAt (hcs_len hok.1)
      have hsl := fun (W : World) => run_sliceArr_l (P := Tryd.prog) W 86 5 64 g 8 .i64 (r : Int) Tryd.underlying86 (by kernel_rfl) (by omega) (by omega)
      rw [Int.toNat_natCast] at hsl
      have hcut := fun (W : World) => run_cut (P := Tryd.prog) W 34 5 A' m c' .i64 k Tryd.underlying34 (by kernel_rfl) hkm
      have hpos : 0 < m := by omega
      have HSrc := Lib.hid (hz.src (k := k) hpos)
      have HCL := Lib.hid ((vs_length (zs.take k)).trans hkl)
      have HBlk := Lib.hid hblk
      have HOK := Lib.hid hok
      have HZ := Lib.hid hz
      have HO := Lib.hid ho
      have HCat := Lib.hid hcat
      have HK := Lib.hid hk
      have HR := Lib.hid hr
      have HLe := Lib.hid hLe
      have HKl := Lib.hid hkl
      have HZl := Lib.hid hzl
      have hone : ∀ v ∈ vs (zs.take k), v.oneCell' = true := vs_one
      have HOne := Lib.hid hone
      have hLb : L + k ≤ 1099511627776 := by omega
      clear hblk hok hz ho hcat hk hr hLe hkl hzl hm hL hone
      go_wp2
      go_region_law (refine step_copy_blk rfl (.tmp 18) (.tmp 19) 34 34 rfl 5 Tryd.underlying34 (by kernel_rfl) g (8 + r) (64 - r) (64 - r) A' m c' (by simp [Act.eval, Act.put]) (by simp [Act.eval, Act.put]) (hcs ad pt L) 88 HBlk.out (vs (zs.take k)) k HCL.out HK.out hk0 HSrc.out (by rw [hcs_length HOK.out.1]; omega) HOne.out ?_; intro w2 hb2 ho2)
      rw [hcs_splice HOK.out.1 r (zs.take k) (by rw [HKl.out]; omega)] at hb2
      have hpl : (splice pt r (zs.take k)).length = 64 := splice_length HOK.out.1 (by rw [HKl.out]; omega)
      obtain ⟨pt', hpt'⟩ : ∃ pt', pt' = splice pt r (zs.take k) := ⟨_, rfl⟩
      rw [← hpt'] at hb2 hpl
      have hc2 : w2.cell? ⟨g, 72, none⟩ = some (.int .i64 (L : Int)) := hb2.cellAt (hcs_len hpl)
      have hf2 : w2.frozen? ⟨g, 72, none⟩ = false := hb2.frozen _
      have hb3 := hb2.set_ 72 (.int .i64 ((L + k : Nat) : Int))
      rw [hcs_setLen hpl] at hb3
      have HB3 := Lib.hid hb3
      have HPT := Lib.hid hpt'
      have HPL := Lib.hid hpl
      have HO2 := Lib.hid ho2
      clear hpt' hpl ho2 hb2 hcl hb3
      by_cases hfull : r + k = 64
      · have hd : (((L : Int) + k) % 64 == 0) = true := by
          have : ((L : Int) + k) % 64 = 0 := by omega
          rw [this]; rfl
        go_wp2
        have hb3 := HB3.out
        rw [Int.natCast_add] at hb3
        have hfin := HOK.out.full (zs.take k) (by rw [HKl.out, ← HLe.out, ← HR.out]; exact hfull)
        rw [← HLe.out, ← HR.out, ← HPT.out] at hfin
        obtain ⟨nad, hnad⟩ : ∃ nad, nad = ad.plus (rounds (wds pt' 64) (first8.plus ad) 64) := ⟨_, rfl⟩
        rw [← hnad] at hfin
        obtain ⟨w3, hw3⟩ : ∃ w3, w3 = w2.setCell ⟨g, 72, none⟩ (.int .i64 ((L : Int) + k)) := ⟨_, rfl⟩
        rw [← hw3] at hb3 ⊢
        have ho3 : w.grownBy w3 (some g) := by rw [hw3]; exact only_trans HO.out (only_trans (only_drew _ _) (only_trans HO2.out (only_set _ _ _ _)))
        have hz3 : By w3 (· ≠ g) (cutA A' c' k) (m - k) (zs.drop k) := by rw [hw3]; exact (HZ.out.cut hkm hmc).onlyS (only_trans (only_drew _ _) (only_trans HO2.out (only_set _ _ _ _)))
        have hT3 : Tab w3 := HT.out.only ho3 hg0 hg1
        obtain ⟨adA, hadA⟩ : ∃ adA, adA = ad.cells.toArray := ⟨_, rfl⟩
        obtain ⟨ptA, hptA⟩ : ∃ ptA, ptA = (vs pt').toArray := ⟨_, rfl⟩
        obtain ⟨wsA, hwsA⟩ : ∃ wsA, wsA = ((wds pt' 64).map c32).toArray := ⟨_, rfl⟩
        obtain ⟨nadA, hnadA⟩ : ∃ nadA, nadA = nad.cells.toArray := ⟨_, rfl⟩
        have hl0 : ∀ W, Below w3.heap.size w3 W → (Instr.loadAt 85 (.pointer (some ⟨g, 0, none⟩))).run Tryd.prog W = .ok (.agg adA) W := fun W hW => by
          rw [hadA]
          exact run_loadAt_mid W g 0 85 ad.cells _ (Blk.range (pre := []) (hb3.through hW)) Tryd.underlying85 rfl (by kernel_rfl)
        have hl8 : ∀ W, Below w3.heap.size w3 W → (Instr.loadAt 86 (.pointer (some ⟨g, 8, none⟩))).run Tryd.prog W = .ok (.agg ptA) W := fun W hW => by
          rw [hptA]
          exact run_loadAt_mid W g 8 86 (vs pt') _ (Blk.range (pre := ad.cells) (hb3.through hW)) Tryd.underlying86 rfl (by rw [vs_length, HPL.out]; kernel_rfl)
        have hst : ∀ W, Below w3.heap.size w3 W → (Instr.storeAt 85 (.pointer (some ⟨g, 0, none⟩)) (.agg nadA)).run Tryd.prog W = .ok () (W.setCells g 0 nadA.toList) := fun W hW => by
          rw [hnadA]
          exact run_storeAt_mid W g 0 85 _ (Blk.there (hb3.through hW) 0 _ (by rw [hcs_length HPL.out]; simp [S8.cells_length])) (by kernel_rfl) one_u32
        have hsch : ∀ W, Calls Tryd.prog 49 #[.agg ptA] W fun e w' => e = .returned (.agg wsA) ∧ Below W.heap.size W w' := fun W => by
          rw [hptA, hwsA]; exact schedule_any pt' HPL.out W
        have hmix : ∀ W, Below w3.heap.size w3 W → Calls Tryd.prog 48 #[.agg adA, .agg wsA] W fun e w' => e = .returned (.agg nadA) ∧ Below W.heap.size W w' := fun W hW => by
          rw [hadA, hwsA, hnadA, hnad]; exact mix_any ad (wds pt' 64) (wds_length _ _) W (hT3.through hW)
        have hb0 : Below w3.heap.size w3 w3.drew := (Below.refl _ _).drew
        have hks : ∀ W, Below w3.heap.size w3 W → w3.grownBy W (some g) ∧ (Instr.loadAt 86 (.pointer (some ⟨g, 8, none⟩))).run Tryd.prog W = .ok (.agg ptA) W := fun W hW => ⟨only_below hW, hl8 W hW⟩
        have hblk : ∀ W, Below w3.heap.size w3 W → Blk (W.setCells g 0 nadA.toList) g 88 (hcs nad pt' (L + k)) := fun W hW => by
          rw [hnadA]; exact HS.add (hb3.through hW) nad
        have hke : ∀ W, Below w3.heap.size w3 W → w3.grownBy (W.setCells g 0 nadA.toList) (some g) ∧ (Instr.loadAt 86 (.pointer (some ⟨g, 8, none⟩))).run Tryd.prog (W.setCells g 0 nadA.toList) = .ok (.agg ptA) (W.setCells g 0 nadA.toList) := fun W hW =>
          ⟨only_trans (only_below hW) (only_cells g _ 0 W), by
            rw [hptA]
            exact run_loadAt_mid _ g 8 86 (vs pt') _ (Blk.range (pre := nad.cells) (hblk W hW)) Tryd.underlying86 rfl (by rw [vs_length, HPL.out]; kernel_rfl)⟩
        have KS := Lib.hid hks
        have KE := Lib.hid hke
        have HBE := Lib.hid hblk
        clear hks hke hblk
        have HSch := Lib.hid hsch
        have HMix := Lib.hid hmix
        have HB3' := Lib.hid hb3
        have HNad := Lib.hid hnadA
        have HFin := Lib.hid hfin
        have HO3 := Lib.hid ho3
        have HZ3 := Lib.hid hz3
        have HL0 := Lib.hid hl0
        have HL8 := Lib.hid hl8
        have HSt := Lib.hid hst
        clear hl0 hl8 hst
        clear hsch hmix hb3 hfin hnad hw3 ho3 hz3 hT3 hadA hptA hwsA hnadA hfull
        refine wp_region_held_drew (S := fun W => w3.grownBy W (some g) ∧ (Instr.loadAt 86 (.pointer (some ⟨g, 8, none⟩))).run Tryd.prog W = .ok (.agg ptA) W) (by kernel_rfl) (KS.out _ hb0) (fun hHeld => ?_)
        change wpAnyH _ _ _ _ _ _ #[false, false, false, false, false, false, false, false, false, false, false, false, false, false] _ _
        refine wpAnyH_take (i := 0) (v := (.pointer (some ⟨g, 0, none⟩))) rfl (by kernel_rfl) (by kernel_rfl) (by kernel_rfl) (fun _ _ _ h => h) (Or.inl ⟨by kernel_rfl, fun w hSw => ?_⟩) (by assumption) ?_
        · (try dsimp only at hSw); go_simp
        change wpAnyH _ _ _ _ _ _ _ (Act.put _ (some (38 : Nat)) (.pointer (some ⟨g, 0, none⟩))) _
        simp only [Act.put, List.setIfInBounds_toArray, List.set_cons_zero, List.set_cons_succ]
        refine wpAnyH_take (i := 1) (v := (.pointer (some ⟨g, 0, none⟩))) rfl (by kernel_rfl) (by kernel_rfl) (by kernel_rfl) (fun _ _ _ h => h) (Or.inl ⟨by kernel_rfl, fun w hSw => ?_⟩) (by assumption) ?_
        · (try dsimp only at hSw); go_simp
        change wpAnyH _ _ _ _ _ _ _ (Act.put _ (some (39 : Nat)) (.pointer (some ⟨g, 0, none⟩))) _
        simp only [Act.put, List.setIfInBounds_toArray, List.set_cons_zero, List.set_cons_succ]
        refine wpAnyH_take (i := 2) (v := (.pointer (some ⟨g, 0, none⟩))) rfl (by kernel_rfl) (by kernel_rfl) (by kernel_rfl) (fun _ _ _ h => h) (Or.inl ⟨by kernel_rfl, fun w hSw => ?_⟩) (by assumption) ?_
        · (try dsimp only at hSw); go_simp
        change wpAnyH _ _ _ _ _ _ _ (Act.put _ (some (40 : Nat)) (.pointer (some ⟨g, 0, none⟩))) _
        simp only [Act.put, List.setIfInBounds_toArray, List.set_cons_zero, List.set_cons_succ]
        refine wpAnyH_take (i := 3) (v := (.pointer (some ⟨g, 0, none⟩))) rfl (by kernel_rfl) (by kernel_rfl) (by kernel_rfl) (fun _ _ _ h => h) (Or.inl ⟨by kernel_rfl, fun w hSw => ?_⟩) (by assumption) ?_
        · (try dsimp only at hSw); go_simp
        change wpAnyH _ _ _ _ _ _ _ (Act.put _ (some (41 : Nat)) (.pointer (some ⟨g, 0, none⟩))) _
        simp only [Act.put, List.setIfInBounds_toArray, List.set_cons_zero, List.set_cons_succ]
        refine wpAnyH_take (i := 5) (v := (.pointer (some ⟨g, 0, none⟩))) rfl (by kernel_rfl) (by kernel_rfl) (by kernel_rfl) (fun _ _ _ h => h) (Or.inl ⟨by kernel_rfl, fun w hSw => ?_⟩) (by assumption) ?_
        · (try dsimp only at hSw); go_simp
        change wpAnyH _ _ _ _ _ _ _ (Act.put _ (some (43 : Nat)) (.pointer (some ⟨g, 0, none⟩))) _
        simp only [Act.put, List.setIfInBounds_toArray, List.set_cons_zero, List.set_cons_succ]
        refine wpAnyH_take (i := 6) (v := (.pointer (some ⟨g, 0, none⟩))) rfl (by kernel_rfl) (by kernel_rfl) (by kernel_rfl) (fun _ _ _ h => h) (Or.inl ⟨by kernel_rfl, fun w hSw => ?_⟩) (by assumption) ?_
        · (try dsimp only at hSw); go_simp
        change wpAnyH _ _ _ _ _ _ _ (Act.put _ (some (44 : Nat)) (.pointer (some ⟨g, 0, none⟩))) _
        simp only [Act.put, List.setIfInBounds_toArray, List.set_cons_zero, List.set_cons_succ]
        refine wpAnyH_take (i := 7) (v := (.pointer (some ⟨g, 8, none⟩))) rfl (by kernel_rfl) (by kernel_rfl) (by kernel_rfl) (fun _ _ _ h => h) (Or.inl ⟨by kernel_rfl, fun w hSw => ?_⟩) (by assumption) ?_
        · (try dsimp only at hSw); go_simp
        change wpAnyH _ _ _ _ _ _ _ (Act.put _ (some (45 : Nat)) (.pointer (some ⟨g, 8, none⟩))) _
        simp only [Act.put, List.setIfInBounds_toArray, List.set_cons_zero, List.set_cons_succ]
        refine wpAnyH_take (i := 8) (v := (.agg ptA)) rfl (by kernel_rfl) (by kernel_rfl) (by kernel_rfl) (fun _ _ _ h => h) (yields_load_at (by kernel_rfl) 86 (.tmp 45) rfl (.pointer (some ⟨g, 8, none⟩)) (by simp [Act.eval]) (.agg ptA) (fun W hW => hW.2)) (by assumption) ?_
        change wpAnyH _ _ _ _ _ _ _ (Act.put _ (some (46 : Nat)) (.agg ptA)) _
        simp only [Act.put, List.setIfInBounds_toArray, List.set_cons_zero, List.set_cons_succ]
        refine wpAnyH_ready (rs := [4, 9]) (by kernel_rfl) (by simp) ?_
        refine AllReadyH.cons (o := ⟨some 42, .load 85 (.tmp 41), _, _, _, none⟩) rfl (fun K hK => ?_) (AllReadyH.cons rfl (fun K hK => ?_) AllReadyH.nil)
        · refine step_load_at rfl 85 (.tmp 41) rfl (.pointer (some ⟨g, 0, none⟩)) (by simp [Act.eval]) (.agg adA) (HL0.out _ hb0) ?_
          refine hK.out _ _ (KS.out _ hb0) (fun hHeld1 => ?_)
          clear hHeld hK K
          have hHeld := hHeld1
          clear hHeld1
          change wpAnyH _ _ _ _ _ _ _ (Act.put _ (some (42 : Nat)) (.agg adA)) _
          simp only [Act.put, List.setIfInBounds_toArray, List.set_cons_zero, List.set_cons_succ]
          refine wpAnyH_ready (rs := [9]) (by kernel_rfl) (by simp) ?_
          refine AllReadyH.cons rfl (fun K hK => ?_) AllReadyH.nil
          go_simp
          refine (HSch.out _).mono ?_
          rintro e w4 ⟨rfl, hb4⟩; have HB4 := Lib.hid (below_step hb0 hb4); clear hb4
          go_wp2_with fail
          refine hK.out _ _ (KS.out _ HB4.out) (fun hHeld1 => ?_)
          clear hHeld hK K
          have hHeld := hHeld1
          clear hHeld1
          refine wpAnyH_ready (rs := [10]) (by kernel_rfl) (by simp) ?_
          refine AllReadyH.cons rfl (fun K hK => ?_) AllReadyH.nil
          go_simp
          refine (HMix.out _ HB4.out).mono ?_
          rintro e w5 ⟨rfl, hb5⟩; have HB5 := Lib.hid (below_step HB4.out hb5); clear hb5
          go_wp2_with fail
          refine hK.out _ _ (KS.out _ HB5.out) (fun hHeld1 => ?_)
          clear hHeld hK K
          have hHeld := hHeld1
          clear hHeld1
          refine wpAnyH_take (i := 11) (v := (.pointer (some ⟨g, 0, none⟩))) rfl (by kernel_rfl) (by kernel_rfl) (by kernel_rfl) (fun _ _ _ h => h) (Or.inl ⟨by kernel_rfl, fun w hSw => ?_⟩) (by assumption) ?_
          · (try dsimp only at hSw); go_simp
          change wpAnyH _ _ _ _ _ _ _ (Act.put _ (some (49 : Nat)) (.pointer (some ⟨g, 0, none⟩))) _
          simp only [Act.put, List.setIfInBounds_toArray, List.set_cons_zero, List.set_cons_succ]
          refine wpAnyH_take (i := 12) (v := (.pointer (some ⟨g, 0, none⟩))) rfl (by kernel_rfl) (by kernel_rfl) (by kernel_rfl) (fun _ _ _ h => h) (Or.inl ⟨by kernel_rfl, fun w hSw => ?_⟩) (by assumption) ?_
          · (try dsimp only at hSw); go_simp
          change wpAnyH _ _ _ _ _ _ _ (Act.put _ (some (50 : Nat)) (.pointer (some ⟨g, 0, none⟩))) _
          simp only [Act.put, List.setIfInBounds_toArray, List.set_cons_zero, List.set_cons_succ]
          refine wpAnyH_ready (rs := [13]) (by kernel_rfl) (by simp) ?_
          refine AllReadyH.cons (o := ⟨none, .store 85 (.tmp 50) (.tmp 48), _, _, _, none⟩) rfl (fun K hK => ?_) AllReadyH.nil
          refine step_store_at rfl 85 (.tmp 50) (.tmp 48) rfl (.pointer (some ⟨g, 0, none⟩)) (.agg nadA) (by simp [Act.eval]) (by simp [Act.eval]) _ (HSt.out _ HB5.out) ?_
          refine hK.out _ _ (KE.out _ HB5.out) (fun hHeld1 => ?_)
          clear hHeld hK K
          have hHeld := hHeld1
          clear hHeld1
          change wpAnyH _ _ _ _ _ _ _ (Act.put _ none undef) _
          simp only [Act.put]
          refine wpAnyH_done (by kernel_rfl) ?_ _
          go_wp2
          go_roundw
          case rel =>
            have ho5 := only_trans (only_below HB5.out) (only_cells g nadA.toList 0 _)
            refine ⟨xs' ++ zs.take k, zs.drop k, cutA A' c' k, m - k, c' - k, rfl, by rw [List.append_assoc, List.take_append_drop]; exact HCat.out, by omega, by omega, HZ3.out.onlyS ho5, ⟨nad, pt', ?_, HFin.out⟩, only_trans HO3.out ho5⟩
            have h := HBE.out _ HB5.out
            rw [List.length_append, HKl.out, ← HLe.out]
            exact h
          case measure => simp only [lenV]; omega
        · go_simp
          refine (HSch.out _).mono ?_
          rintro e w4 ⟨rfl, hb4⟩; have HB4 := Lib.hid (below_step hb0 hb4); clear hb4
          go_wp2_with fail
          refine hK.out _ _ (KS.out _ HB4.out) (fun hHeld1 => ?_)
          clear hHeld hK K
          have hHeld := hHeld1
          clear hHeld1
          refine wpAnyH_ready (rs := [4]) (by kernel_rfl) (by simp) ?_
          refine AllReadyH.cons (o := ⟨some 42, .load 85 (.tmp 41), _, _, _, none⟩) rfl (fun K hK => ?_) AllReadyH.nil
          refine step_load_at rfl 85 (.tmp 41) rfl (.pointer (some ⟨g, 0, none⟩)) (by simp [Act.eval]) (.agg adA) (HL0.out _ HB4.out) ?_
          refine hK.out _ _ (KS.out _ HB4.out) (fun hHeld1 => ?_)
          clear hHeld hK K
          have hHeld := hHeld1
          clear hHeld1
          change wpAnyH _ _ _ _ _ _ _ (Act.put _ (some (42 : Nat)) (.agg adA)) _
          simp only [Act.put, List.setIfInBounds_toArray, List.set_cons_zero, List.set_cons_succ]
          refine wpAnyH_ready (rs := [10]) (by kernel_rfl) (by simp) ?_
          refine AllReadyH.cons rfl (fun K hK => ?_) AllReadyH.nil
          go_simp
          refine (HMix.out _ HB4.out).mono ?_
          rintro e w5 ⟨rfl, hb5⟩; have HB5 := Lib.hid (below_step HB4.out hb5); clear hb5
          go_wp2_with fail
          refine hK.out _ _ (KS.out _ HB5.out) (fun hHeld1 => ?_)
          clear hHeld hK K
          have hHeld := hHeld1
          clear hHeld1
          refine wpAnyH_take (i := 11) (v := (.pointer (some ⟨g, 0, none⟩))) rfl (by kernel_rfl) (by kernel_rfl) (by kernel_rfl) (fun _ _ _ h => h) (Or.inl ⟨by kernel_rfl, fun w hSw => ?_⟩) (by assumption) ?_
          · (try dsimp only at hSw); go_simp
          change wpAnyH _ _ _ _ _ _ _ (Act.put _ (some (49 : Nat)) (.pointer (some ⟨g, 0, none⟩))) _
          simp only [Act.put, List.setIfInBounds_toArray, List.set_cons_zero, List.set_cons_succ]
          refine wpAnyH_take (i := 12) (v := (.pointer (some ⟨g, 0, none⟩))) rfl (by kernel_rfl) (by kernel_rfl) (by kernel_rfl) (fun _ _ _ h => h) (Or.inl ⟨by kernel_rfl, fun w hSw => ?_⟩) (by assumption) ?_
          · (try dsimp only at hSw); go_simp
          change wpAnyH _ _ _ _ _ _ _ (Act.put _ (some (50 : Nat)) (.pointer (some ⟨g, 0, none⟩))) _
          simp only [Act.put, List.setIfInBounds_toArray, List.set_cons_zero, List.set_cons_succ]
          refine wpAnyH_ready (rs := [13]) (by kernel_rfl) (by simp) ?_
          refine AllReadyH.cons (o := ⟨none, .store 85 (.tmp 50) (.tmp 48), _, _, _, none⟩) rfl (fun K hK => ?_) AllReadyH.nil
          refine step_store_at rfl 85 (.tmp 50) (.tmp 48) rfl (.pointer (some ⟨g, 0, none⟩)) (.agg nadA) (by simp [Act.eval]) (by simp [Act.eval]) _ (HSt.out _ HB5.out) ?_
          refine hK.out _ _ (KE.out _ HB5.out) (fun hHeld1 => ?_)
          clear hHeld hK K
          have hHeld := hHeld1
          clear hHeld1
          change wpAnyH _ _ _ _ _ _ _ (Act.put _ none undef) _
          simp only [Act.put]
          refine wpAnyH_done (by kernel_rfl) ?_ _
          go_wp2
          go_roundw
          case rel =>
            have ho5 := only_trans (only_below HB5.out) (only_cells g nadA.toList 0 _)
            refine ⟨xs' ++ zs.take k, zs.drop k, cutA A' c' k, m - k, c' - k, rfl, by rw [List.append_assoc, List.take_append_drop]; exact HCat.out, by omega, by omega, HZ3.out.onlyS ho5, ⟨nad, pt', ?_, HFin.out⟩, only_trans HO3.out ho5⟩
            have h := HBE.out _ HB5.out
            rw [List.length_append, HKl.out, ← HLe.out]
            exact h
          case measure => simp only [lenV]; omega
      · have hd : (((L : Int) + k) % 64 == 0) = false := by
          have : ((L : Int) + k) % 64 ≠ 0 := by omega
          simpa using this
        have HF := Lib.hid hfull
        clear hfull
        have hfin := HOK.out.part (zs.take k) (by have := HF.out; rw [HKl.out, ← HLe.out, ← HR.out]; omega)
        rw [← HLe.out, ← HR.out, ← HPT.out] at hfin
        have HFin := Lib.hid hfin
        clear hfin
        go_wp2
        go_roundw
        case rel =>
          have ho3 := only_trans (only_drew wr g) (only_trans HO2.out (only_set _ g 72 (.int .i64 ((L : Int) + k))))
          refine ⟨xs' ++ zs.take k, zs.drop k, cutA A' c' k, m - k, c' - k, rfl, by rw [List.append_assoc, List.take_append_drop]; exact HCat.out, by omega, by omega, (HZ.out.cut hkm hmc).onlyS ho3, ⟨ad, pt', ?_, HFin.out⟩, only_trans HO.out ho3⟩
          have h := HB3.out
          rw [Int.natCast_add] at h
          rw [List.length_append, HKl.out, ← HLe.out]
          exact h
        case measure => simp only [lenV]; omega

theorem Tryd.new_build (w : World) : (Instr.build 88 #[]).run Tryd.prog w = .ok (.agg (hcs S8.zero (List.replicate 64 0) 0).toArray) w := by kernel_rfl

set_option maxHeartbeats 400000 in
theorem new_any (w : World) :
    Calls Tryd.prog 34 #[] w fun e w' => e = .returned (.pointer (some ⟨w.heap.size, 0, none⟩)) ∧ HS w' w.heap.size [] ∧ Below w.heap.size w w' := by
  go_enter Tryd.func34, Tryd.ntmps34
  go_wp2_with (refine wpList_build_to rfl 88 [] rfl [] rfl _ (Tryd.new_build _) ?_)
  go_ret
  exact ⟨rfl, ⟨S8.zero, _, Blk.fresh rfl rfl, HOk.nil⟩, (Below.refl _ w).alloc (Nat.le_refl _) _⟩

/-- The mark and noughts, as a block of the call's own holds them. -/
def markB : List UInt8 := 128 :: List.replicate 63 0

theorem Blk.bytes {w : World} {g : Nat} {t : TypeId} {xs : List UInt8} (h : Blk w g t (vs xs)) : By w (· = g) (some ⟨g, 0, none⟩) xs.length xs :=
  ⟨rfl, fun _ => ⟨g, 0, rfl, rfl, fun j u hu => by rw [Nat.zero_add, h.cell, vs_get, hu]; rfl⟩⟩

theorem mark_ends (n : Nat) : (markB.take (1 + (119 - n % 64) % 64)) ++ beB (8 * n) 8 = ends n := by
  unfold markB ends
  rw [Nat.add_comm 1, List.take_succ_cons, List.cons_append]
  congr 2
  have h : (119 - n % 64) % 64 ≤ 63 := by omega
  rw [List.take_replicate, Nat.min_eq_left h]

set_option maxHeartbeats 1000000 in
set_option maxRecDepth 100000 in
theorem ending_any (n : Nat) (hn : n ≤ 1099511627776) (w : World) :
    Calls Tryd.prog 50 #[.int .i64 n] w (Made w (1 + (119 - n % 64) % 64 + 8) (ends n)) := by
  have he := mark_ends n
  obtain ⟨z, hz⟩ : ∃ z, z = (119 - n % 64) % 64 := ⟨_, rfl⟩
  rw [← hz] at he
  rw [← hz, ← he]
  have hzi : (119 - (n : Int) % 64) % 64 = (z : Int) := by omega
  have hz63 : z ≤ 63 := by omega
  have hw1 : (1 + (z : Int)).toNat = 1 + z := by omega
  have HN : Hid (n ≤ 1099511627776) := Lib.hid hn
  have h8 : (8 * n : Nat) = ((8 * (n : Int)).toNat) := by omega
  rw [h8]
  have hsl := fun (w' : World) => run_sliceArr_h (P := Tryd.prog) w' 86 5 64 ⟨w.heap.size, 0, none⟩ .i64 (1 + (z : Int)) Tryd.underlying86 (by kernel_rfl) (by omega) (by omega)
  rw [hw1] at hsl
  clear hz he h8
  have hB : ∀ W, Blk W w.heap.size 86 (vs markB) → By W (fun _ => True) (some ⟨w.heap.size, 0, none⟩) (1 + z) (markB.take (1 + z)) := fun W h =>
    ((Blk.bytes h).take (k := 1 + z) (by rw [show markB.length = 64 from rfl]; omega)).weak fun _ _ => trivial
  have HB := Lib.hid hB
  clear hB
  go_enter Tryd.func50, Tryd.ntmps50
  go_wp2_with (go_at_call 21; refine (put_8 (fun _ => True) (some ⟨w.heap.size, 0, none⟩) (1 + z) 64 (markB.take (1 + z)) (8 * (n : Int)) (by omega) (by have := HN.out; omega) _ (by exact HB.out _ (Blk.fresh rfl (by kernel_rfl))) (by omega) (by omega)).mono ?_; rintro e w' ⟨v, rfl, hown, hb⟩)
  have O := Lib.hid hown
  have HBe := Lib.hid (((Below.refl _ w).alloc (Nat.le_refl _) _).trans (hb.mono (by simp)))
  clear hown hb
  go_wp2
  go_ret
  exact ⟨v, rfl, own_weak O.out (by simp), HBe.out⟩

theorem S8.bytes_at (s : S8) (i j : Nat) (hi : i < 8) (hj : j < 4) : (vs s.bytes)[i * 4 + j]? = some (.int .u8 (n32 (s.list.getD i 0) / 2 ^ (8 * (3 - j)) % 256)) := by
  have hl : vs s.bytes = vs (beB s.a.toNat 4) ++ (vs (beB s.b.toNat 4) ++ (vs (beB s.c.toNat 4) ++ (vs (beB s.d.toNat 4) ++ (vs (beB s.e.toNat 4) ++ (vs (beB s.f.toNat 4) ++ (vs (beB s.g.toNat 4) ++ vs (beB s.h.toNat 4))))))) := by
    simp [S8.bytes, S8.list, vs]
  have hb : ∀ x : UInt32, vs (beB x.toNat 4) = [.int .u8 (n32 x / 16777216 % 256), .int .u8 (n32 x / 65536 % 256), .int .u8 (n32 x / 256 % 256), .int .u8 (n32 x % 256)] := fun x => by
    have h := beB_4 (n32 x) (n32_lo x) (by have := n32_hi x; omega)
    have e : (n32 x).toNat = x.toNat := by unfold n32; simp
    rw [e] at h
    exact h
  rw [hl]
  simp only [hb, List.cons_append, List.nil_append]
  match i, hi with
  | 0, _ => match j, hj with
    | 0, _ => rfl
    | 1, _ => rfl
    | 2, _ => rfl
    | 3, _ => simp [S8.list]
  | 1, _ => match j, hj with
    | 0, _ => rfl
    | 1, _ => rfl
    | 2, _ => rfl
    | 3, _ => simp [S8.list]
  | 2, _ => match j, hj with
    | 0, _ => rfl
    | 1, _ => rfl
    | 2, _ => rfl
    | 3, _ => simp [S8.list]
  | 3, _ => match j, hj with
    | 0, _ => rfl
    | 1, _ => rfl
    | 2, _ => rfl
    | 3, _ => simp [S8.list]
  | 4, _ => match j, hj with
    | 0, _ => rfl
    | 1, _ => rfl
    | 2, _ => rfl
    | 3, _ => simp [S8.list]
  | 5, _ => match j, hj with
    | 0, _ => rfl
    | 1, _ => rfl
    | 2, _ => rfl
    | 3, _ => simp [S8.list]
  | 6, _ => match j, hj with
    | 0, _ => rfl
    | 1, _ => rfl
    | 2, _ => rfl
    | 3, _ => simp [S8.list]
  | 7, _ => match j, hj with
    | 0, _ => rfl
    | 1, _ => rfl
    | 2, _ => rfl
    | 3, _ => simp [S8.list]

/-- A digest, as a value. -/
def dig (xs : List UInt8) : Value := .agg (vs xs).toArray

set_option maxHeartbeats 400000 in
theorem sum_nil (w : World) :
    Calls Tryd.prog 36 #[.pointer none] w fun e w' => e = .returned (dig zero32) ∧ Below w.heap.size w w' := by
  go_enter Tryd.func36, Tryd.ntmps36
  have hbd := fun (w : World) => (show (Instr.build 30 #[]).run Tryd.prog w = .ok (dig zero32) w by kernel_rfl)
  go_wp2_with (first
    | (refine wpList_build_to rfl 30 [] rfl [] rfl (dig zero32) (hbd _) ?_)
    | (refine wpList_store_row rfl 30 (.tmp 2) (.tmp 10) rfl w.heap.size (vs zero32).toArray rfl rfl 30 (vs zero32).toArray (Blk.fresh rfl (by kernel_rfl)) (by kernel_rfl) rfl one_u8 ?_))
  refine bodyPost_ret (v := dig zero32) (results_cell_row rfl _ _ w.heap.size 30 _ (0, 0) _ rfl ((Blk.fresh (w := w) (t := 30) (cs := vs zero32) rfl (by kernel_rfl)).row (vs zero32)) Tryd.underlying30 rfl (by kernel_rfl)) rfl ⟨rfl, below_row ((Below.refl _ w).alloc (Nat.le_refl _) _) _ (Nat.le_refl _) _⟩

theorem sum_setup {w w1 : World} {g : Nat} {Z : Array Value} {t t' : TypeId} {Y : Array Value} {ad : S8} {pt xs : List UInt8} (ho : ((w.alloc (.cells Z t)).alloc (.cells Y t')).grownBy w1 (some (w.heap.size + 1)))
    (hb : Blk w g 88 (hcs ad pt xs.length)) (hok : HOk ad pt xs) (hz : Blk (w.alloc (.cells Z t)) w.heap.size 30 (vs zero32)) :
    w1.cell? ⟨g, 72, none⟩ = some (.int .i64 (xs.length : Int)) ∧ Blk w1 w.heap.size 30 (vs zero32) ∧ Below w.heap.size w w1 ∧ w.heap.size + 2 ≤ w1.heap.size := by
  have hx : Below w.heap.size w w1 := (((Below.refl _ w).alloc (Nat.le_refl _) _).alloc (by simp) _).grown ho (by simp; omega) (by intro k hk; injection hk with hk; omega)
  refine ⟨(hb.through hx).cellAt (hcs_len hok.1), (hz.alloc _).grown ho (by simp), hx, ?_⟩
  have := ho.size
  simp at this
  omega

set_option maxHeartbeats 2000000 in
set_option maxRecDepth 100000 in
theorem sum_any (g : Nat) (xs : List UInt8) (w : World) (h : HS w g xs) (ht : Tab w) (hlen : xs.length ≤ 549755813888) :
    Calls Tryd.prog 36 #[.pointer (some ⟨g, 0, none⟩)] w fun e w' => e = .returned (dig (sha xs)) ∧ Below w.heap.size w w' := by
  obtain ⟨ad, pt, hblk, hok⟩ := h
  have hgl := hblk.lt
  have HT := Lib.hid ht
  have HB := Lib.hid hblk
  have HOK := Lib.hid hok
  have hsz := Lib.hid (hcs_length (ad := ad) (n := xs.length) hok.1)
  have hgt := ht.lt
  have hg0 := hgt.1
  have hg1 := hgt.2
  have hz := fun (w : World) => (show (zeroValue 88).run Tryd.prog w = .ok (.agg (hcs S8.zero (List.replicate 64 0) 0).toArray) w by kernel_rfl)
  have HG0 : Hid (0 < w.heap.size) := Lib.hid hg0
  have HG1 : Hid (1 < w.heap.size) := Lib.hid hg1
  clear hblk hok ht hgt hg0 hg1
  go_enter Tryd.func36, Tryd.ntmps36
  go_wp2_with (first
    | (refine wpList_load_blk rfl 88 (.tmp 12) rfl g rfl 88 (hcs ad pt xs.length) _ (HB.out.alloc _) Tryd.underlying88 rfl (by rw [hsz.out]; kernel_rfl) ?_)
    | (refine wpList_store_blk rfl 88 (.tmp 3) (.tmp 13) rfl (w.heap.size + 1) (hcs ad pt xs.length) rfl rfl 88 (hcs S8.zero (List.replicate 64 0) 0) (Blk.fresh (by simp) rfl) (by rw [hsz.out]; kernel_rfl) (by rw [hsz.out]; rfl) hcs_one ?_; intro w1 hb1 ho1; have HU := sum_setup ho1 HB.out HOK.out (Blk.fresh rfl (by kernel_rfl)); have hc72 := HU.1; have HD1 := Lib.hid HU.2.1; have HX1 := Lib.hid HU.2.2.1; have hs1 := HU.2.2.2; have HS1 : Hid (HS w1 (w.heap.size + 1) xs) := Lib.hid ⟨ad, pt, hb1, HOK.out⟩; clear ho1 hb1 HU)
    | (go_at_call 50; refine (ending_any xs.length (by omega) _).mono ?_; rintro e w2 ⟨v2, rfl, hown, hb2⟩; obtain ⟨A2, c2, rfl, hnc2, hcm2, _⟩ := own_form hown; have HO2 := Lib.hid hown; have HB2 := Lib.hid hb2; clear hown hb2 hc72)
    | (go_at_call 35; refine (add_any (w.heap.size + 1) xs (ends xs.length) A2 _ c2 _ ((By.of_own HO2.out).weak (fun k hk e => by have := hk.1; omega)) hnc2 hcm2 (HS1.out.through HB2.out) ((HT.out.through HX1.out).through HB2.out) (by have := HG0.out; omega) (by have := HG1.out; omega) (by omega)).mono ?_; rintro e w3 ⟨rfl, hs3, ho3⟩))
  obtain ⟨ad', pt', hb3, hok3⟩ := hs3
  obtain ⟨s, hs⟩ : ∃ s, s = first8.plus ad' := ⟨_, rfl⟩
  have hsum := hok3.sum
  rw [← hs] at hsum
  have hpl := hok3.1
  have hsz2 := HB2.out.size
  have hsz3 := ho3.size
  have hd3 : Blk w3 w.heap.size 30 (vs zero32) := (HD1.out.through HB2.out).grown ho3 (by simp)
  have hx3 : Below w.heap.size w w3 := (HX1.out.trans (HB2.out.mono HX1.out.size)).grown ho3 (Nat.le_trans HX1.out.size hsz2) (by intro k hk; injection hk with hk; omega)
  obtain ⟨N, hN⟩ : ∃ N, N = (xs ++ ends xs.length).length := ⟨_, rfl⟩
  rw [← hN] at hb3
  obtain ⟨gd, hgd⟩ : ∃ gd, gd = w3.heap.size := ⟨_, rfl⟩
  have hgd2 : w.heap.size + 2 ≤ gd := by omega
  obtain ⟨wo, hwo⟩ : ∃ wo, wo = w3.alloc (.cells (vs zero32).toArray 30) := ⟨_, rfl⟩
  have hbo : Blk wo gd 30 (vs zero32) := by rw [hwo, hgd]; exact Blk.fresh rfl rfl
  have hb1o : Blk wo (w.heap.size + 1) 88 (hcs ad' pt' N) := by rw [hwo]; exact hb3.alloc _
  have hb0o : Blk wo w.heap.size 30 (vs zero32) := by rw [hwo]; exact hd3.alloc _
  have hxo : Below w.heap.size w wo := by rw [hwo]; exact hx3.alloc hx3.size _
  have hgoal : wo = w3.alloc (.cells (vs zero32).toArray 30) := hwo
  have hbz : (vs s.bytes).length = 32 := by rw [vs_length, S8.bytes_length]
  have HSum := Lib.hid hsum
  have HS := Lib.hid hs
  have HPl := Lib.hid hpl
  have HBo := Lib.hid hbo
  have HB1o := Lib.hid hb1o
  have HB0o := Lib.hid hb0o
  have HXo := Lib.hid hxo
  have HBz := Lib.hid hbz
  have HGd := Lib.hid hgd
  clear hwo hb3 hok3 hs hsum hpl hsz2 hsz3 hd3 hx3 hN hbo hb1o hb0o hxo hbz
  change Code.wp _ _ _ _ (w3.alloc (.cells (vs zero32).toArray 30))
  rw [← hgd, ← hgoal]
  clear hgd hgoal
  go_loopw [20] (fun iv wr => ∃ i : Nat, i ≤ 8 ∧ iv = .int .i64 i ∧ Blk wr gd 30 (swp (vs s.bytes) (vs zero32) (i * 4)) ∧ Blk wr (w.heap.size + 1) 88 (hcs ad' pt' N) ∧ Blk wr w.heap.size 30 (vs zero32) ∧ Below w.heap.size w wr) (fun iv _ => 8 - (intOf iv).toNat)
  case atStart => exact ⟨0, by omega, rfl, by rw [Nat.zero_mul, swp_0]; exact HBo.out, HB1o.out, HB0o.out, HXo.out⟩
  case round =>
    obtain ⟨i, hi, rfl, hd, h1, h0, hx⟩ := hrel
    by_cases hlt : i < 8
    · have hT := (HT.out.through hx).1 i hlt
      have hc1 : wr.cell? ⟨w.heap.size + 1, i, none⟩ = some (.int .u32 (n32 (ad'.list.getD i 0))) := h1.cellAt (hcs_word i hlt)
      have hxx : first8.list.getD i 0 + ad'.list.getD i 0 = s.list.getD i 0 := by rw [HS.out, S8.plus_at _ _ i hlt]
      have hat := fun j hj => s.bytes_at i j hlt hj
      generalize s.list.getD i 0 = x at hxx hat
      generalize first8.list.getD i 0 = x1 at hT hxx
      generalize ad'.list.getD i 0 = x2 at hc1 hxx
      have hadd := w32_add
      have HAt := Lib.hid hat
      have Hd := Lib.hid hd
      have H1 := Lib.hid h1
      have H0 := Lib.hid h0
      have HX := Lib.hid hx
      clear hd h1 h0 hx hat
      go_wp2
      go_quiet (fail)
      go_wp2
      rw [w32_add, hxx]
      obtain ⟨wi, hwi⟩ : ∃ wi, wi = wr.drewN nq := ⟨_, rfl⟩
      have Hd' : Blk wi gd 30 (swp (vs s.bytes) (vs zero32) (i * 4)) := by rw [hwi]; exact Hd.out
      have H1' : Blk wi (w.heap.size + 1) 88 (hcs ad' pt' N) := by rw [hwi]; exact H1.out
      have H0' : Blk wi w.heap.size 30 (vs zero32) := by rw [hwi]; exact H0.out
      have HX' : Below w.heap.size w wi := by rw [hwi]; exact below_drewN HX.out _
      rw [← hwi]
      clear hwi Hd H1 H0 HX hT hc1 hxx hadd
      go_loopw [31] (fun jv wr => ∃ j : Nat, j ≤ 4 ∧ jv = .int .i64 j ∧ Blk wr gd 30 (swp (vs s.bytes) (vs zero32) (i * 4 + j)) ∧ Blk wr (w.heap.size + 1) 88 (hcs ad' pt' N) ∧ Blk wr w.heap.size 30 (vs zero32) ∧ Below w.heap.size w wr) (fun jv _ => 4 - (intOf jv).toNat)
      case atStart => exact ⟨0, by omega, rfl, Hd', H1', H0', HX'⟩
      case round =>
        obtain ⟨j, hj, rfl, hd, h1, h0, hx⟩ := hrel
        clear Hd' H1' H0' HX'
        by_cases hltj : j < 4
        · have hlen : i * 4 + j < (vs s.bytes).length := by rw [HBz.out]; omega
          have hl2 : i * 4 + j < (vs zero32).length := by rw [vs_length, show zero32.length = 32 from rfl]; omega
          have hcz : (swp (vs s.bytes) (vs zero32) (i * 4 + j))[i * 4 + j]? = some (vs zero32)[i * 4 + j] := by rw [swp_at _ _ _ hlen, List.getElem?_eq_getElem hl2]
          have hcd : wr.cell? ⟨gd, i * 4 + j, none⟩ = some (vs zero32)[i * 4 + j] := hd.cellAt hcz
          have hfd : wr.frozen? ⟨gd, i * 4 + j, none⟩ = false := hd.frozen _
          generalize (vs zero32)[i * 4 + j] = z at hcd
          have hset := swp_set (vs s.bytes) (vs zero32) (i * 4 + j) _ (HAt.out j hltj) hl2
          have hsh : ((8 : Int) * (3 - (j : Int))).toNat = 8 * (3 - j) := by omega
          have HSet := Lib.hid hset
          have Hd := Lib.hid hd
          have H1 := Lib.hid h1
          have H0 := Lib.hid h0
          have HX := Lib.hid hx
          clear hd h1 h0 hx hset hcz hlen hl2
          go_wp2
          go_roundw
          case rel =>
            have h := Hd.out.set_ (i * 4 + j) (.int .u8 (n32 x / 2 ^ (8 * (3 - j)) % 256))
            rw [HSet.out] at h
            exact ⟨j + 1, by omega, by go_num, h, H1.out.far (by simp; omega) _, H0.out.far (by simp; omega) _, HX.out.setCell (by simp; omega) _⟩
          case measure => simp [intOf]; omega
        · have e4 : j = 4 := by omega
          have e5 : i * 4 + j = (i + 1) * 4 := by omega
          rw [e5] at hd
          have Hd := Lib.hid hd
          have H1 := Lib.hid h1
          have H0 := Lib.hid h0
          have HX := Lib.hid hx
          clear hd h1 h0 hx e4 e5
          go_wp2
          go_roundw
          case rel => exact ⟨i + 1, by omega, by go_num, Hd.out, H1.out, H0.out, HX.out⟩
          case measure => simp [intOf]; omega
    · have e8 : i = 8 := by omega
      rw [e8, swp_all _ _ (8 * 4) HBz.out rfl] at hd
      obtain ⟨r, hr⟩ : ∃ r, r = vs s.bytes := ⟨_, rfl⟩
      have hrl : r.length = 32 := by rw [hr]; exact HBz.out
      have hone : r.toArray.all (·.oneCell') = true := by rw [hr]; exact one_u8
      have hfin : (.agg r.toArray : Value) = dig (sha xs) := by rw [hr, HSum.out]; rfl
      rw [← hr] at hd
      have HRl := Lib.hid hrl
      have HO := Lib.hid hone
      have HF := Lib.hid hfin
      have Hd := Lib.hid hd
      have H0 := Lib.hid h0
      have HX := Lib.hid hx
      clear hd h1 h0 hx e8 hr hrl hone hfin
      go_wp2_with (first
        | (refine wpList_load_blk rfl 30 (.tmp 4) rfl gd rfl 30 r _ Hd.out Tryd.underlying30 rfl (by rw [HRl.out]; kernel_rfl) ?_)
        | (refine wpList_store_row rfl 30 (.tmp 2) (.tmp 47) rfl w.heap.size r.toArray rfl rfl 30 (vs zero32).toArray H0.out (by rw [List.size_toArray, HRl.out]; kernel_rfl) (by rw [List.size_toArray, List.size_toArray, HRl.out]; rfl) HO.out ?_))
      refine bodyPost_ret (v := .agg r.toArray) (results_cell_row rfl _ _ w.heap.size 30 _ (0, 0) _ rfl (H0.out.row _) Tryd.underlying30 rfl ?r1) rfl ⟨by rw [HF.out], below_row HX.out _ (Nat.le_refl _) _⟩
      rw [List.size_toArray, HRl.out]; kernel_rfl

set_option maxHeartbeats 1000000 in
theorem sumb_any (Q : Nat → Prop) (xs : List UInt8) (A : Option Addr) (n c : Nat) (w : World) (hby : By w Q A n xs) (hnc : n ≤ c) (hcm : c ≤ maxLen) (ht : Tab w) (hlen : n ≤ 549755813888) :
    Calls Tryd.prog 20 #[.slice A n c] w fun e w' => e = .returned (dig (sha xs)) ∧ Below w.heap.size w w' := by
  have hl := hby.len
  have HL := Lib.hid hl
  have HBy : Hid (By w (· ≠ w.heap.size + 1) A n xs) := Lib.hid (hby.lt.weak (fun k hk e => by have := hk.2; omega))
  have HT := Lib.hid ht
  have HG0 := Lib.hid ht.lt.1
  have HG1 := Lib.hid ht.lt.2
  have hsl := sha_length xs
  obtain ⟨r, hr⟩ : ∃ r, r = vs (sha xs) := ⟨_, rfl⟩
  have hrl : r.length = 32 := by rw [hr, vs_length, hsl]
  have hone : r.toArray.all (·.oneCell') = true := by rw [hr]; exact one_u8
  have hfin : dig (sha xs) = .agg r.toArray := by rw [hr]; rfl
  have hsum : ∀ W, HS W (w.heap.size + 1) xs → Tab W → Calls Tryd.prog 36 #[.pointer (some ⟨w.heap.size + 1, 0, none⟩)] W fun e w' => e = .returned (.agg r.toArray) ∧ Below W.heap.size W w' := fun W h1 h2 => by
    rw [← hfin]; exact sum_any (w.heap.size + 1) xs W h1 h2 (by rw [hl]; exact hlen)
  rw [hfin]
  have HSum := Lib.hid hsum
  have HRl := Lib.hid hrl
  have HO := Lib.hid hone
  clear hl hby ht hsl hr hrl hone hfin hsum
  go_enter Tryd.func20, Tryd.ntmps20
  go_wp2_with (first
    | (go_at_call 34; refine (new_any _).mono ?_; rintro e w1 ⟨rfl, hs1, hb1⟩; have hz1 : Blk w1 w.heap.size 30 (vs zero32) := (Blk.fresh rfl (by kernel_rfl)).through hb1; have hx1 : Below w.heap.size w w1 := ((Below.refl _ w).alloc (Nat.le_refl _) _).trans (hb1.mono (by simp)); have HS1 : Hid (HS w1 (w.heap.size + 1) []) := Lib.hid (by simpa using hs1); have HZ1 := Lib.hid hz1; have HX1 := Lib.hid hx1; clear hs1 hb1 hz1 hx1)
    | (go_at_call 35; refine (add_any (w.heap.size + 1) [] xs A n c _ (HBy.out.through HX1.out) hnc hcm HS1.out (HT.out.through HX1.out) (Nat.lt_succ_of_lt HG0.out) (Nat.lt_succ_of_lt HG1.out) (by simp; omega)).mono ?_; rintro e w2 ⟨rfl, hs2, ho2⟩; have HS2 := Lib.hid hs2; have HO2 := Lib.hid ho2; clear hs2 ho2)
    | (go_at_call 36; refine (HSum.out _ HS2.out ((HT.out.through HX1.out).only HO2.out (Nat.lt_succ_of_lt HG0.out) (Nat.lt_succ_of_lt HG1.out))).mono ?_; rintro e w3 ⟨rfl, hb3⟩; have HX3 := Lib.hid ((HX1.out.grown HO2.out HX1.out.size (fun k hk => by injection hk with hk; omega)).trans (hb3.mono (Nat.le_trans HX1.out.size HO2.out.size))); have HZ3 := Lib.hid ((HZ1.out.grown HO2.out (by simp)).through hb3); clear hb3)
    | (refine wpList_store_row rfl 30 (.tmp 2) (.tmp 9) rfl w.heap.size r.toArray rfl rfl 30 (vs zero32).toArray HZ3.out (by rw [List.size_toArray, HRl.out]; kernel_rfl) (by rw [List.size_toArray, List.size_toArray, HRl.out]; rfl) HO.out ?_))
  refine bodyPost_ret (v := .agg r.toArray) (results_cell_row rfl _ _ w.heap.size 30 _ (0, 0) _ rfl (HZ3.out.row _) Tryd.underlying30 rfl ?r1) rfl ⟨rfl, below_row HX3.out _ (Nat.le_refl _) _⟩
  rw [List.size_toArray, HRl.out]; kernel_rfl

def abc : List UInt8 := [97, 98, 99]

theorem abc_at (j : Nat) (v : UInt8) (h : (sha abc)[j]? = some v) : (vs (sha abc))[j]? = some (.int .u8 (v.toNat : Int)) := by
  rw [vs_get, h]; rfl

theorem abc_4 : (sha abc)[0]? = some 186 ∧ (sha abc)[1]? = some 120 ∧ (sha abc)[2]? = some 22 ∧ (sha abc)[3]? = some 191 := by
  have h := sha_abc
  have e : ∀ j, j < 4 → (sha abc)[j]? = ((sha abc).take 4)[j]? := fun j hj => by rw [List.getElem?_take, if_pos hj]
  refine ⟨?_, ?_, ?_, ?_⟩ <;> (rw [e _ (by omega)]; show ((sha [97, 98, 99]).take 4)[_]? = _; rw [h]; rfl)

end Go.Proofs.YtgbobemhogeeeaaDoor
