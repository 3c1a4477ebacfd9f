/-
  SHA-256 AS PLAIN FUNCTIONS: words of 32 bits, a round, the words of a block, a block, the ending. No walk here.
-/
import Derived.Test.YtolildehdibpbaaDoorMem
import Derived.Laws.BitsAllLaws
namespace Go.Proofs.YtolildehdibpbaaDoor
open Go.RowKit

/-- A word, as an integer; as a cell holds it. -/
def n32 (x : UInt32) : Int := (x.toNat : Int)
def c32 (x : UInt32) : Value := .int .u32 (n32 x)
theorem n32_lo (x : UInt32) : 0 ≤ n32 x := by unfold n32; omega
theorem n32_hi (x : UInt32) : n32 x < 4294967296 := by have := x.toNat_lt; unfold n32; omega
theorem n32_inj {x y : UInt32} : n32 x = n32 y ↔ x = y := by
  unfold n32
  constructor
  · intro h
    exact UInt32.toNat_inj.1 (by omega)
  · rintro rfl
    rfl
theorem n32_beq (x y : UInt32) : (n32 x == n32 y) = (x == y) := by
  rw [Bool.eq_iff_iff]
  simp [n32_inj]
theorem n32_ofNat (k : Nat) (h : k < 4294967296) : n32 (UInt32.ofNat k) = k := by
  unfold n32
  rw [UInt32.toNat_ofNat_of_lt' (by simpa [UInt32.size] using h)]

/-- turned to the right -/
def rotr (x : UInt32) (k : Nat) : UInt32 := UInt32.ofNat (x.toNat / 2 ^ k + x.toNat % 2 ^ k * 2 ^ (32 - k))
/-- shifted to the right -/
def shr (x : UInt32) (k : Nat) : UInt32 := UInt32.ofNat (x.toNat / 2 ^ k)

theorem two32 {k : Nat} (hk : k ≤ 32) : 2 ^ k * 2 ^ (32 - k) = 4294967296 := by
  rw [← Nat.pow_add, Nat.add_sub_cancel' hk]
theorem rotr_lt (x : Nat) (hx : x < 4294967296) (k : Nat) (hk : k ≤ 32) : x / 2 ^ k + x % 2 ^ k * 2 ^ (32 - k) < 4294967296 := by
  have h2 := two32 hk
  have h1 : x / 2 ^ k < 2 ^ (32 - k) := Nat.div_lt_of_lt_mul (by rw [h2]; exact hx)
  have h3 : x % 2 ^ k < 2 ^ k := Nat.mod_lt _ (Nat.two_pow_pos k)
  have h4 : (x % 2 ^ k + 1) * 2 ^ (32 - k) ≤ 2 ^ k * 2 ^ (32 - k) := Nat.mul_le_mul_right _ h3
  rw [Nat.add_mul, Nat.one_mul] at h4
  omega
theorem rotr_nat (x : UInt32) (k : Nat) (hk : k ≤ 32) : (rotr x k).toNat = x.toNat / 2 ^ k + x.toNat % 2 ^ k * 2 ^ (32 - k) := by
  unfold rotr
  exact UInt32.toNat_ofNat_of_lt' (by simpa [UInt32.size] using rotr_lt x.toNat x.toNat_lt k hk)
theorem rotr_0 (x : UInt32) : rotr x 0 = x := by
  apply UInt32.toNat_inj.1
  rw [rotr_nat x 0 (by omega)]
  simp [Nat.mod_one]
theorem rotr_1 (x : UInt32) : (rotr x 1).toNat = x.toNat / 2 + x.toNat % 2 * 2147483648 := rotr_nat x 1 (by omega)
/-- by one more -/
theorem rotr_succ (x : UInt32) (k : Nat) (hk : k < 32) : rotr (rotr x k) 1 = rotr x (k + 1) := by
  apply UInt32.toNat_inj.1
  rw [rotr_1, rotr_nat x k (by omega), rotr_nat x (k + 1) (by omega)]
  generalize x.toNat = n
  have e1 : 32 - k = (31 - k) + 1 := by omega
  have e2 : 32 - (k + 1) = 31 - k := by omega
  have hp := Nat.two_pow_pos k
  have h31 : 2 ^ k * 2 ^ (31 - k) = 2147483648 := by
    rw [← Nat.pow_add, Nat.add_sub_cancel' (by omega)]
  rw [e1, e2, Nat.pow_succ, Nat.pow_succ]
  rw [← Nat.div_div_eq_div_mul, Nat.mod_mul]
  generalize hP : 2 ^ k = P at *
  generalize hR : 2 ^ (31 - k) = R at *
  generalize n / P = a
  generalize n % P = s
  have e3 : s * (R * 2) = 2 * (s * R) := by rw [← Nat.mul_assoc, Nat.mul_comm]
  have e4 : (s + P * (a % 2)) * R = s * R + a % 2 * 2147483648 := by
    rw [Nat.add_mul, ← h31]
    congr 1
    rw [Nat.mul_comm P, Nat.mul_assoc]
  rw [e3, e4]
  omega
theorem rotr_32 (x : UInt32) : rotr x 32 = x := by
  apply UInt32.toNat_inj.1
  rw [rotr_nat x 32 (by omega)]
  have := x.toNat_lt
  simp
  omega
/-- by so many more -/
theorem rotr_add (x : UInt32) (j k : Nat) (hk : j + k ≤ 32) : rotr (rotr x j) k = rotr x (j + k) := by
  induction k with
  | zero => rw [rotr_0]; rfl
  | succ k ih => rw [← rotr_succ _ k (by omega), ih (by omega), rotr_succ _ _ (by omega)]; rfl
/-- and back -/
theorem rotr_back (x : UInt32) (j k : Nat) (hj : j ≤ 32) (hk : k ≤ 32) (h : (j + k) % 32 = 0) : rotr (rotr x j) k = x := by
  rcases (by omega : j + k = 0 ∨ j + k = 32 ∨ j + k = 64) with e | e | e
  · obtain rfl : j = 0 := by omega
    obtain rfl : k = 0 := by omega
    rw [rotr_0, rotr_0]
  · rw [rotr_add _ _ _ (by omega), e, rotr_32]
  · obtain rfl : j = 32 := by omega
    obtain rfl : k = 32 := by omega
    rw [rotr_32, rotr_32]

/- WHAT THE WALK READS, as words. -/
theorem w32_add (x y : UInt32) : (n32 x + n32 y) % 4294967296 = n32 (x + y) := by
  unfold n32
  rw [UInt32.toNat_add]
  omega
theorem w32_and (x y : UInt32) : bits .and .u32 (n32 x) (n32 y) = n32 (x &&& y) := by
  unfold n32
  rw [u32_and_nat _ _ x.toNat_lt y.toNat_lt, UInt32.toNat_and]
theorem w32_or (x y : UInt32) : bits .or .u32 (n32 x) (n32 y) = n32 (x ||| y) := by
  unfold n32
  rw [u32_or_nat _ _ x.toNat_lt y.toNat_lt, UInt32.toNat_or]
theorem w32_xor (x y : UInt32) : bits .xor .u32 (n32 x) (n32 y) = n32 (x ^^^ y) := by
  unfold n32
  rw [u32_xor_nat _ _ x.toNat_lt y.toNat_lt, UInt32.toNat_xor]
theorem w32_not (x : UInt32) : bits .xor .u32 4294967295 (n32 x) = n32 (~~~x) := by
  have h : (4294967295 : Int) = n32 4294967295 := rfl
  rw [h, w32_xor]
  congr 1
theorem w32_not' (x : UInt32) : bits .xor .u32 IntKind.u32.max (n32 x) = n32 (~~~x) := w32_not x
theorem w32_shr (x : UInt32) (k : Nat) : n32 x / 2 ^ k = n32 (shr x k) := by
  unfold n32 shr
  rw [UInt32.toNat_ofNat_of_lt' (by
    have h1 := x.toNat_lt
    have h2 := Nat.div_le_self x.toNat (2 ^ k)
    simp only [UInt32.size]
    omega)]
  simp
theorem w32_shr3 (x : UInt32) : n32 x / 8 = n32 (shr x 3) := w32_shr x 3
theorem w32_shr10 (x : UInt32) : n32 x / 1024 = n32 (shr x 10) := w32_shr x 10
/-- What the program's Turn reckons. -/
theorem w32_turn (x : UInt32) (k : Nat) (hk : k < 32) : bits .or .u32 (n32 x / 2 ^ k) (n32 x * 2 ^ (32 - k) % 4294967296) = n32 (rotr x k) := by
  have hx := x.toNat_lt
  have h2 := two32 (k := k) (by omega)
  have e1 : n32 x / 2 ^ k = ((x.toNat / 2 ^ k : Nat) : Int) := by unfold n32; simp
  have e2 : n32 x * 2 ^ (32 - k) % 4294967296 = ((x.toNat % 2 ^ k * 2 ^ (32 - k) : Nat) : Int) := by
    rw [← Nat.mul_mod_mul_right, h2]
    unfold n32
    simp
  have h1 : x.toNat / 2 ^ k < 2 ^ (32 - k) := Nat.div_lt_of_lt_mul (by rw [h2]; exact hx)
  have h3 := rotr_lt x.toNat hx k (by omega)
  rw [e1, e2, u32_or_nat _ _ (Nat.lt_of_le_of_lt (Nat.div_le_self _ _) hx) (Nat.lt_of_le_of_lt (Nat.le_add_left _ _) h3), Nat.or_comm, nat_join (32 - k) _ _ (by simp) h1]
  unfold n32
  rw [rotr_nat x k (by omega), Nat.add_comm]
/-- What one round of the document's Turn reckons. -/
theorem w32_turn1 (x : UInt32) : n32 x / 2 + n32 x % 2 * 2147483648 = n32 (rotr x 1) := by
  unfold n32
  rw [rotr_1]
  omega

/- THE FUNCTIONS OF A ROUND. -/
def choose (e f g : UInt32) : UInt32 := (e &&& f) ||| (~~~e &&& g)
def most (a b c : UInt32) : UInt32 := (a &&& b) ||| (a &&& c) ||| (b &&& c)
theorem choose_xor (e f g : UInt32) : (e &&& f) ^^^ (~~~e &&& g) = choose e f g := by
  unfold choose
  apply UInt32.toBitVec_inj.1
  simp only [UInt32.toBitVec_and, UInt32.toBitVec_or, UInt32.toBitVec_xor, UInt32.toBitVec_not]
  ext i hi
  simp only [BitVec.getElem_and, BitVec.getElem_or, BitVec.getElem_xor, BitVec.getElem_not]
  cases e.toBitVec[i] <;> cases f.toBitVec[i] <;> cases g.toBitVec[i] <;> rfl
theorem most_xor (a b c : UInt32) : (a &&& b) ^^^ (a &&& c) ^^^ (b &&& c) = most a b c := by
  unfold most
  apply UInt32.toBitVec_inj.1
  simp only [UInt32.toBitVec_and, UInt32.toBitVec_or, UInt32.toBitVec_xor]
  ext i hi
  simp only [BitVec.getElem_and, BitVec.getElem_or, BitVec.getElem_xor]
  cases a.toBitVec[i] <;> cases b.toBitVec[i] <;> cases c.toBitVec[i] <;> rfl
def three (x : UInt32) (i j k : Nat) : UInt32 := rotr x i ^^^ rotr x j ^^^ rotr x k
def sg0 (x : UInt32) : UInt32 := rotr x 7 ^^^ rotr x 18 ^^^ shr x 3
def sg1 (x : UInt32) : UInt32 := rotr x 17 ^^^ rotr x 19 ^^^ shr x 10

/-- The eight words. -/
structure S8 where
  a : UInt32
  b : UInt32
  c : UInt32
  d : UInt32
  e : UInt32
  f : UInt32
  g : UInt32
  h : UInt32
def S8.list (s : S8) : List UInt32 := [s.a, s.b, s.c, s.d, s.e, s.f, s.g, s.h]
def S8.plus (s t : S8) : S8 := ⟨s.a + t.a, s.b + t.b, s.c + t.c, s.d + t.d, s.e + t.e, s.f + t.f, s.g + t.g, s.h + t.h⟩
def S8.zero : S8 := ⟨0, 0, 0, 0, 0, 0, 0, 0⟩
theorem S8.plus_assoc (s t u : S8) : (s.plus t).plus u = s.plus (t.plus u) := by
  simp only [S8.plus, UInt32.add_assoc]
theorem S8.plus_zero (s : S8) : s.plus S8.zero = s := by
  cases s
  simp [S8.plus, S8.zero]

def hTab : List UInt32 := [1779033703, 3144134277, 1013904242, 2773480762, 1359893119, 2600822924, 528734635, 1541459225]
def kTab : List UInt32 := [1116352408, 1899447441, 3049323471, 3921009573, 961987163, 1508970993, 2453635748, 2870763221, 3624381080, 310598401, 607225278, 1426881987, 1925078388, 2162078206, 2614888103, 3248222580, 3835390401, 4022224774, 264347078, 604807628, 770255983, 1249150122, 1555081692, 1996064986, 2554220882, 2821834349, 2952996808, 3210313671, 3336571891, 3584528711, 113926993, 338241895, 666307205, 773529912, 1294757372, 1396182291, 1695183700, 1986661051, 2177026350, 2456956037, 2730485921, 2820302411, 3259730800, 3345764771, 3516065817, 3600352804, 4094571909, 275423344, 430227734, 506948616, 659060556, 883997877, 958139571, 1322822218, 1537002063, 1747873779, 1955562222, 2024104815, 2227730452, 2361852424, 2428436474, 2756734187, 3204031479, 3329325298]
def first8 : S8 := ⟨1779033703, 3144134277, 1013904242, 2773480762, 1359893119, 2600822924, 528734635, 1541459225⟩

def tt1 (k w : UInt32) (s : S8) : UInt32 := s.h + three s.e 6 11 25 + choose s.e s.f s.g + k + w
def tt2 (s : S8) : UInt32 := three s.a 2 13 22 + most s.a s.b s.c
/-- a round -/
def rnd (k w : UInt32) (s : S8) : S8 := ⟨tt1 k w s + tt2 s, s.a, s.b, s.c, s.d + tt1 k w s, s.e, s.f, s.g⟩
theorem rnd_a (k w : UInt32) (s : S8) : (rnd k w s).a = s.h + (rotr s.e 6 ^^^ rotr s.e 11 ^^^ rotr s.e 25) + choose s.e s.f s.g + k + w + ((rotr s.a 2 ^^^ rotr s.a 13 ^^^ rotr s.a 22) + most s.a s.b s.c) := rfl
theorem rnd_e (k w : UInt32) (s : S8) : (rnd k w s).e = s.d + (s.h + (rotr s.e 6 ^^^ rotr s.e 11 ^^^ rotr s.e 25) + choose s.e s.f s.g + k + w) := rfl
/-- so many rounds -/
def rounds (ws : List UInt32) (s : S8) : Nat → S8
  | 0 => s
  | k + 1 => rnd (kTab.getD k 0) (ws.getD k 0) (rounds ws s k)

/-- The bytes of a number read, the highest first. -/
def beW (l : List UInt8) : UInt32 := l.foldl (fun acc x => (acc <<< 8) ||| x.toUInt32) 0
/-- the j-th word of a block -/
def wordAt (b : List UInt8) (j : Nat) : UInt32 := beW ((b.drop (4 * j)).take 4)
def nextW (l : List UInt32) (b : List UInt8) (i : Nat) : UInt32 :=
  if i < 16 then wordAt b i else l.getD (i - 16) 0 + sg0 (l.getD (i - 15) 0) + l.getD (i - 7) 0 + sg1 (l.getD (i - 2) 0)
/-- the first n words of a block -/
def wds (b : List UInt8) : Nat → List UInt32
  | 0 => []
  | n + 1 => wds b n ++ [nextW (wds b n) b n]
/-- what the rounds of a block make of eight words; the eight words behind a block -/
def mixed (s : S8) (b : List UInt8) : S8 := rounds (wds b 64) s 64
def press (s : S8) (b : List UInt8) : S8 := s.plus (mixed s b)
/-- the eight words behind n blocks -/
def after (xs : List UInt8) : Nat → S8
  | 0 => first8
  | n + 1 => press (after xs n) ((xs.drop (64 * n)).take 64)

/-- what stands behind so many bytes -/
def ends (n : Nat) : List UInt8 := 128 :: (List.replicate ((119 - n % 64) % 64) 0 ++ beB (8 * n) 8)
/-- the eight words, as bytes -/
def S8.bytes (s : S8) : List UInt8 := (s.list.map fun x => beB x.toNat 4).flatten
/-- THE SUM. -/
def sha (xs : List UInt8) : List UInt8 := (after (xs ++ ends xs.length) ((xs ++ ends xs.length).length / 64)).bytes

theorem wds_length (b : List UInt8) (n : Nat) : (wds b n).length = n := by
  induction n with
  | zero => rfl
  | succ n ih => simp [wds, ih]
theorem wds_pre (b : List UInt8) (m n : Nat) (h : n ≤ m) : (wds b m).take n = wds b n := by
  induction m with
  | zero =>
    obtain rfl : n = 0 := by omega
    rfl
  | succ m ih =>
    by_cases e : n = m + 1
    · subst e
      rw [List.take_of_length_le (by rw [wds_length]; exact Nat.le_refl _)]
    · rw [wds, List.take_append_of_le_length (by rw [wds_length]; omega)]
      exact ih (by omega)
theorem wds_get (b : List UInt8) (m n j : Nat) (h : n ≤ m) (hj : j < n) : (wds b n).getD j 0 = (wds b m).getD j 0 := by
  rw [← wds_pre b m n h]
  simp [List.getD, hj]
theorem wds_at (b : List UInt8) (m n : Nat) (h : n < m) : (wds b m).getD n 0 = nextW (wds b n) b n := by
  rw [← wds_get b m (n + 1) n h (by omega), wds]
  have e := wds_length b n
  simp [List.getD, e]
theorem after_app (xs ys : List UInt8) (n : Nat) (h : 64 * n ≤ xs.length) : after (xs ++ ys) n = after xs n := by
  induction n with
  | zero => rfl
  | succ n ih =>
    rw [after, after, ih (by omega)]
    congr 1
    rw [List.drop_append_of_le_length (by omega), List.take_append_of_le_length (by rw [List.length_drop]; omega)]
theorem ends_length (n : Nat) : (ends n).length = 1 + (119 - n % 64) % 64 + 8 := by
  simp [ends, beB_length]
  omega
theorem ends_whole (n : Nat) : (n + (ends n).length) % 64 = 0 := by
  rw [ends_length]
  omega
theorem S8.bytes_length (s : S8) : s.bytes.length = 32 := by
  simp [S8.bytes, S8.list, beB_length]
theorem sha_length (xs : List UInt8) : (sha xs).length = 32 := S8.bytes_length _

theorem sha_abc : (sha [97, 98, 99]).take 4 = [186, 120, 22, 191] := by decide +kernel

end Go.Proofs.YtolildehdibpbaaDoor
