package sums_test

import (
	"bytes"
	"crypto/sha256"
	"encoding/hex"
	"math"
	"math/big"
	"math/bits"
	"strings"
	"testing"

	"bottomry/api"
	"bottomry/sums"
)

// P2.1: words are turned.

func TestTurn(t *testing.T) {
	for _, c := range []struct {
		x    uint32
		n    int
		want uint32
	}{
		{1, 0, 1},
		{1, 1, 1 << 31},
		{1, 31, 2},
		{1, 32, 1},
		{1, 33, 1 << 31},
		{1, 64, 1},
		{1, -1, 2},
		{1 << 31, -1, 1},
		{1, -31, 1 << 31},
		{1, -32, 1},
		{1, -33, 2},
		{0x12345678, 4, 0x81234567},
		{0x12345678, 8, 0x78123456},
		{0x12345678, -8, 0x34567812},
		{0x12345678, 16, 0x56781234},
		{0, 7, 0},
		{math.MaxUint32, 7, math.MaxUint32},
		{0x12345678, math.MinInt, 0x12345678},
		{0x12345678, math.MinInt + 4, 0x81234567},
		{0x12345678, math.MaxInt, 0x2468acf0},
	} {
		if got := sums.Turn(c.x, c.n); got != c.want {
			t.Errorf("Turn(%#x, %d) = %#x, want %#x", c.x, c.n, got, c.want)
		}
	}
}

func TestTurnByEachNumber(t *testing.T) {
	for n := -100; n <= 100; n++ {
		for _, x := range []uint32{1, 0x80000001, 0xdeadbeef} {
			if got, want := sums.Turn(x, n), bits.RotateLeft32(x, -n); got != want {
				t.Errorf("Turn(%#x, %d) = %#x, want %#x", x, n, got, want)
			}
		}
	}
}

// P2.1: the sum.

func TestSumOfKnownTexts(t *testing.T) {
	for _, c := range []struct{ text, want string }{
		{"", "e3b0c44298fc1c149afbf4c8996fb92427ae41e4649b934ca495991b7852b855"},
		{"abc", "ba7816bf8f01cfea414140de5dae2223b00361a396177a9cb410ff61f20015ad"},
		{"abcdbcdecdefdefgefghfghighijhijkijkljklmklmnlmnomnopnopq", "248d6a61d20638b8e5c026930c3e6039a33ce45964ff2167f6ecedd419db06c1"},
		{strings.Repeat("a", 1_000_000), "cdc76e5c9914fb9281a1c7e284d73e67f1809a48a497200e046d39ccc7112cd0"},
	} {
		d := sums.Sum([]byte(c.text))
		if got := hex.EncodeToString(d[:]); got != c.want {
			t.Errorf("the sum of %d bytes is %s, want %s", len(c.text), got, c.want)
		}
	}
	if d := sums.Sum([]byte("abc")); d[0] != 186 || d[1] != 120 || d[2] != 22 || d[3] != 191 {
		t.Errorf("the sum of abc begins with %v", d[:4])
	}
}

// The lengths go through all fillings of a block, and over the edges where the end takes a block of its own.
func TestSumOfEachLength(t *testing.T) {
	all := text(5 * 64)
	for n := range len(all) + 1 {
		if got, want := sums.Sum(all[:n]), api.Digest(sha256.Sum256(all[:n])); got != want {
			t.Errorf("the sum of %d bytes is %x, want %x", n, got, want)
		}
	}
}

func TestSumIsTheChaptersOwn(t *testing.T) {
	for _, n := range []int{0, 1, 3, 55, 56, 57, 63, 64, 65, 119, 120, 127, 128, 1000} {
		if got, want := sums.Sum(text(n)), byTheChapter(text(n)); got != want {
			t.Errorf("the sum of %d bytes is %x, want %x", n, got, want)
		}
	}
}

func TestSumOfEqualBytes(t *testing.T) {
	for _, x := range []byte{0, 127, 128, 255} {
		for _, n := range []int{1, 55, 56, 64, 128, 129} {
			b := bytes.Repeat([]byte{x}, n)
			if got, want := sums.Sum(b), api.Digest(sha256.Sum256(b)); got != want {
				t.Errorf("the sum of %d bytes %d is %x, want %x", n, x, got, want)
			}
		}
	}
}

func TestNilIsEmpty(t *testing.T) {
	h := sums.New()
	h.Add(nil)
	h.Add([]byte{})
	if sums.Sum(nil) != sums.Sum([]byte{}) || h.Sum() != sums.Sum(nil) || h.Len() != 0 {
		t.Error("what is nil and what is empty aren't one")
	}
}

// P2.1: a hash.

func TestHash(t *testing.T) {
	h, all := sums.New(), text(300)
	for n := range len(all) {
		if got := h.Len(); got != int64(n) {
			t.Fatalf("Len = %d, want %d", got, n)
		}
		if got, want := h.Sum(), sums.Sum(all[:n]); got != want {
			t.Fatalf("behind %d bytes the sum is %x, want %x", n, got, want)
		}
		if h.Sum() != h.Sum() {
			t.Fatal("to ask changed the sum")
		}
		h.Add(all[n : n+1])
	}
}

func TestHashesAreApart(t *testing.T) {
	x, y := sums.New(), sums.New()
	x.Add([]byte("x"))
	y.Add(text(100))
	z := *x
	z.Add(text(100))
	if x.Sum() != sums.Sum([]byte("x")) || x.Len() != 1 {
		t.Error("one hash changed another one")
	}
	if y.Sum() != sums.Sum(text(100)) || y.Len() != 100 {
		t.Error("one hash changed another one")
	}
}

func TestHashKeepsNothingHandedIn(t *testing.T) {
	for _, n := range []int{3, 64, 100} {
		h, b := sums.New(), text(n)
		h.Add(b)
		if !bytes.Equal(b, text(n)) {
			t.Errorf("Add changed %d bytes that were handed in", n)
		}
		clear(b)
		if h.Sum() != sums.Sum(text(n)) {
			t.Errorf("Add kept %d bytes that were handed in", n)
		}
		h.Sum()
		sums.Sum(b)
		if !bytes.Equal(b, make([]byte, n)) {
			t.Errorf("Sum changed %d bytes that were handed in", n)
		}
	}
}

func TestAddWritesNothingBehind(t *testing.T) {
	room := text(200)
	h := sums.New()
	h.Add(room[:10])
	h.Sum()
	sums.Sum(room[:10])
	if !bytes.Equal(room, text(200)) {
		t.Error("the room behind what was handed in was written")
	}
}

// P2.1 and P5: no hash.

func TestNilHash(t *testing.T) {
	var h *sums.Hash
	h.Add([]byte("abc"))
	if h.Sum() != (api.Digest{}) || h.Len() != 0 {
		t.Errorf("a nil hash has %x of %d bytes", h.Sum(), h.Len())
	}
}

func TestHashThatNewDidNotMake(t *testing.T) {
	var h sums.Hash
	if h.Sum() != sums.Sum(nil) || h.Len() != 0 {
		t.Errorf("it has %x of %d bytes", h.Sum(), h.Len())
	}
	h.Add(text(70))
	if h.Sum() != sums.Sum(text(70)) || h.Len() != 70 {
		t.Errorf("it has %x of %d bytes", h.Sum(), h.Len())
	}
}

// text is n bytes that don't repeat soon.
func text(n int) []byte {
	b := make([]byte, n)
	for i := range b {
		b[i] = byte(i*i*7 + i*3 + i>>8 + 1)
	}
	return b
}

// byTheChapter follows the chapter's words one by one, with constants made from the primes.
func byTheChapter(b []byte) api.Digest {
	all := append(bytes.Clone(b), 128)
	for len(all)%64 != 56 {
		all = append(all, 0)
	}
	for shift := 56; shift >= 0; shift -= 8 {
		all = append(all, byte(uint64(8*len(b))>>shift))
	}
	h, k := roots(8, 2), roots(64, 3)
	right := func(x uint32, ns ...int) uint32 {
		var all uint32
		for _, n := range ns {
			all ^= bits.RotateLeft32(x, -n)
		}
		return all
	}
	for ; len(all) > 0; all = all[64:] {
		var w [64]uint32
		for i := range w {
			if i < 16 {
				w[i] = uint32(all[4*i])<<24 | uint32(all[4*i+1])<<16 | uint32(all[4*i+2])<<8 | uint32(all[4*i+3])
				continue
			}
			w[i] = w[i-16] + (right(w[i-15], 7, 18) ^ w[i-15]>>3) + w[i-7] + (right(w[i-2], 17, 19) ^ w[i-2]>>10)
		}
		v := append([]uint32(nil), h...)
		for i := range w {
			t1 := v[7] + right(v[4], 6, 11, 25) + (v[4]&v[5] | ^v[4]&v[6]) + k[i] + w[i]
			t2 := right(v[0], 2, 13, 22) + (v[0]&v[1] | v[0]&v[2] | v[1]&v[2])
			v = []uint32{t1 + t2, v[0], v[1], v[2], v[3] + t1, v[4], v[5], v[6]}
		}
		for i := range h {
			h[i] += v[i]
		}
	}
	var d api.Digest
	for i := range d {
		d[i] = byte(h[i/4] >> (24 - 8*(i%4)))
	}
	return d
}

// roots are the first 32 bits of the fractions of the roots of the first primes.
func roots(many, degree int64) []uint32 {
	var out []uint32
	for p := int64(2); int64(len(out)) < many; p++ {
		if !big.NewInt(p).ProbablyPrime(0) {
			continue
		}
		scaled := new(big.Int).Lsh(big.NewInt(p), uint(32*degree))
		low, high := new(big.Int), new(big.Int).Set(scaled)
		one, power := big.NewInt(1), big.NewInt(degree)
		for new(big.Int).Sub(high, low).Cmp(one) > 0 {
			mid := new(big.Int).Add(low, high)
			mid.Rsh(mid, 1)
			if new(big.Int).Exp(mid, power, nil).Cmp(scaled) > 0 {
				high = mid
			} else {
				low = mid
			}
		}
		out = append(out, uint32(low.Uint64()))
	}
	return out
}
