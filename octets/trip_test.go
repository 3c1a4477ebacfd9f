package octets_test

import (
	"bytes"
	"encoding/binary"
	"math"
	"math/rand/v2"
	"testing"

	"bottomry/api"
	"bottomry/octets"
)

// P1.2: what is put is read as it was.

func TestNumbersComeBack(t *testing.T) {
	for _, n := range []int{1, 2, 4, 8} {
		top := uint64(math.MaxUint64) >> (64 - 8*n)
		for bit := range 8 * n {
			for _, v := range []uint64{0, 1 << bit, 1<<bit - 1, top >> bit, top - 1<<bit} {
				r := octets.Read(octets.Put(nil, v, n))
				if got := r.Number(n); got != v || r.End() != api.OK {
					t.Errorf("%d of %d bytes came back as %d, %d", v, n, got, r.End())
				}
			}
		}
	}
}

func TestNumbersWithSignsComeBack(t *testing.T) {
	for _, n := range []int{1, 2, 4, 8} {
		low, high := int64(math.MinInt64)>>(64-8*n), int64(math.MaxInt64)>>(64-8*n)
		for _, v := range []int64{low, low + 1, low / 2, -2, -1, 0, 1, 2, high / 2, high - 1, high} {
			r := octets.Read(octets.Put(nil, uint64(v), n))
			if got := r.Range(n, low, high); got != v || r.End() != api.OK {
				t.Errorf("%d of %d bytes came back as %d, %d", v, n, got, r.End())
			}
		}
	}
}

func TestRowsComeBack(t *testing.T) {
	for _, n := range []int{0, 1, 2, 255, 256, 257, 65535, 65536, api.MaxBytes} {
		row := bytes.Repeat([]byte{0, 255, 'a'}, n/3+1)[:n]
		r := octets.Read(octets.Row(nil, row))
		if got := r.Row(n); !bytes.Equal(got, row) || r.End() != api.OK {
			t.Errorf("a row of %d came back as one of %d, %d", n, len(got), r.End())
		}
	}
}

// item is something that is put, and what reads it back.
type item struct {
	put  func(b []byte) []byte
	same func(r *octets.Reader) bool
}

func anItem(rnd *rand.Rand) item {
	v, n := rnd.Uint64(), []int{1, 2, 4, 8}[rnd.IntN(4)]
	raw := binary.BigEndian.AppendUint64(nil, v)[:rnd.IntN(9)]
	switch rnd.IntN(5) {
	case 0:
		v >>= 64 - 8*n
		return item{
			func(b []byte) []byte { return octets.Put(b, v, n) },
			func(r *octets.Reader) bool { return r.Number(n) == v }}
	case 1:
		s := int64(v) >> (64 - 8*n)
		return item{
			func(b []byte) []byte { return octets.Put(b, uint64(s), n) },
			func(r *octets.Reader) bool { return r.Range(n, s, s) == s }}
	case 2:
		return item{
			func(b []byte) []byte { return octets.Row(b, raw) },
			func(r *octets.Reader) bool { return bytes.Equal(r.Row(len(raw)), raw) }}
	case 3:
		many := int(v >> 48)
		return item{
			func(b []byte) []byte { return octets.Put(b, uint64(many), 2) },
			func(r *octets.Reader) bool { return r.Count(many) == many }}
	}
	return item{
		func(b []byte) []byte { return append(bytes.Clone(b), raw...) },
		func(r *octets.Reader) bool { return bytes.Equal(r.Fixed(len(raw)), raw) }}
}

func TestManyComeBackInOrder(t *testing.T) {
	rnd := rand.New(rand.NewPCG(1, 2))
	for round := range 500 {
		items := make([]item, rnd.IntN(20))
		var b []byte
		for i := range items {
			items[i] = anItem(rnd)
			b = items[i].put(b)
		}
		r := octets.Read(b)
		for i, x := range items {
			if !x.same(r) {
				t.Fatalf("round %d: item %d of %d came back otherwise", round, i, len(items))
			}
		}
		if e := r.End(); e != api.OK {
			t.Fatalf("round %d: End = %d", round, e)
		}
	}
}

// P5: every call ends and none panics.

func TestNoArgumentPanics(t *testing.T) {
	sizes := append(noWidths(), 1, 2, 4, 8, math.MaxInt32, math.MinInt32)
	ends := []int64{math.MinInt64, -1, 0, 1, math.MaxInt64}
	texts := [][]byte{nil, {}, {0}, {255}, {0, 0, 0, 0}, {255, 255, 255, 255, 0}, make([]byte, 9), bytes.Repeat([]byte{255}, 17)}
	for _, n := range sizes {
		for _, b := range texts {
			octets.Put(b, math.MaxUint64, n)
			octets.Row(b, b)
			for _, low := range ends {
				for _, high := range ends {
					octets.Read(b).Range(n, low, high)
				}
			}
			octets.Read(b).Number(n)
			octets.Read(b).Row(n)
			octets.Read(b).Fixed(n)
			octets.Read(b).Count(n)
		}
	}
}

func FuzzReader(f *testing.F) {
	f.Add([]byte("\x00\x00\x00\x01a"), []byte{2, 9})
	f.Add([]byte("\xff\x02\xff\xff"), []byte{1, 1, 0, 1, 3, 2})
	f.Fuzz(func(t *testing.T, text, calls []byte) {
		r := octets.Read(text)
		for i := 0; i+1 < len(calls); i += 2 {
			before, n := r.End(), int(int8(calls[i+1]))
			var some bool
			switch calls[i] % 5 {
			case 0:
				some = r.Number(n) != 0
			case 1:
				v := r.Range(n, int64(-n), int64(n))
				some = v != 0
				if some && (v < int64(-n) || v > int64(n)) {
					t.Fatal("out of range:", v)
				}
			case 2:
				row := r.Row(n)
				some = len(row) > 0
				if some && (len(row) > n || !bytes.Contains(text, octets.Row(nil, row))) {
					t.Fatalf("a row that isn't there: %q", row)
				}
			case 3:
				fixed := r.Fixed(n)
				some = len(fixed) > 0
				if some && (len(fixed) != n || !bytes.Contains(text, fixed)) {
					t.Fatalf("bytes that aren't there: %q", fixed)
				}
			case 4:
				many := r.Count(n)
				some = many != 0
				if some && many > n {
					t.Fatal("too many:", many)
				}
			}
			if failed := before != api.OK && before != api.ErrForm; failed && (some || r.End() != before) {
				t.Fatalf("call %d behind failure %d: %v, %d", calls[i]%5, before, some, r.End())
			}
		}
	})
}
