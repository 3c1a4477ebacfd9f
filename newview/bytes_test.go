package newview_test

import (
	"encoding/binary"
	"math"
	"math/rand"
	"slices"
	"strings"
	"testing"

	"bottomry/api"
	"bottomry/change"
	"bottomry/newview"
)

// bytesOf writes a proof's bytes a second way.
func bytesOf(view int64, l []api.Signed) []byte {
	b := binary.BigEndian.AppendUint64(nil, uint64(view))
	b = binary.BigEndian.AppendUint16(b, uint16(len(l)))
	for _, s := range l {
		row := change.Bytes(s.Change)
		b = append(b, byte(s.From))
		b = binary.BigEndian.AppendUint32(b, uint32(len(row)))
		b = append(b, row...)
	}
	return b
}

// proofIn reads a proof a second way; false, if none that may be has these bytes.
func proofIn(b []byte, n int) (int64, []api.Signed, bool) {
	if len(b) < 10 {
		return 0, nil, false
	}
	view, many := int64(binary.BigEndian.Uint64(b)), int(binary.BigEndian.Uint16(b[8:]))
	var l []api.Signed
	b = b[10:]
	for len(l) < many {
		if len(b) < 5 || int64(len(b)-5) < int64(binary.BigEndian.Uint32(b[1:])) {
			return 0, nil, false
		}
		end := 5 + int(binary.BigEndian.Uint32(b[1:]))
		c, e := change.Parse(b[5:end], n)
		if e != api.OK {
			return 0, nil, false
		}
		l = append(l, api.Signed{From: int(b[0]), Change: c})
		b = b[end:]
	}
	if len(b) > 0 || checked(view, l, n) != api.OK {
		return 0, nil, false
	}
	return view, l, true
}

// wantParse holds Parse against what it should tell; beside an error there is no proof, and no view.
func wantParse(t *testing.T, name string, b []byte, n int, view int64, l []api.Signed, wrong api.Errno) {
	t.Helper()
	v, m, e := newview.Parse(b, n)
	if e != wrong || v != view || !alike(m, l) {
		t.Errorf("of %d: %s: %d, %.300v, %d, want %d, %.300v, %d", n, name, v, m, e, view, l, wrong)
	}
}

// wantNone holds Parse against an error.
func wantNone(t *testing.T, name string, b []byte, n int, wrong api.Errno) {
	t.Helper()
	wantParse(t, name, b, n, 0, nil, wrong)
}

// same holds Parse against the second way, and tells whether a proof may be.
func same(t *testing.T, b []byte, n int) bool {
	t.Helper()
	wrong := api.ErrForm
	view, l, may := proofIn(b, n)
	switch {
	case n < 1 || n > mostN:
		view, l, wrong = 0, nil, api.ErrArg
	case may:
		wrong = api.OK
	}
	v, m, e := newview.Parse(b, n)
	if e != wrong || v != view || !alike(m, l) {
		t.Fatalf("of %d: %.400x: %d, %v, %d, want %d, %v, %d", n, b, v, m, e, view, l, wrong)
	}
	return wrong == api.OK
}

// P19.1: a proof's bytes.

func TestBytes(t *testing.T) {
	of := func(x string) string { return strings.Repeat("\x00", 7) + x }
	none := "\x00\x00\x00\x16" + strings.Repeat("\x00", 22)
	row := func(view string) string {
		return "\x00\x00\x00\x3e" + of(view) + of("\x00") + "\x00\x01" + strings.Repeat("\x00", 40) + "\x00\x00\x00\x00"
	}
	of2 := func(from int, view int64) api.Signed {
		return api.Signed{From: from, Change: api.Change{View: view, Points: []api.Point{{}}}}
	}
	for name, x := range map[string]struct {
		view int64
		l    []api.Signed
		want string
	}{
		"nothing":  {0, nil, of("\x00") + "\x00\x00"},
		"empty":    {258, []api.Signed{}, strings.Repeat("\x00", 6) + "\x01\x02" + "\x00\x00"},
		"one":      {1, []api.Signed{of2(0, 1)}, of("\x01") + "\x00\x01" + "\x00" + row("\x01")},
		"three":    {2, []api.Signed{of2(1, 2), of2(3, 2), of2(2, 5)}, of("\x02") + "\x00\x03" + "\x01" + row("\x02") + "\x03" + row("\x02") + "\x02" + row("\x05")},
		"noughts":  {3, make([]api.Signed, 2), of("\x03") + "\x00\x02" + "\x00" + none + "\x00" + none},
		"round":    {-1, []api.Signed{{From: 256 + 6}, {From: -1}, {From: 1 << 20}}, strings.Repeat("\xff", 8) + "\x00\x03" + "\x06" + none + "\xff" + none + "\x00" + none},
		"the most": {math.MaxInt64, make([]api.Signed, 258), "\x7f" + strings.Repeat("\xff", 7) + "\x01\x02" + strings.Repeat("\x00"+none, 258)},
		"go round": {math.MinInt64, make([]api.Signed, 65537), "\x80" + of("") + "\x00\x01" + strings.Repeat("\x00"+none, 65537)},
	} {
		if got := string(newview.Bytes(x.view, x.l)); got != x.want {
			t.Errorf("%s: %d bytes %.99x, want %d, %.99x", name, len(got), got, len(x.want), x.want)
		}
	}
}

// Of changes that may not be the bytes are layer 18's too.
func TestBytesOfWhatMayNotBe(t *testing.T) {
	for n := 1; n <= mostN; n++ {
		for _, s := range spoilers(n) {
			for at := range n {
				l := with(proofOf(3, n, 1<<n-1), at, func(x *api.Signed) { s.by(&x.Change) })
				for _, view := range []int64{0, 3, 0x0102030405060708, -3} {
					if got := newview.Bytes(view, l); !slices.Equal(got, bytesOf(view, l)) {
						t.Errorf("of %d: %s: %.300x", n, s.name, got)
					}
				}
			}
		}
	}
}

// P19.2: what may be is parsed out of its bytes as it was.

func TestParse(t *testing.T) {
	for n := 1; n <= mostN; n++ {
		for _, view := range []int64{1, 2, 3, 258, mostView - 1, mostView} {
			for set := range 1 << n {
				l := proofOf(view, n, set)
				if len(l) >= quorums[n] {
					wantParse(t, "as it is", newview.Bytes(view, l), n, view, l, api.OK)
				} else {
					wantNone(t, "too few", newview.Bytes(view, l), n, api.ErrForm)
				}
			}
		}
	}
}

// All that Check tells but ErrArg is ErrForm.
func TestParseOfWhatMayNotBe(t *testing.T) {
	for n := 1; n <= mostN; n++ {
		l := proofOf(3, n, 1<<n-1)
		for at := range l {
			for _, s := range spoilers(n) {
				wantNone(t, s.name, newview.Bytes(3, with(l, at, func(x *api.Signed) { s.by(&x.Change) })), n, api.ErrForm)
			}
			for from := range 256 {
				b := newview.Bytes(3, with(l, at, func(x *api.Signed) { x.From = from }))
				if from == at {
					wantParse(t, "as it is", b, n, 3, l, api.OK)
				} else {
					wantNone(t, "who says it", b, n, api.ErrForm)
				}
			}
		}
		for many := range 20 {
			b := newview.Bytes(3, proofOf(3, n, 1<<many-1))
			if many < quorums[n] || many > n {
				wantNone(t, "too few or too many", b, n, api.ErrForm)
			}
		}
		for _, view := range []int64{0, 1, 2, 4, mostView, mostView + 3, -3, 1<<32 + 3, math.MinInt64} {
			wantNone(t, "another view", newview.Bytes(view, l), n, api.ErrForm)
		}
		slices.Reverse(l)
		if n > 1 {
			wantNone(t, "falling", newview.Bytes(3, l), n, api.ErrForm)
		}
	}
	for _, many := range []int{255, 256, 65535, 65536, 65537, 65540} {
		for n := 1; n <= mostN; n++ {
			wantNone(t, "many", newview.Bytes(0, make([]api.Signed, many)), n, api.ErrForm)
		}
	}
}

// ErrArg comes ahead of ErrForm.
func TestParseOfSizes(t *testing.T) {
	for _, n := range badSizes() {
		for _, b := range [][]byte{nil, []byte("x"), newview.Bytes(0, nil), newview.Bytes(3, proofOf(3, 4, 0b1111)), newview.Bytes(0, make([]api.Signed, 9))} {
			wantNone(t, "a size", b, n, api.ErrArg)
		}
	}
}

func TestParseOfNoForm(t *testing.T) {
	for _, n := range []int{1, 4, 7} {
		b := newview.Bytes(3, proofOf(3, n, 1<<n-1))
		for at := range b {
			wantNone(t, "cut", b[:at], n, api.ErrForm)
		}
		for _, more := range []string{"\x00", "\x00\x00\x00\x00\x00", "x", string(b[10:]), string(b)} {
			wantNone(t, "with more", append(slices.Clone(b), more...), n, api.ErrForm)
		}
		for _, none := range []string{"", "x", strings.Repeat("\x00", 10), strings.Repeat("\x00", 99), strings.Repeat("\xff", 10), strings.Repeat("\xff", 99)} {
			wantNone(t, "none", []byte(none), n, api.ErrForm)
		}
	}
}

// Of the row of changes, and of a change's row, another length is told than it has.
func TestParseOfOtherLengths(t *testing.T) {
	for n := 1; n <= mostN; n++ {
		for many := quorums[n]; many <= n; many++ {
			b := newview.Bytes(3, proofOf(3, n, 1<<many-1))
			for told := range 1 << 16 {
				if told > 300 && told%256 != many || told == many {
					continue
				}
				spoilt := slices.Clone(b)
				binary.BigEndian.PutUint16(spoilt[8:], uint16(told))
				wantNone(t, "how many", spoilt, n, api.ErrForm)
			}
			was := binary.BigEndian.Uint32(b[11:])
			for _, told := range []uint32{0, 1, 22, was - 1, was + 1, was + 256, 1 << 16, 1 << 20, 1<<20 + 1, 1<<31 - 1, 1 << 31, math.MaxUint32} {
				spoilt := slices.Clone(b)
				binary.BigEndian.PutUint32(spoilt[11:], told)
				wantNone(t, "how long", spoilt, n, api.ErrForm)
			}
		}
	}
}

// A row that isn't a change's bytes is ErrForm, wherever it stands.
func TestParseOfNoChange(t *testing.T) {
	fine := string(change.Bytes(changeOf(3, 4, 2)))
	for _, row := range []string{"", "x", fine[:len(fine)-1], fine + "\x00", fine + fine, strings.Repeat("\x00", 22), strings.Repeat("\xff", 62), fine} {
		for at := range 3 {
			b := []byte{7: 3, 9: 3}
			for i := range 3 {
				here := fine
				if i == at {
					here = row
				}
				b = binary.BigEndian.AppendUint32(append(b, byte(i)), uint32(len(here)))
				b = append(b, here...)
			}
			if may := same(t, b, 4); may != (row == fine) {
				t.Errorf("%q, at %d: %v", row, at, may)
			}
		}
	}
}

// P19.1: each byte changed to each other one, against the second way.
func TestParseOfEachByteChanged(t *testing.T) {
	for _, x := range []struct{ n, set int }{{1, 0b1}, {2, 0b10}, {4, 0b0111}, {5, 0b10011}, {7, 0b1011011}} {
		l := proofOf(3, x.n, x.set)
		for i := range l[1:] {
			l[i+1].Change = api.Change{View: 3, Points: []api.Point{{}}}
		}
		b := newview.Bytes(3, l)
		for at := range b {
			was := b[at]
			for other := range 256 {
				b[at] = byte(other)
				same(t, b, x.n)
			}
			b[at] = was
		}
	}
}

// P19.1, P19.2: thousands of rows' bytes, spoilt, against the second way.
func TestManyProofsBytes(t *testing.T) {
	r := rand.New(rand.NewSource(1901))
	fine := 0
	for range 10000 {
		n := 1 + r.Intn(mostN)
		view := 1 + r.Int63n(4)
		l := anyProof(r, view, n)
		b := newview.Bytes(view, l)
		if !slices.Equal(b, bytesOf(view, l)) {
			t.Fatalf("%v has the bytes %x", l, b)
		}
		same(t, b, n)
		same(t, b, n+r.Intn(5)-2)
		if same(t, spoilt(r, b), n) {
			fine++
		}
	}
	if fine < 500 {
		t.Errorf("just %d of the spoilt ones may be", fine)
	}
}

func spoilt(r *rand.Rand, b []byte) []byte {
	b = slices.Clone(b)
	for range 1 + r.Intn(2) {
		at := r.Intn(len(b))
		switch r.Intn(6) {
		case 0:
			b = slices.Delete(b, at, at+1)
		case 1:
			b = slices.Insert(b, at, byte(r.Intn(256)))
		case 2:
			b = b[:at+1]
		default:
			b[at] ^= 1 << r.Intn(8)
		}
	}
	return b
}

// P19.1: what is handed in stays, and answers are memory of their own.
func TestMemory(t *testing.T) {
	l := proofOf(3, 7, 0b1111110)
	b := bytesOf(3, l)
	whole := append(make([]byte, 0, 2*len(b)), b...)
	_, got, _ := newview.Parse(whole, 7)
	if !slices.Equal(whole, b) || slices.Max(whole[:cap(whole)][len(b):]) != 0 {
		t.Error("the bytes were changed")
	}
	clear(whole)
	if !alike(got, l) {
		t.Errorf("the proof changed with the bytes: %v", got)
	}
	_, first, _ := newview.Parse(b, 7)
	_, second, _ := newview.Parse(b, 7)
	spill(first...)
	clear(first[:cap(first)])
	if !alike(second, l) {
		t.Errorf("a proof is shared: %v", second)
	}
	one, other := newview.Bytes(3, l), newview.Bytes(3, l)
	clear(one[:cap(one)])
	if !slices.Equal(other, b) {
		t.Error("a proof's bytes are shared")
	}
}

// No two changes of one answer share memory.
func TestMemoryOfOneProof(t *testing.T) {
	l := proofOf(3, 7, 0b1111111)
	for i := range l {
		l[i].Change = changeOf(3, 7, 3)
	}
	for i := range l {
		_, got, _ := newview.Parse(newview.Bytes(3, l), 7)
		spill(got[i])
		if !alike(got[:i], l[:i]) || !alike(got[i+1:], l[i+1:]) {
			t.Errorf("the change %d is another one's too", i)
		}
	}
}

// spill writes over all that changes have.
func spill(l ...api.Signed) {
	for _, s := range l {
		clear(s.Change.Points[:cap(s.Change.Points)])
		for _, proofs := range [][]api.Proof{s.Change.Prepared, s.Change.Proposed} {
			for _, p := range proofs {
				clear(p.Batch[:cap(p.Batch)])
			}
			clear(proofs[:cap(proofs)])
		}
	}
}

// P5: no bytes make a call panic; what is parsed may be, and has just these bytes.
func FuzzParse(f *testing.F) {
	f.Add(bytesOf(3, proofOf(3, 4, 0b0111)), 4)
	f.Add(bytesOf(3, proofOf(3, 1, 0b1)), 1)
	f.Add(bytesOf(3, proofOf(3, 7, 0b1111111)), 7)
	f.Add(slices.Repeat([]byte{0xff}, 80), 4)
	f.Add([]byte(nil), 0)
	f.Fuzz(func(t *testing.T, b []byte, n int) {
		if !same(t, b, n) {
			return
		}
		if view, l, _ := newview.Parse(b, n); !slices.Equal(newview.Bytes(view, l), b) || newview.Check(view, l, n) != api.OK {
			t.Errorf("%x is read as %d, %v", b, view, l)
		}
	})
}
