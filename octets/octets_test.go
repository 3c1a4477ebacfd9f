package octets_test

import (
	"bytes"
	"math"
	"strings"
	"testing"

	"bottomry/api"
	"bottomry/octets"
)

// P1.1: what is put.

func TestPut(t *testing.T) {
	for _, c := range []struct {
		b    string
		v    uint64
		n    int
		want string
	}{
		{"", 258, 2, "\x01\x02"},
		{"", 0, 1, "\x00"},
		{"", 255, 1, "\xff"},
		{"", 256, 1, "\x00"},
		{"", 0x1ff, 1, "\xff"},
		{"ab", 0x0102, 1, "ab\x02"},
		{"ab", 0x010203, 2, "ab\x02\x03"},
		{"ab", 0x0102030405, 4, "ab\x02\x03\x04\x05"},
		{"ab", 0x0102030405060708, 8, "ab\x01\x02\x03\x04\x05\x06\x07\x08"},
		{"", math.MaxUint64, 8, "\xff\xff\xff\xff\xff\xff\xff\xff"},
		{"", 1 << 63, 8, "\x80\x00\x00\x00\x00\x00\x00\x00"},
		{"", 1 << 32, 4, "\x00\x00\x00\x00"},
		{"\x00", 1, 4, "\x00\x00\x00\x00\x01"},
	} {
		if got := octets.Put([]byte(c.b), c.v, c.n); string(got) != c.want {
			t.Errorf("Put(%q, %d, %d) = %q, want %q", c.b, c.v, c.n, got, c.want)
		}
	}
}

func TestPutOfNoWidth(t *testing.T) {
	for _, n := range noWidths() {
		if got := octets.Put([]byte("ab"), math.MaxUint64, n); string(got) != "ab" {
			t.Errorf("Put of %d bytes = %q, want the bytes ahead alone", n, got)
		}
		if got := octets.Put(nil, 1, n); len(got) != 0 {
			t.Errorf("Put(nil) of %d bytes = %q, want nothing", n, got)
		}
	}
}

func TestRowIsPut(t *testing.T) {
	long := strings.Repeat("x", 0x10203)
	for _, c := range []struct{ b, row, want string }{
		{"", "a", "\x00\x00\x00\x01a"},
		{"", "", "\x00\x00\x00\x00"},
		{"ab", "", "ab\x00\x00\x00\x00"},
		{"ab", "cde", "ab\x00\x00\x00\x03cde"},
		{"", long, "\x00\x01\x02\x03" + long},
	} {
		if got := octets.Row([]byte(c.b), []byte(c.row)); string(got) != c.want {
			t.Errorf("Row(%q, a row of %d) is wrong", c.b, len(c.row))
		}
	}
	if got := octets.Row(nil, nil); string(got) != "\x00\x00\x00\x00" {
		t.Errorf("Row(nil, nil) = %q", got)
	}
}

func TestWhatIsPutHasMemoryOfItsOwn(t *testing.T) {
	room := []byte("abcdefghijklmnopqrstuvwxyz")
	b := room[:2]
	for name, put := range map[string]func() []byte{
		"Put":             func() []byte { return octets.Put(b, 0, 8) },
		"Put of no width": func() []byte { return octets.Put(b, 0, 3) },
		"Row":             func() []byte { return octets.Row(b, []byte("01")) },
		"Row of nothing":  func() []byte { return octets.Row(b, nil) },
		"Row of itself":   func() []byte { return octets.Row(b, b) },
		"Row of the rest": func() []byte { return octets.Row(b, room[2:]) },
	} {
		got := put()
		want := bytes.Clone(got)
		if string(room) != "abcdefghijklmnopqrstuvwxyz" {
			t.Fatalf("%s changed what was handed in: %q", name, room)
		}
		b[0], b[1] = 'A', 'B'
		if !bytes.Equal(got, want) {
			t.Errorf("%s kept what was handed in", name)
		}
		b[0], b[1] = 'a', 'b'
		clear(got[:cap(got)])
		if string(room) != "abcdefghijklmnopqrstuvwxyz" {
			t.Fatalf("%s answers what was handed in", name)
		}
	}
}

func TestWhatIsPutTwiceBehindOneIsApart(t *testing.T) {
	b := octets.Put(octets.Put(nil, 1, 8), 2, 1)
	x, y := octets.Put(b, 3, 1), octets.Put(b, 4, 1)
	u, v := octets.Row(b, []byte("u")), octets.Row(b, []byte("v"))
	if x[9] != 3 || y[9] != 4 || u[13] != 'u' || v[13] != 'v' {
		t.Error(x, y, u, v)
	}
}

// P1.1: what is read.

func TestNumber(t *testing.T) {
	const text = "\x81\x02\x03\x04\x05\x06\x07\x08rest"
	for n, want := range map[int]uint64{
		1: 0x81, 2: 0x8102, 4: 0x81020304, 8: 0x8102030405060708,
	} {
		r := octets.Read([]byte(text))
		if got := r.Number(n); got != want {
			t.Errorf("Number(%d) = %x, want %x", n, got, want)
		}
		if got := r.Fixed(len(text) - n); string(got) != text[n:] || r.End() != api.OK {
			t.Errorf("behind Number(%d): %q, %d", n, got, r.End())
		}
		short := octets.Read([]byte(text[:n-1]))
		if got := short.Number(n); got != 0 || short.End() != api.ErrForm {
			t.Errorf("Number(%d) of too few = %d, %d", n, got, short.End())
		}
	}
	for _, n := range noWidths() {
		wantFailure(t, octets.Read([]byte(text)), api.ErrForm, func(r *octets.Reader) bool { return r.Number(n) == 0 })
	}
}

func TestRange(t *testing.T) {
	for _, c := range []struct {
		b         string
		low, high int64
		want      int64
	}{
		{"\x05", 5, 5, 5},
		{"\x7f", -128, 127, 127},
		{"\x80", -128, 127, -128},
		{"\xff", -1, -1, -1},
		{"\x7f\xff", -32768, 32767, 32767},
		{"\x80\x00", -32768, 32767, -32768},
		{"\xff\xfe", -2, 0, -2},
		{"\x7f\xff\xff\xff", 0, math.MaxInt32, math.MaxInt32},
		{"\x80\x00\x00\x00", math.MinInt32, 0, math.MinInt32},
		{"\x7f\xff\xff\xff\xff\xff\xff\xff", math.MaxInt64, math.MaxInt64, math.MaxInt64},
		{"\x80\x00\x00\x00\x00\x00\x00\x00", math.MinInt64, math.MinInt64, math.MinInt64},
		{"\xff\xff\xff\xff\xff\xff\xff\xff", math.MinInt64, math.MaxInt64, -1},
	} {
		n := len(c.b)
		r := octets.Read([]byte(c.b + "!"))
		if got := r.Range(n, c.low, c.high); got != c.want {
			t.Errorf("Range(%d, %d, %d) of %q = %d, want %d", n, c.low, c.high, c.b, got, c.want)
		}
		if r.Number(1) != '!' || r.End() != api.OK {
			t.Errorf("Range of %q doesn't go on behind it", c.b)
		}
		if c.want > math.MinInt64 {
			wantRangeFailure(t, c.b, api.ErrRange, n, math.MinInt64, c.want-1)
		}
		if c.want < math.MaxInt64 {
			wantRangeFailure(t, c.b, api.ErrRange, n, c.want+1, math.MaxInt64)
		}
		wantRangeFailure(t, c.b, api.ErrRange, n, 1, -1)
		// Number's failure comes ahead of the range's.
		wantRangeFailure(t, c.b[1:], api.ErrForm, n, 1, -1)
		wantRangeFailure(t, c.b[1:], api.ErrForm, n, math.MinInt64, math.MaxInt64)
	}
	for _, n := range noWidths() {
		wantRangeFailure(t, "\x00\x00\x00\x00\x00\x00\x00\x00\x00", api.ErrForm, n, math.MinInt64, math.MaxInt64)
		wantRangeFailure(t, "\x00\x00\x00\x00\x00\x00\x00\x00\x00", api.ErrForm, n, 1, -1)
	}
}

func TestRowIsRead(t *testing.T) {
	for _, c := range []struct {
		b    string
		most int
		want string
		err  api.Errno
	}{
		{"\x00\x00\x00\x00", 0, "", api.OK},
		{"\x00\x00\x00\x02ab", 2, "ab", api.OK},
		{"\x00\x00\x00\x02ab", math.MaxInt, "ab", api.OK},
		{"\x00\x00\x00\x02ab", 1, "", api.ErrLong},
		{"\x00\x00\x00\x01a", 0, "", api.ErrLong},
		{"\x00\x00\x00\x00", -1, "", api.ErrLong},
		{"\x00\x00\x00\x00", math.MinInt, "", api.ErrLong},
		{"\x00\x00\x00\x02a", 2, "", api.ErrForm},
		{"\x00\x00\x00\x02", 2, "", api.ErrForm},
		{"\x00\x00\x00\x02a", 1, "", api.ErrLong},
		{"\x00\x00\x00\x02", 1, "", api.ErrLong},
		{"\xff\xff\xff\xff", 9, "", api.ErrLong},
		{"\xff\xff\xff\xffab", math.MaxInt32, "", api.ErrLong},
		{"\x80\x00\x00\x00ab", 9, "", api.ErrLong},
		{"\x7f\xff\xff\xffab", math.MaxInt32, "", api.ErrForm},
		{"\x00\x00\x00", 9, "", api.ErrForm},
		{"\x00\x00\x00", -1, "", api.ErrForm},
		{"", 9, "", api.ErrForm},
	} {
		r := octets.Read([]byte(c.b))
		if got := r.Row(c.most); string(got) != c.want || r.End() != c.err {
			t.Errorf("Row(%d) of %q = %q, %d, want %q, %d", c.most, c.b, got, r.End(), c.want, c.err)
		}
	}
}

func TestFixed(t *testing.T) {
	for _, c := range []struct {
		b    string
		n    int
		want string
		err  api.Errno
	}{
		{"abc", 3, "abc", api.OK},
		{"", 0, "", api.OK},
		{"abc", 2, "ab", api.ErrForm}, // one is left
		{"abc", 0, "", api.ErrForm},
		{"abc", 4, "", api.ErrForm},
		{"abc", -1, "", api.ErrForm},
		{"", -1, "", api.ErrForm},
		{"", 1, "", api.ErrForm},
		{"abc", math.MaxInt, "", api.ErrForm},
		{"abc", math.MinInt, "", api.ErrForm},
	} {
		r := octets.Read([]byte(c.b))
		if got := r.Fixed(c.n); string(got) != c.want || r.End() != c.err {
			t.Errorf("Fixed(%d) of %q = %q, %d, want %q, %d", c.n, c.b, got, r.End(), c.want, c.err)
		}
	}
	wantFailure(t, octets.Read([]byte("abc")), api.ErrForm, func(r *octets.Reader) bool { return len(r.Fixed(4)) == 0 })
	wantFailure(t, octets.Read([]byte("abc")), api.ErrForm, func(r *octets.Reader) bool { return len(r.Fixed(-1)) == 0 })
}

func TestCount(t *testing.T) {
	for _, c := range []struct {
		b    string
		most int
		want int
		err  api.Errno
	}{
		{"\x00\x00", 0, 0, api.OK},
		{"\x00\x09", 9, 9, api.OK},
		{"\x00\x09", 8, 0, api.ErrMany},
		{"\x01\x02", 258, 258, api.OK},
		{"\x01\x02", 257, 0, api.ErrMany},
		{"\xff\xff", 65535, 65535, api.OK},
		{"\xff\xff", 65534, 0, api.ErrMany},
		{"\xff\xff", math.MaxInt, 65535, api.OK},
		{"\x00\x00", -1, 0, api.ErrMany},
		{"\x00\x00", math.MinInt, 0, api.ErrMany},
		{"\x00", 9, 0, api.ErrForm},
		{"\x09", 8, 0, api.ErrForm},
		{"", -1, 0, api.ErrForm},
		{"\x00\x09x", 9, 9, api.ErrForm}, // one is left
	} {
		r := octets.Read([]byte(c.b))
		if got := r.Count(c.most); got != c.want || r.End() != c.err {
			t.Errorf("Count(%d) of %q = %d, %d, want %d, %d", c.most, c.b, got, r.End(), c.want, c.err)
		}
	}
}

func TestEnd(t *testing.T) {
	if e := octets.Read(nil).End(); e != api.OK {
		t.Error("of nothing:", e)
	}
	if e := octets.Read([]byte{}).End(); e != api.OK {
		t.Error("of no bytes:", e)
	}
	// Bytes that are left are no failure: reading goes on.
	r := octets.Read([]byte("ab"))
	if e := r.End(); e != api.ErrForm {
		t.Error("of all left:", e)
	}
	if got := r.Number(1); got != 'a' || r.End() != api.ErrForm {
		t.Error("of one left:", got, r.End())
	}
	if got := r.Number(1); got != 'b' || r.End() != api.OK || r.End() != api.OK {
		t.Error("of none left:", got, r.End())
	}
}

func TestBehindAFailure(t *testing.T) {
	const text = "\x00\x00\x00\x01ab\x00\x00\x00\x01c"
	for name, fail := range map[string]struct {
		with func(r *octets.Reader) bool
		err  api.Errno
	}{
		"Number": {func(r *octets.Reader) bool { return r.Number(3) == 0 }, api.ErrForm},
		"Range":  {func(r *octets.Reader) bool { return r.Range(4, 2, 3) == 0 }, api.ErrRange},
		"Row":    {func(r *octets.Reader) bool { return len(r.Row(0)) == 0 }, api.ErrLong},
		"Fixed":  {func(r *octets.Reader) bool { return len(r.Fixed(99)) == 0 }, api.ErrForm},
		"Count":  {func(r *octets.Reader) bool { return r.Count(-1) == 0 }, api.ErrMany},
	} {
		t.Run(name, func(t *testing.T) {
			wantFailure(t, octets.Read([]byte(text)), fail.err, fail.with)
		})
	}
	// A failure stays one where nothing is left behind it.
	r := octets.Read([]byte{0, 9})
	if r.Count(8); r.End() != api.ErrMany {
		t.Error(r.End())
	}
}

func TestNilReader(t *testing.T) {
	wantSilence(t, nil, api.ErrArg)
}

func TestZeroReader(t *testing.T) {
	var r octets.Reader
	if r.End() != api.OK || len(r.Fixed(0)) != 0 || r.End() != api.OK {
		t.Error(r.End())
	}
	if r.Number(1) != 0 || r.End() != api.ErrForm {
		t.Error(r.End())
	}
}

func TestWhatIsReadHasMemoryOfItsOwn(t *testing.T) {
	const text = "\x00\x00\x00\x01abc\x07"
	b := []byte(text)
	r := octets.Read(b)
	clear(b)
	row := r.Row(9)
	_ = append(row, "###"...)
	row[0] = '#'
	two := r.Fixed(2)
	_ = append(two, "###"...)
	if got := r.Number(1); string(two) != "bc" || got != 7 || r.End() != api.OK {
		t.Errorf("%q, %d, %d", two, got, r.End())
	}

	b = []byte(text)
	r = octets.Read(b)
	row, two = r.Row(9), r.Fixed(2)
	clear(row[:cap(row)])
	clear(two[:cap(two)])
	if got := r.Number(1); string(b) != text || got != 7 {
		t.Errorf("%q, %d", b, got)
	}

	b = []byte(text)
	r = octets.Read(b)
	row, two = r.Row(9), r.Fixed(2)
	clear(b)
	if string(row) != "a" || string(two) != "bc" {
		t.Errorf("%q, %q", row, two)
	}
}

func TestReadersThatAreCopiesShareNoAnswer(t *testing.T) {
	x := *octets.Read([]byte("\x00\x00\x00\x01abc"))
	y := x
	clear(x.Row(9))
	if got := y.Row(9); string(got) != "a" {
		t.Errorf("%q", got)
	}
	clear(x.Fixed(2))
	if got := y.Fixed(2); string(got) != "bc" {
		t.Errorf("%q", got)
	}
}

func TestTwoReadersOfTheSame(t *testing.T) {
	b := []byte{1, 2}
	x, y := octets.Read(b), octets.Read(b)
	if x.Number(2) != 258 || y.Number(1) != 1 || y.Number(1) != 2 || x.End() != api.OK || y.End() != api.OK {
		t.Error(x.End(), y.End())
	}
}

// noWidths are numbers of bytes that no number has.
func noWidths() []int {
	return []int{0, 3, 5, 6, 7, 9, 16, 64, 256 + 1, 256 + 8, 1<<16 + 1, -1, -2, -8, math.MaxInt, math.MinInt}
}

func wantRangeFailure(t *testing.T, b string, err api.Errno, n int, low, high int64) {
	t.Helper()
	wantFailure(t, octets.Read([]byte(b)), err, func(r *octets.Reader) bool { return r.Range(n, low, high) == 0 })
}

// wantFailure wants a call to answer nothing, and its error to be all that is told ever after.
func wantFailure(t *testing.T, r *octets.Reader, err api.Errno, call func(*octets.Reader) bool) {
	t.Helper()
	if !call(r) {
		t.Error("a call that fails answers something")
	}
	wantSilence(t, r, err)
}

// wantSilence wants every call to answer nothing; calls that would fail for other reasons change no error.
func wantSilence(t *testing.T, r *octets.Reader, err api.Errno) {
	t.Helper()
	if got := r.End(); got != err {
		t.Errorf("End = %d, want %d", got, err)
	}
	for _, n := range append(noWidths(), 1, 2, 4, 8) {
		if got := r.Number(n); got != 0 {
			t.Errorf("Number(%d) = %d behind a failure", n, got)
		}
		if got := r.Range(n, math.MinInt64, math.MaxInt64); got != 0 {
			t.Errorf("Range(%d) = %d behind a failure", n, got)
		}
		if got := r.Range(n, 5, 9); got != 0 {
			t.Errorf("Range(%d, 5, 9) = %d behind a failure", n, got)
		}
		if got := r.Row(n); len(got) != 0 {
			t.Errorf("Row(%d) = %q behind a failure", n, got)
		}
		if got := r.Fixed(n); len(got) != 0 {
			t.Errorf("Fixed(%d) = %q behind a failure", n, got)
		}
		if got := r.Count(n); got != 0 {
			t.Errorf("Count(%d) = %d behind a failure", n, got)
		}
		if got := r.End(); got != err {
			t.Fatalf("End = %d behind the first failure, want %d", got, err)
		}
	}
}
