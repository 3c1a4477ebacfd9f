package batch_test

import (
	"math"
	"slices"
	"strings"
	"testing"

	"bottomry/api"
	"bottomry/batch"
)

// The chapters' limits, as numbers: a change of api's constants is seen too.
const (
	mostN       = 7
	mostClients = 4
	mostEntries = 4
	mostStamp   = 1 << 40
	mostName    = 16
	mostText    = 200
)

// entryOf is an entry that may be, of n replicas, of the client next in row behind that many others.
func entryOf(n, behind int) api.Entry {
	c := api.Core{Client: n + behind, Stamp: int64(7 + behind), Op: 2, Letter: "a-1", A: 5, B: -30, Text: "2of(0,1,2)"}
	return api.Entry{Core: c, Mask: 1}
}

// batchOf is a batch that may be, of n replicas, of the clients in a set (a bit each).
func batchOf(n, set int) []api.Entry {
	var b []api.Entry
	for i := range mostClients {
		if set>>i&1 == 1 {
			b = append(b, entryOf(n, i))
		}
	}
	return b
}

// with is a batch in which one entry is changed.
func with(b []api.Entry, at int, change func(x *api.Entry)) []api.Entry {
	b = slices.Clone(b)
	change(&b[at])
	return b
}

// spoiler makes an entry one that may not be, in one thing.
type spoiler struct {
	name   string
	change func(x *api.Entry)
	want   api.Errno
}

func coreSpoilers(n int) []spoiler {
	return []spoiler{
		{"a replica's number", func(x *api.Entry) { x.Core.Client = n - 1 }, api.ErrWho},
		{"Client beyond", func(x *api.Entry) { x.Core.Client = n + mostClients }, api.ErrWho},
		{"Client below 0", func(x *api.Entry) { x.Core.Client = -1 }, api.ErrWho},
		{"Stamp 0", func(x *api.Entry) { x.Core.Stamp = 0 }, api.ErrRange},
		{"Stamp below 0", func(x *api.Entry) { x.Core.Stamp = math.MinInt64 }, api.ErrRange},
		{"Stamp beyond", func(x *api.Entry) { x.Core.Stamp = mostStamp + 1 }, api.ErrRange},
		{"Op 0", func(x *api.Entry) { x.Core.Op = 0 }, api.ErrRange},
		{"Op 10", func(x *api.Entry) { x.Core.Op = 10 }, api.ErrRange},
		{"no name", func(x *api.Entry) { x.Core.Letter = "" }, api.ErrName},
		{"name of A", func(x *api.Entry) { x.Core.Letter = "A" }, api.ErrName},
		{"name of 17", func(x *api.Entry) { x.Core.Letter = strings.Repeat("a", mostName+1) }, api.ErrName},
		{"text of 201", func(x *api.Entry) { x.Core.Text = strings.Repeat("t", mostText+1) }, api.ErrLong},
		{"text far too long", func(x *api.Entry) { x.Core.Text = strings.Repeat("t", 1<<17) }, api.ErrLong},
	}
}

// Masks that may not be of n: those whose lowest bits may be as well.
func wrongMasks(n int) []uint32 {
	return []uint32{1 << n, 1<<n | 1, 1 << (n + 1), 1<<8 - 1 | 1<<n, 1 << 8, 1<<8 | 1, 1 << 16, 1 << 31, 1<<31 | 1, math.MaxUint32}
}

// badSizes are numbers of replicas that there may not be.
func badSizes() []int {
	return []int{0, -1, -4, -64, mostN + 1, 10, 32, 64, 256 + 4, 1<<32 + 4, math.MaxInt, math.MaxInt - 3, math.MinInt}
}

// P15.1: which batches may be.

func TestCheckOfTheNullBatch(t *testing.T) {
	for n := 1; n <= mostN; n++ {
		for _, b := range [][]api.Entry{nil, {}} {
			if e := batch.Check(b, n); e != api.OK {
				t.Errorf("of %d: %d", n, e)
			}
		}
	}
}

func TestCheckOfEachSetOfClients(t *testing.T) {
	for n := 1; n <= mostN; n++ {
		for set := range 1 << mostClients {
			if e := batch.Check(batchOf(n, set), n); e != api.OK {
				t.Errorf("of %d: the clients %04b: %d", n, set, e)
			}
		}
	}
}

func TestCheckOfEdges(t *testing.T) {
	for n := 1; n <= mostN; n++ {
		for at := range mostEntries {
			for name, change := range map[string]func(x *api.Entry){
				"Stamp 1":     func(x *api.Entry) { x.Core.Stamp = 1 },
				"Stamp most":  func(x *api.Entry) { x.Core.Stamp = mostStamp },
				"Op 1":        func(x *api.Entry) { x.Core.Op = 1 },
				"Op 9":        func(x *api.Entry) { x.Core.Op = 9 },
				"name of 16":  func(x *api.Entry) { x.Core.Letter = strings.Repeat("-", mostName) },
				"A least":     func(x *api.Entry) { x.Core.A, x.Core.B = math.MinInt64, math.MaxInt64 },
				"no text":     func(x *api.Entry) { x.Core.Text = "" },
				"text of 200": func(x *api.Entry) { x.Core.Text = strings.Repeat("\xff", mostText) },
			} {
				if e := batch.Check(with(batchOf(n, 0b1111), at, change), n); e != api.OK {
					t.Errorf("of %d, the entry %d: %s: %d", n, at, name, e)
				}
			}
		}
	}
}

func TestCheckOfEachMask(t *testing.T) {
	for n := 1; n <= mostN; n++ {
		for at := range mostEntries {
			for mask := range uint32(600) {
				want := api.OK
				if mask >= []uint32{1, 2, 4, 8, 16, 32, 64, 128}[n] {
					want = api.ErrRange
				}
				b := with(batchOf(n, 0b1111), at, func(x *api.Entry) { x.Mask = mask })
				if e := batch.Check(b, n); e != want {
					t.Errorf("of %d, the entry %d: the mask %d: %d", n, at, mask, e)
				}
			}
			for _, mask := range wrongMasks(n) {
				b := with(batchOf(n, 0b1111), at, func(x *api.Entry) { x.Mask = mask })
				if e := batch.Check(b, n); e != api.ErrRange {
					t.Errorf("of %d, the entry %d: the mask %d: %d", n, at, mask, e)
				}
			}
		}
	}
}

func TestCheckOfCores(t *testing.T) {
	for n := 1; n <= mostN; n++ {
		for set := 1; set < 1<<mostClients; set++ {
			b := batchOf(n, set)
			for at := range b {
				for _, s := range coreSpoilers(n) {
					if e := batch.Check(with(b, at, s.change), n); e != s.want {
						t.Errorf("of %d, the entry %d of %d: %s: %d, want %d", n, at, len(b), s.name, e, s.want)
					}
				}
			}
		}
	}
}

// Each row of clients of up to four is tried: that rises alone may be.
func TestCheckOfEachRowOfClients(t *testing.T) {
	const n = 4
	for many := range mostEntries + 1 {
		for code := range 1 << (2 * many) {
			b, want := make([]api.Entry, many), api.OK
			for i := range many {
				b[i] = entryOf(n, code>>(2*i)&3)
				if i > 0 && b[i].Core.Client <= b[i-1].Core.Client {
					want = api.ErrTwice
				}
			}
			if e := batch.Check(b, n); e != want {
				t.Errorf("the clients %0*b: %d, want %d", 2*many, code, e, want)
			}
		}
	}
}

// A client stands once, whatever else its entries are.
func TestCheckOfAClientTwice(t *testing.T) {
	x, y := entryOf(4, 1), entryOf(4, 1)
	y.Core.Stamp, y.Core.Letter, y.Mask = 99, "other", 3
	for _, b := range [][]api.Entry{{x, x}, {x, y}, {y, x}, {entryOf(4, 0), x, y}} {
		if e := batch.Check(b, 4); e != api.ErrTwice {
			t.Errorf("%v: %d", b, e)
		}
	}
}

func TestCheckOfTooMany(t *testing.T) {
	for n := 1; n <= mostN; n++ {
		for many := mostEntries + 1; many < 12; many++ {
			if e := batch.Check(slices.Repeat([]api.Entry{entryOf(n, 0)}, many), n); e != api.ErrMany {
				t.Errorf("of %d: %d entries: %d", n, many, e)
			}
		}
		for _, many := range []int{256, 260, 65536, 65537, 65540} {
			if e := batch.Check(make([]api.Entry, many), n); e != api.ErrMany {
				t.Errorf("of %d: %d entries: %d", n, many, e)
			}
		}
	}
}

func TestCheckOfSizes(t *testing.T) {
	for _, n := range badSizes() {
		for _, b := range [][]api.Entry{nil, {}, batchOf(4, 0b1111), batchOf(n, 0b1), make([]api.Entry, 9)} {
			if e := batch.Check(b, n); e != api.ErrArg {
				t.Errorf("of %d, %d entries: %d", n, len(b), e)
			}
		}
	}
}

// P15.1: the order of errors.

// Within an entry: its core's, the mask's, its place's.
func TestCheckInOrderOfOneEntry(t *testing.T) {
	for _, s := range coreSpoilers(4) {
		for set := range 1 << 3 {
			ahead, x := entryOf(4, 1), entryOf(4, 2)
			want := api.OK
			if set&1 != 0 {
				x.Core.Client = ahead.Core.Client
				want = api.ErrTwice
			}
			if set&2 != 0 {
				x.Mask = 16
				want = api.ErrRange
			}
			if set&4 != 0 {
				s.change(&x)
				want = s.want
			}
			if e := batch.Check([]api.Entry{ahead, x}, 4); e != want {
				t.Errorf("%s, the errors %03b: %d, want %d", s.name, set, e, want)
			}
		}
	}
}

// orderSpoilers are one for each error that an entry may have; the last one needs an entry ahead.
func orderSpoilers(n int) []spoiler {
	return []spoiler{
		{"nothing", func(x *api.Entry) {}, api.OK},
		{"core", func(x *api.Entry) { x.Core.Text = strings.Repeat("t", mostText+1) }, api.ErrLong},
		{"mask", func(x *api.Entry) { x.Mask = 1 << n }, api.ErrRange},
		{"twice", func(x *api.Entry) { x.Core.Client = n }, api.ErrTwice},
	}
}

// Of several entries the first one that may not be counts, whatever its error.
func TestCheckEntryByEntry(t *testing.T) {
	for n := 1; n <= mostN; n++ {
		all := orderSpoilers(n)
		for code := range 1 << (2 * mostEntries) {
			b, want := batchOf(n, 0b1111), api.OK
			for at := range b {
				s := all[code>>(2*at)&3]
				s.change(&b[at])
				if want == api.OK && (at > 0 || s.want != api.ErrTwice) {
					want = s.want
				}
			}
			if e := batch.Check(b, n); e != want {
				t.Errorf("of %d, the spoilers %08b: %d, want %d", n, code, e, want)
			}
		}
	}
}

// ErrArg comes ahead of ErrMany, and that ahead of all that entries have.
func TestCheckInOrder(t *testing.T) {
	for _, s := range orderSpoilers(4) {
		b := append(batchOf(4, 0b1111), entryOf(4, 0))
		for at := range b {
			spoilt := with(b, at, s.change)
			if e := batch.Check(spoilt, 4); e != api.ErrMany {
				t.Errorf("%s: %d", s.name, e)
			}
			if e := batch.Check(spoilt, 0); e != api.ErrArg {
				t.Errorf("%s: %d", s.name, e)
			}
			if e := batch.Check(spoilt[at:at+1], 8); e != api.ErrArg {
				t.Errorf("%s: %d", s.name, e)
			}
		}
	}
}

// P15.1: whether batches are the same.

func TestSame(t *testing.T) {
	alike := [][]api.Entry{nil, {}}
	for _, a := range alike {
		for _, b := range alike {
			if !batch.Same(a, b) {
				t.Errorf("%v, %v", a, b)
			}
		}
	}
	for set := range 1 << mostClients {
		for other := range 1 << mostClients {
			if got := batch.Same(batchOf(4, set), batchOf(4, other)); got != (set == other) {
				t.Errorf("the clients %04b, %04b: %v", set, other, got)
			}
		}
	}
}

// otherwise are all the ways in which one entry may differ from another one.
func otherwise() map[string]func(x *api.Entry) {
	return map[string]func(x *api.Entry){
		"Client":       func(x *api.Entry) { x.Core.Client += 4 },
		"Client round": func(x *api.Entry) { x.Core.Client += 256 },
		"Stamp":        func(x *api.Entry) { x.Core.Stamp++ },
		"Op":           func(x *api.Entry) { x.Core.Op++ },
		"Op round":     func(x *api.Entry) { x.Core.Op += 256 },
		"Letter":       func(x *api.Entry) { x.Core.Letter += "b" },
		"A":            func(x *api.Entry) { x.Core.A = -x.Core.A },
		"B":            func(x *api.Entry) { x.Core.B++ },
		"A, B":         func(x *api.Entry) { x.Core.A, x.Core.B = x.Core.B, x.Core.A },
		"Text":         func(x *api.Entry) { x.Core.Text += "\x00" },
		"Mask":         func(x *api.Entry) { x.Mask ^= 2 },
		"Mask round":   func(x *api.Entry) { x.Mask += 256 },
	}
}

func TestSameOfEachField(t *testing.T) {
	for name, change := range otherwise() {
		b := batchOf(4, 0b1111)
		for at := range b {
			c := with(b, at, change)
			if batch.Same(b, c) || batch.Same(c, b) {
				t.Errorf("the entry %d: %s", at, name)
			}
			if !batch.Same(c, slices.Clone(c)) {
				t.Errorf("the entry %d: %s: not as itself", at, name)
			}
		}
	}
}

func TestSameOfRows(t *testing.T) {
	x, y := entryOf(4, 0), entryOf(4, 1)
	for _, c := range []struct {
		a, b []api.Entry
		want bool
	}{
		{[]api.Entry{x, y}, []api.Entry{x, y}, true},
		{[]api.Entry{x, y}, []api.Entry{y, x}, false},
		{[]api.Entry{x, y}, []api.Entry{x}, false},
		{[]api.Entry{x}, []api.Entry{x, y}, false},
		{[]api.Entry{x, x}, []api.Entry{x}, false},
		{[]api.Entry{{}}, nil, false},
		{nil, []api.Entry{{}}, false},
		{[]api.Entry{{}}, []api.Entry{{}}, true},
		{make([]api.Entry, 70000), make([]api.Entry, 70000), true},
		{make([]api.Entry, 65536), nil, false},
	} {
		if got := batch.Same(c.a, c.b); got != c.want {
			t.Errorf("%d and %d entries: %v", len(c.a), len(c.b), got)
		}
	}
}
