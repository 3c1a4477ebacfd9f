package batch_test

import (
	"encoding/binary"
	"math"
	"math/rand"
	"slices"
	"strings"
	"testing"

	"bottomry/api"
	"bottomry/batch"
	"bottomry/request"
)

// bytesOf writes a batch's bytes a second way, of a batch of fewer than 2^16 entries.
func bytesOf(l []api.Entry) []byte {
	b := binary.BigEndian.AppendUint16(nil, uint16(len(l)))
	for _, x := range l {
		core := request.CoreBytes(x.Core)
		b = binary.BigEndian.AppendUint32(b, uint32(len(core)))
		b = append(b, core...)
		b = append(b, byte(x.Mask))
	}
	return b
}

func entry(c api.Core, mask uint32) api.Entry {
	return api.Entry{Core: c, Mask: mask}
}

// rowsOf cuts bytes a second way into the rows of cores and their masks; false, if they are of no form.
func rowsOf(b []byte) (rows [][]byte, masks []uint32, ok bool) {
	if len(b) < 2 {
		return nil, nil, false
	}
	many, b := int(b[0])<<8|int(b[1]), b[2:]
	for range many {
		if len(b) < 4 {
			return nil, nil, false
		}
		long := int(binary.BigEndian.Uint32(b))
		b = b[4:]
		if len(b) < long+1 {
			return nil, nil, false
		}
		rows, masks, b = append(rows, b[:long]), append(masks, uint32(b[long])), b[long+1:]
	}
	return rows, masks, len(b) == 0
}

// batchIn reads a batch a second way: first the form of all of it, then what counts too much, then the entries.
func batchIn(b []byte, n int) ([]api.Entry, api.Errno) {
	rows, masks, ok := rowsOf(b)
	if !ok {
		return nil, api.ErrForm
	}
	for _, row := range rows {
		if _, e := request.ParseCore(row, n); e == api.ErrForm {
			return nil, api.ErrForm
		}
	}
	if n < 1 || n > mostN {
		return nil, api.ErrArg
	}
	if len(rows) > mostEntries {
		return nil, api.ErrMany
	}
	var l []api.Entry
	last := -1
	for i, row := range rows {
		c, e := request.ParseCore(row, n)
		if e != api.OK {
			return nil, e
		}
		if masks[i]>>n != 0 {
			return nil, api.ErrRange
		}
		if c.Client <= last {
			return nil, api.ErrTwice
		}
		last = c.Client
		l = append(l, api.Entry{Core: c, Mask: masks[i]})
	}
	return l, api.OK
}

// wantParse holds Parse against what it should tell; beside an error there is no batch.
func wantParse(t *testing.T, name string, b []byte, n int, want []api.Entry, wrong api.Errno) {
	t.Helper()
	got, e := batch.Parse(b, n)
	if e != wrong || !slices.Equal(got, want) {
		t.Errorf("of %d: %s: %v, %d, want %v, %d", n, name, got, e, want, wrong)
	}
}

// same holds Parse against the second way.
func same(t *testing.T, b []byte, n int) {
	t.Helper()
	want, wrong := batchIn(b, n)
	if got, e := batch.Parse(b, n); e != wrong || !slices.Equal(got, want) {
		t.Errorf("of %d: %q: %v, %d, want %v, %d", n, b, got, e, want, wrong)
	}
}

// P15.1: a batch's bytes.

func TestBytes(t *testing.T) {
	none, letter := "\x00\x00\x00\x00\x00\x00\x00\x00", "\x00\x00\x00\x01a"
	nothing := "\x00\x00\x00\x22" + strings.Repeat("\x00", 34)
	first := api.Core{Client: 4, Stamp: 1, Op: 2, Letter: "a"}
	row := "\x00\x00\x00\x23" + "\x04" + "\x00\x00\x00\x00\x00\x00\x00\x01" + "\x02" + letter + none + none + "\x00\x00\x00\x00"
	second := api.Core{Client: 5, Stamp: 0x0102030405, Op: 9, Letter: "b-1", A: 258, B: -2, Text: "xyz\xff"}
	other := "\x00\x00\x00\x29" + "\x05" + "\x00\x00\x00\x01\x02\x03\x04\x05" + "\x09" + "\x00\x00\x00\x03b-1" + "\x00\x00\x00\x00\x00\x00\x01\x02" + "\xff\xff\xff\xff\xff\xff\xff\xfe" + "\x00\x00\x00\x04xyz\xff"
	for name, x := range map[string]struct {
		batch []api.Entry
		want  string
	}{
		"null":      {nil, "\x00\x00"},
		"empty":     {[]api.Entry{}, "\x00\x00"},
		"one":       {[]api.Entry{entry(first, 3)}, "\x00\x01" + row + "\x03"},
		"two":       {[]api.Entry{entry(first, 0), entry(second, 0x7f)}, "\x00\x02" + row + "\x00" + other + "\x7f"},
		"falling":   {[]api.Entry{entry(second, 1), entry(first, 2)}, "\x00\x02" + other + "\x01" + row + "\x02"},
		"twice":     {[]api.Entry{entry(first, 5), entry(first, 5)}, "\x00\x02" + row + "\x05" + row + "\x05"},
		"mask 255":  {[]api.Entry{entry(first, 255)}, "\x00\x01" + row + "\xff"},
		"round":     {[]api.Entry{entry(first, 256+7), entry(first, math.MaxUint32), entry(first, 1<<31)}, "\x00\x03" + row + "\x07" + row + "\xff" + row + "\x00"},
		"nothing":   {make([]api.Entry, 3), "\x00\x03" + strings.Repeat(nothing+"\x00", 3)},
		"many":      {make([]api.Entry, 258), "\x01\x02" + strings.Repeat(nothing+"\x00", 258)},
		"as may go": {make([]api.Entry, 65535), "\xff\xff" + strings.Repeat(nothing+"\x00", 65535)},
		"go round":  {make([]api.Entry, 65538), "\x00\x02" + strings.Repeat(nothing+"\x00", 65538)},
	} {
		if got := string(batch.Bytes(x.batch)); got != x.want {
			t.Errorf("%s: %d bytes %.99q, want %d, %.99q", name, len(got), got, len(x.want), x.want)
		}
	}
}

// The bytes of a core that may not be are layer 12's too.
func TestBytesOfAnyCore(t *testing.T) {
	for name, c := range map[string]api.Core{
		"round": {Client: 256 + 4, Stamp: -1, Op: 512 + 9, Letter: "No name\n", A: math.MinInt64, B: math.MaxInt64},
		"least": {Client: math.MinInt, Stamp: math.MinInt64, Op: math.MinInt},
		"long":  {Letter: strings.Repeat("x", 1<<16), Text: strings.Repeat("y", 1<<17)},
	} {
		l := []api.Entry{entry(c, 1), entry(c, 2)}
		if got := batch.Bytes(l); !slices.Equal(got, bytesOf(l)) {
			t.Errorf("%s: %.99q", name, got)
		}
	}
}

// P15.1, P15.2: what may be is parsed out of its bytes as it was.

func TestParse(t *testing.T) {
	for n := 1; n <= mostN; n++ {
		for set := range 1 << mostClients {
			b := batchOf(n, set)
			wantParse(t, "as it is", batch.Bytes(b), n, b, api.OK)
			for at := range b {
				for mask := range uint32(1) << n {
					c := with(b, at, func(x *api.Entry) { x.Mask = mask })
					wantParse(t, "masks", batch.Bytes(c), n, c, api.OK)
				}
				c := with(b, at, func(x *api.Entry) {
					x.Core.Stamp, x.Core.Op, x.Core.Letter = mostStamp, 9, strings.Repeat("z", mostName)
					x.Core.A, x.Core.B, x.Core.Text = math.MinInt64, math.MaxInt64, strings.Repeat("\x00\xff", mostText/2)
				})
				wantParse(t, "edges", batch.Bytes(c), n, c, api.OK)
			}
		}
	}
}

// What has a batch's form but may not be has Check's error.
func TestParseTellsChecksError(t *testing.T) {
	for n := 1; n <= mostN; n++ {
		b := batchOf(n, 0b1111)
		for at := range b {
			for _, s := range coreSpoilers(n) {
				wantParse(t, s.name, batch.Bytes(with(b, at, s.change)), n, nil, s.want)
			}
			for mask := uint32(1) << n; mask < 256; mask++ {
				wantParse(t, "a mask", batch.Bytes(with(b, at, func(x *api.Entry) { x.Mask = mask })), n, nil, api.ErrRange)
			}
			if at > 0 {
				wantParse(t, "a client twice", batch.Bytes(with(b, at, func(x *api.Entry) { x.Core.Client = n + at - 1 })), n, nil, api.ErrTwice)
			}
		}
		wantParse(t, "two that fall", batch.Bytes([]api.Entry{b[1], b[0]}), n, nil, api.ErrTwice)
	}
}

// Of a batch whose numbers don't go round in its bytes Parse tells what Check does: all spoilers at all places.
func TestParseAsCheck(t *testing.T) {
	for n := 1; n <= mostN; n++ {
		all := orderSpoilers(n)
		for code := range 1 << (2 * mostEntries) {
			b := batchOf(n, 0b1111)
			for at := range b {
				all[code>>(2*at)&3].change(&b[at])
			}
			want := b
			if batch.Check(b, n) != api.OK {
				want = nil
			}
			wantParse(t, "spoilers", batch.Bytes(b), n, want, batch.Check(b, n))
			wantParse(t, "too many", batch.Bytes(append(b, b[0])), n, nil, api.ErrMany)
		}
	}
}

func TestParseOfTooMany(t *testing.T) {
	for n := 1; n <= mostN; n++ {
		for _, many := range []int{5, 6, 8, 16, 255, 256, 257, 65535} {
			wantParse(t, "alike", batch.Bytes(slices.Repeat([]api.Entry{entryOf(n, 0)}, many)), n, nil, api.ErrMany)
			wantParse(t, "nothing", batch.Bytes(make([]api.Entry, many)), n, nil, api.ErrMany)
		}
		// How many there are goes round in the bytes: it is held against what follows.
		for _, many := range []int{65536, 65537, 65540} {
			wantParse(t, "round", batch.Bytes(make([]api.Entry, many)), n, nil, api.ErrForm)
		}
	}
}

func TestParseOfSizes(t *testing.T) {
	for _, n := range badSizes() {
		for _, b := range [][]api.Entry{nil, batchOf(4, 0b1111), make([]api.Entry, 1), make([]api.Entry, 5)} {
			wantParse(t, "of form", batch.Bytes(b), n, nil, api.ErrArg)
			all := batch.Bytes(b)
			wantParse(t, "cut", all[:len(all)-1], n, nil, api.ErrForm)
			wantParse(t, "with more", append(all, 0), n, nil, api.ErrForm)
		}
		for _, b := range []string{"", "\x00", "\x00\x01", "\xff\xff", "\x00\x01\x00\x00\x00\x00\x01"} {
			wantParse(t, "of no form", []byte(b), n, nil, api.ErrForm)
		}
	}
}

// P15.1: ErrForm comes ahead of all that Check tells, wherever the form is broken.
func TestParseOfNoForm(t *testing.T) {
	batches := [][]api.Entry{nil, batchOf(4, 0b1), batchOf(4, 0b1111), make([]api.Entry, 2), slices.Repeat(batchOf(4, 0b1), 6)}
	for _, s := range orderSpoilers(4) {
		batches = append(batches, with(batchOf(4, 0b111), 0, s.change), with(batchOf(4, 0b111), 2, s.change))
	}
	for _, l := range batches {
		b := batch.Bytes(l)
		for at := range b {
			wantParse(t, "cut", b[:at], 4, nil, api.ErrForm)
		}
		for _, more := range []string{"\x00", "\x00\x00", "x", string(b), string(bytesOf(batchOf(4, 1))[2:])} {
			wantParse(t, "with more", append(slices.Clone(b), more...), 4, nil, api.ErrForm)
		}
	}
}

// A row that isn't a core's bytes is ErrForm, though what stands around it has its form, may be or not.
func TestParseOfNoCore(t *testing.T) {
	core := request.CoreBytes(entryOf(4, 0).Core)
	for _, row := range []string{"", "x", string(core[:len(core)-1]), string(core) + "x", strings.Repeat("\xff", 300)} {
		for _, s := range orderSpoilers(4) {
			for at := range mostEntries + 3 {
				b := []byte{0, mostEntries + 3}
				for i := range mostEntries + 3 {
					x := entryOf(4, i%mostClients)
					s.change(&x)
					here := request.CoreBytes(x.Core)
					if i == at {
						here = []byte(row)
					}
					b = binary.BigEndian.AppendUint32(b, uint32(len(here)))
					b = append(append(b, here...), byte(x.Mask))
				}
				wantParse(t, "a row of no core", b, 4, nil, api.ErrForm)
			}
		}
	}
}

func TestParseOfRowsBeyondTheEnd(t *testing.T) {
	b := batch.Bytes(batchOf(4, 0b11))
	second := 2 + (len(b)-2)/2
	for _, long := range []string{"\x00\x00\x00\x00", "\x00\x00\x00\x2e", "\x00\x00\x00\x30", "\x00\x00\xff\xff", "\x7f\xff\xff\xff", "\x80\x00\x00\x00", "\xff\xff\xff\xff"} {
		for _, at := range []int{2, second} {
			wantParse(t, long, slices.Concat(b[:at], []byte(long), b[at+4:]), 4, nil, api.ErrForm)
		}
	}
}

// P15.1: each byte changed to each other one, against the second way.
func TestParseOfEachByteChanged(t *testing.T) {
	for _, n := range []int{1, 4, 7} {
		b := batch.Bytes(batchOf(n, 0b101))
		for at := range b {
			for x := range 256 {
				changed := slices.Clone(b)
				changed[at] = byte(x)
				same(t, changed, n)
			}
		}
	}
}

// P15.1, P15.2: thousands of batches, those that may not be as well, and their bytes spoilt.
func TestManyBatches(t *testing.T) {
	r := rand.New(rand.NewSource(15))
	fine := 0
	for range 20000 {
		n := 1 + r.Intn(mostN)
		l := anyBatch(r, n)
		b := batch.Bytes(l)
		if !slices.Equal(b, bytesOf(l)) {
			t.Fatalf("%v has the bytes %q", l, b)
		}
		if batch.Check(l, n) == api.OK {
			fine++
			wantParse(t, "as it was", b, n, l, api.OK)
		}
		same(t, b, n)
		same(t, b, n+r.Intn(3)-1)
		same(t, spoil(r, b), n)
	}
	if fine < 5000 {
		t.Errorf("just %d may be", fine)
	}
}

func pick[T any](r *rand.Rand, l ...T) T {
	return l[r.Intn(len(l))]
}

// anyBatch is mostly one that may be.
func anyBatch(r *rand.Rand, n int) []api.Entry {
	b := batchOf(n, r.Intn(1<<mostClients))
	for at := range b {
		b[at].Core.Stamp = 1 + r.Int63n(mostStamp)
		b[at].Core.Op = 1 + r.Intn(9)
		b[at].Core.Letter = pick(r, "a", "b-1", "zzzzzzzzzzzzzzzz", "0")
		b[at].Core.A, b[at].Core.B = int64(r.Uint64()), int64(r.Uint64())
		b[at].Core.Text = strings.Repeat("t", r.Intn(mostText+1))
		b[at].Mask = uint32(r.Intn(1 << n))
	}
	for range r.Intn(3) {
		if len(b) == 0 || r.Intn(3) > 0 {
			continue
		}
		at := r.Intn(len(b))
		pick(r,
			func() { pick(r, coreSpoilers(n)[:12]...).change(&b[at]) },
			func() { b[at].Mask = pick(r, wrongMasks(n)...) },
			func() { b = slices.Insert(b, at, b[r.Intn(len(b))]) },
			func() { slices.Reverse(b) },
			func() { b = append(b, b...) },
		)()
	}
	return b
}

func spoil(r *rand.Rand, b []byte) []byte {
	b = slices.Clone(b)
	for range 1 + r.Intn(2) {
		at := r.Intn(len(b))
		switch r.Intn(4) {
		case 0:
			b[at] ^= 1 << r.Intn(8)
		case 1:
			b = append(slices.Delete(b, at, at+1), 0)
		case 2:
			b = slices.Insert(b, at, byte(r.Intn(256)))
		default:
			b = b[:at+1]
		}
	}
	return b
}

// P15.1: what is handed in stays, and answers are memory of their own.
func TestMemory(t *testing.T) {
	l := batchOf(4, 0b1111)
	wide := append(make([]api.Entry, 0, 9), l...)
	b := batch.Bytes(wide)
	batch.Check(wide, 4)
	batch.Same(wide, l)
	if !slices.Equal(wide, l) || !slices.Equal(wide[:9][4:], make([]api.Entry, 5)) {
		t.Errorf("the batch was changed: %v", wide[:9])
	}
	whole := append(make([]byte, 0, 1000), b...)
	got, _ := batch.Parse(whole, 4)
	if !slices.Equal(whole, b) {
		t.Error("the bytes were changed")
	}
	clear(whole)
	if !slices.Equal(got, l) {
		t.Errorf("the batch changed with the bytes: %v", got)
	}
	one, other := batch.Bytes(l), batch.Bytes(l)
	_ = append(one, "abc"...)
	clear(one)
	if !slices.Equal(other, b) {
		t.Error("a batch's bytes are shared")
	}
	first, _ := batch.Parse(b, 4)
	second, _ := batch.Parse(b, 4)
	clear(first[:cap(first)])
	if !slices.Equal(second, l) || !slices.Equal(b, bytesOf(l)) {
		t.Error("a batch is shared")
	}
}

// P5: no bytes make a call panic; what is parsed may be, and has just these bytes.
func FuzzParse(f *testing.F) {
	f.Add(bytesOf(batchOf(4, 0b1011)), 4)
	f.Add(bytesOf(batchOf(1, 0b1)), 1)
	f.Add(bytesOf(make([]api.Entry, 5)), 7)
	f.Add([]byte("\xff\xff\xff\xff\xff\xff"), 0)
	f.Fuzz(func(t *testing.T, b []byte, n int) {
		same(t, b, n)
		if l, e := batch.Parse(b, n); e == api.OK && (!slices.Equal(batch.Bytes(l), b) || batch.Check(l, n) != api.OK) {
			t.Errorf("%q is read as %v", b, l)
		}
	})
}
