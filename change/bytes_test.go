package change_test

import (
	"encoding/binary"
	"math"
	"math/rand"
	"slices"
	"strings"
	"testing"

	"bottomry/api"
	"bottomry/batch"
	"bottomry/change"
)

// bytesOf writes a change's bytes a second way.
func bytesOf(c api.Change) []byte {
	b := binary.BigEndian.AppendUint64(nil, uint64(c.View))
	b = binary.BigEndian.AppendUint64(b, uint64(c.Low))
	b = binary.BigEndian.AppendUint16(b, uint16(len(c.Points)))
	for _, p := range c.Points {
		b = binary.BigEndian.AppendUint64(b, uint64(p.Seq))
		b = append(b, p.Digest[:]...)
	}
	for _, l := range [][]api.Proof{c.Prepared, c.Proposed} {
		b = binary.BigEndian.AppendUint16(b, uint16(len(l)))
		for _, p := range l {
			b = binary.BigEndian.AppendUint64(b, uint64(p.Seq))
			b = binary.BigEndian.AppendUint64(b, uint64(p.View))
			row := batch.Bytes(p.Batch)
			b = binary.BigEndian.AppendUint32(b, uint32(len(row)))
			b = append(b, row...)
		}
	}
	return b
}

// places goes over bytes a second way; beyond their end it is lost.
type places struct {
	b    []byte
	at   int
	lost bool
}

func (p *places) next(n int) []byte {
	if p.lost || n > len(p.b)-p.at {
		p.lost = true
		return make([]byte, min(n, 64))
	}
	p.at += n
	return p.b[p.at-n : p.at]
}

func (p *places) number() int64 { return int64(binary.BigEndian.Uint64(p.next(8))) }
func (p *places) many() int     { return int(binary.BigEndian.Uint16(p.next(2))) }

// changeIn reads a change a second way; false, if none that may be has these bytes.
func changeIn(b []byte, n int) (api.Change, bool) {
	p := &places{b: b}
	c := api.Change{View: p.number(), Low: p.number()}
	for many := p.many(); many > 0 && !p.lost; many-- {
		c.Points = append(c.Points, api.Point{Seq: p.number(), Digest: api.Digest(p.next(32))})
	}
	for _, l := range []*[]api.Proof{&c.Prepared, &c.Proposed} {
		for many := p.many(); many > 0 && !p.lost; many-- {
			x := api.Proof{Seq: p.number(), View: p.number()}
			entries, e := batch.Parse(p.next(int(binary.BigEndian.Uint32(p.next(4)))), n)
			p.lost = p.lost || e != api.OK
			x.Batch = entries
			*l = append(*l, x)
		}
	}
	if p.lost || p.at != len(b) || !mayBe(c, n) {
		return api.Change{}, false
	}
	return c, true
}

// wantParse holds Parse against what it should tell; beside an error there is no change.
func wantParse(t *testing.T, name string, b []byte, n int, want api.Change, wrong api.Errno) {
	t.Helper()
	if got, e := change.Parse(b, n); e != wrong || !alike(got, want) {
		t.Errorf("of %d: %s: %.300v, %d, want %.300v, %d", n, name, got, e, want, wrong)
	}
}

// same holds Parse against the second way, and tells whether a change may be.
func same(t *testing.T, b []byte, n int) bool {
	t.Helper()
	want, may := changeIn(b, n)
	wrong := api.OK
	if !may {
		wrong = api.ErrForm
	}
	if n < 1 || n > mostN {
		want, wrong = api.Change{}, api.ErrArg
	}
	if got, e := change.Parse(b, n); e != wrong || !alike(got, want) {
		t.Fatalf("of %d: %.400x: %v, %d, want %v, %d", n, b, got, e, want, wrong)
	}
	return wrong == api.OK
}

// P18.1: a change's bytes.

func TestBytes(t *testing.T) {
	digest := "abcdefghijklmnopqrstuvwxyz012345"
	of := func(x string) string { return strings.Repeat("\x00", 7) + x }
	none, blank := of("\x00"), strings.Repeat("\x00", 32)
	core := "\x04" + of("\x01") + "\x02" + "\x00\x00\x00\x01a" + none + none + "\x00\x00\x00\x00"
	entry := api.Entry{Core: api.Core{Client: 4, Stamp: 1, Op: 2, Letter: "a"}, Mask: 3}
	for name, x := range map[string]struct {
		change api.Change
		want   string
	}{
		"nothing":  {api.Change{}, none + none + "\x00\x00" + "\x00\x00" + "\x00\x00"},
		"least":    {least0(), of("\x01") + none + "\x00\x01" + none + blank + "\x00\x00" + "\x00\x00"},
		"a point":  {api.Change{View: 258, Low: 8, Points: []api.Point{{Seq: 9, Digest: api.Digest([]byte(digest))}}}, strings.Repeat("\x00", 6) + "\x01\x02" + of("\x08") + "\x00\x01" + of("\x09") + digest + "\x00\x00" + "\x00\x00"},
		"points":   {api.Change{Points: []api.Point{{Seq: 7}, {Seq: 3, Digest: api.Digest([]byte(digest))}}}, none + none + "\x00\x02" + of("\x07") + blank + of("\x03") + digest + "\x00\x00" + "\x00\x00"},
		"prepared": {api.Change{Prepared: []api.Proof{{Seq: 1, View: 2}, {Seq: 3, View: 4, Batch: []api.Entry{entry}}}}, none + none + "\x00\x00" + "\x00\x02" + of("\x01") + of("\x02") + "\x00\x00\x00\x02\x00\x00" + of("\x03") + of("\x04") + "\x00\x00\x00\x2a\x00\x01\x00\x00\x00\x23" + core + "\x03" + "\x00\x00"},
		"proposed": {api.Change{Proposed: []api.Proof{{Seq: 5, View: 6, Batch: []api.Entry{}}}}, none + none + "\x00\x00" + "\x00\x00" + "\x00\x01" + of("\x05") + of("\x06") + "\x00\x00\x00\x02\x00\x00"},
		"round":    {api.Change{View: -1, Low: -2, Points: []api.Point{{Seq: math.MinInt64}}, Prepared: []api.Proof{{Seq: 0x0102030405060708, View: math.MaxInt64}}}, strings.Repeat("\xff", 15) + "\xfe" + "\x00\x01" + "\x80" + of("") + blank + "\x00\x01" + "\x01\x02\x03\x04\x05\x06\x07\x08" + "\x7f" + strings.Repeat("\xff", 7) + "\x00\x00\x00\x02\x00\x00" + "\x00\x00"},
	} {
		if got := string(change.Bytes(x.change)); got != x.want {
			t.Errorf("%s: %x, want %x", name, got, x.want)
		}
	}
	if many := len(change.Bytes(least0())); many != 62 {
		t.Errorf("%d bytes", many)
	}
}

// least0 is the change of the chapter's example.
func least0() api.Change {
	return api.Change{View: 1, Points: []api.Point{{}}}
}

// Numbers, and how many there are, go round, in whatever is told.
func TestBytesOfWhatMayNotBe(t *testing.T) {
	all := otherwise(4)
	for _, x := range around(mostSeq) {
		all = append(all, api.Change{View: x, Low: -x, Points: pointsOf(x, 1, x), Prepared: proofsOf(x, 3, 4, x), Proposed: proofsOf(x, x)})
	}
	for _, many := range []int{5, 9, 65, 255, 256, 65535, 65536, 65538} {
		all = append(all,
			api.Change{Points: make([]api.Point, many)},
			api.Change{Prepared: make([]api.Proof, many)},
			api.Change{Proposed: make([]api.Proof, many)},
			api.Change{Prepared: []api.Proof{{Batch: make([]api.Entry, many)}}})
	}
	for _, b := range wrongBatches(4) {
		all = append(all, api.Change{Prepared: []api.Proof{{Batch: b}, {}}, Proposed: []api.Proof{{}, {Batch: b}}})
	}
	for _, c := range all {
		if !slices.Equal(change.Bytes(c), bytesOf(c)) {
			t.Errorf("%.300v: %.300x", c, change.Bytes(c))
		}
	}
}

// P18.2: what may be is parsed out of its bytes as it was.

func TestParse(t *testing.T) {
	for n := 1; n <= mostN; n++ {
		for _, c := range []api.Change{least(), least0(), some(n), most(n)} {
			wantParse(t, "as it is", change.Bytes(c), n, c, api.OK)
		}
		for _, c := range otherwise(n) {
			if mayBe(c, n) {
				wantParse(t, "otherwise", change.Bytes(c), n, c, api.OK)
			} else {
				wantParse(t, "otherwise", change.Bytes(c), n, api.Change{}, api.ErrForm)
			}
		}
	}
}

func TestParseOfLongBatches(t *testing.T) {
	for n := 1; n <= mostN; n++ {
		c := most(n)
		for _, l := range [][]api.Proof{c.Prepared, c.Proposed} {
			for i := range l {
				for j := range l[i].Batch {
					x := &l[i].Batch[j]
					x.Core.Stamp, x.Core.Op, x.Core.A, x.Core.B = mostStamp, 9, math.MinInt64, math.MaxInt64
					x.Core.Letter, x.Core.Text = strings.Repeat("z", 16), strings.Repeat("\x00\xff", 100)
					x.Mask = 1<<n - 1
				}
			}
		}
		wantParse(t, "long", change.Bytes(c), n, c, api.OK)
	}
}

// P18.1: ErrArg comes ahead of ErrForm.
func TestParseOfSizes(t *testing.T) {
	for _, n := range badSizes() {
		for _, b := range [][]byte{nil, []byte("x"), change.Bytes(least()), change.Bytes(some(4)), change.Bytes(api.Change{}), make([]byte, 100)} {
			wantParse(t, "a size", b, n, api.Change{}, api.ErrArg)
		}
	}
}

func TestParseOfNoForm(t *testing.T) {
	for _, c := range []api.Change{least(), some(4), most(4)} {
		b := change.Bytes(c)
		for at := range b {
			if at < 2000 || at > len(b)-2000 {
				wantParse(t, "cut", b[:at], 4, api.Change{}, api.ErrForm)
			}
		}
		for _, more := range []string{"\x00", "\x00\x00", "x", strings.Repeat("\x00", 40), string(change.Bytes(least())), string(b)} {
			wantParse(t, "with more", append(slices.Clone(b), more...), 4, api.Change{}, api.ErrForm)
		}
	}
	for _, b := range []string{"", "x", strings.Repeat("\x00", 22), strings.Repeat("\x00", 62), strings.Repeat("\xff", 18), strings.Repeat("\xff", 62), strings.Repeat("\x01", 1000)} {
		wantParse(t, "none", []byte(b), 4, api.Change{}, api.ErrForm)
	}
}

// Of each row another length is told than it has, up to the longest one that may be told.
func TestParseOfHowMany(t *testing.T) {
	for many := range 4 {
		c := some(4)
		c.Points, c.Prepared, c.Proposed = pointsOf(8, 12, 16, 20)[:1+many], c.Prepared[:many], c.Proposed[:many]
		b := change.Bytes(c)
		prepared := 18 + 40*len(c.Points)
		proposed := prepared + len(bytesOf(api.Change{Prepared: c.Prepared})) - 20
		for _, at := range []int{16, prepared, proposed} {
			was := binary.BigEndian.Uint16(b[at:])
			for _, told := range []uint16{0, 1, 2, 3, 4, 5, 8, 9, 64, 65, 255, 256, 257, 32768, 65535} {
				spoilt := slices.Clone(b)
				binary.BigEndian.PutUint16(spoilt[at:], told)
				if may := same(t, spoilt, 4); may != (told == was) {
					t.Errorf("%d of each: %d told in place of %d: %v", many, told, was, may)
				}
			}
		}
	}
}

// Of a batch's row another length is told than it has.
func TestParseOfRowsOfAnotherLength(t *testing.T) {
	c := some(4)
	b := change.Bytes(c)
	first := 18 + 40*len(c.Points) + 2 + 16
	last := len(b) - len(batch.Bytes(c.Proposed[3].Batch)) - 4
	for _, at := range []int{first, last} {
		was := binary.BigEndian.Uint32(b[at:])
		for _, told := range []uint32{0, 1, 2, was - 1, was + 1, was + 256, 1 << 16, 1 << 20, 1<<20 + 1, 1<<31 - 1, 1 << 31, math.MaxUint32} {
			spoilt := slices.Clone(b)
			binary.BigEndian.PutUint32(spoilt[at:], told)
			wantParse(t, "another length", spoilt, 4, api.Change{}, api.ErrForm)
		}
	}
}

// A row that isn't the bytes of a batch that may be is ErrForm, whatever is wrong with it, and whatever stands around it.
func TestParseOfNoBatch(t *testing.T) {
	fine := string(batch.Bytes(batchOf(4, 0b11)))
	rows := []string{"", "\x00", "\x00\x00\x00", "\x00\x01", "x", fine[:len(fine)-1], fine + "\x00", strings.Repeat("\xff", 300), "\x00\x05", "\xff\xff"}
	for _, l := range wrongBatches(4) {
		rows = append(rows, string(batch.Bytes(l)))
	}
	null, around := "\x00\x00", bytesOf(api.Change{View: 1, Points: pointsOf(0)})
	proof := func(seq byte, row string) string {
		numbers := string([]byte{7: seq, 15: 0})
		return numbers + string(binary.BigEndian.AppendUint32(nil, uint32(len(row)))) + row
	}
	for _, row := range append(rows, null, fine) {
		wrong := api.ErrForm
		if row == null || row == fine {
			wrong = api.OK
		}
		for at := range 3 {
			l := []string{null, null, null}
			l[at] = row
			proofs := "\x00\x03" + proof(1, l[0]) + proof(2, l[1]) + proof(3, l[2])
			for _, rest := range []string{proofs + "\x00\x00", "\x00\x00" + proofs, proofs + "\x00\x01" + proof(1, null), "\x00\x01" + proof(1, null) + proofs} {
				b := string(around[:len(around)-4]) + rest
				if _, e := change.Parse([]byte(b), 4); e != wrong {
					t.Errorf("%q, at %d: %d, want %d", row, at, e, wrong)
				}
				same(t, []byte(b), 4)
			}
		}
	}
}

// P18.1: each byte changed to each other one, against the second way.
func TestParseOfEachByteChanged(t *testing.T) {
	small := api.Change{View: 3, Low: 4, Points: pointsOf(4, 8), Prepared: proofsOf(5, 1, 12, 2), Proposed: proofsOf(5, 0, 5, 1, 12, 2)}
	for _, x := range []struct {
		n      int
		change api.Change
	}{{1, least()}, {7, least()}, {1, small}, {4, small}, {7, small}, {4, some(4)}} {
		b := change.Bytes(x.change)
		for at := range b {
			was := b[at]
			for other := range 256 {
				b[at] = byte(other)
				same(t, b, x.n)
			}
			b[at] = was
		}
	}
}

// P18.1, P18.2: thousands of changes' bytes, spoilt, against the second way.
func TestManyChangesBytes(t *testing.T) {
	r := rand.New(rand.NewSource(1801))
	fine := 0
	for range 10000 {
		n := 1 + r.Intn(mostN)
		c := anyChange(r, n)
		b := change.Bytes(c)
		if !slices.Equal(b, bytesOf(c)) {
			t.Fatalf("%v has the bytes %x", c, b)
		}
		same(t, b, n)
		same(t, b, n+r.Intn(5)-2)
		if same(t, spoilBytes(r, b), n) {
			fine++
		}
	}
	if fine < 500 {
		t.Errorf("just %d of the spoilt ones may be", fine)
	}
}

func spoilBytes(r *rand.Rand, b []byte) []byte {
	b = slices.Clone(b)
	for range 1 + r.Intn(2) {
		at := r.Intn(len(b))
		switch r.Intn(6) {
		case 0:
			b = slices.Delete(b, at, at+1)
		case 1:
			b = slices.Insert(b, at, byte(r.Intn(256)))
		case 2:
			b = b[:at+1]
		default:
			b[at] ^= 1 << r.Intn(8)
		}
	}
	return b
}

// P18.1: what is handed in stays, and answers are memory of their own.
func TestMemory(t *testing.T) {
	c := some(4)
	b := bytesOf(c)
	whole := append(make([]byte, 0, 2*len(b)), b...)
	got, _ := change.Parse(whole, 4)
	if !slices.Equal(whole, b) || slices.Max(whole[:cap(whole)][len(b):]) != 0 {
		t.Error("the bytes were changed")
	}
	clear(whole)
	if !alike(got, c) {
		t.Errorf("the change changed with the bytes: %v", got)
	}
	first, _ := change.Parse(b, 4)
	second, _ := change.Parse(b, 4)
	spill(first)
	if !alike(second, c) {
		t.Errorf("a change is shared: %v", second)
	}
	one, other := change.Bytes(c), change.Bytes(c)
	clear(one[:cap(one)])
	if !slices.Equal(other, b) || !alike(c, some(4)) {
		t.Error("a change's bytes are shared")
	}
}

// No two lists of one answer share memory.
func TestMemoryOfOneChange(t *testing.T) {
	c := most(4)
	for i := range window {
		got, _ := change.Parse(change.Bytes(c), 4)
		spillProof(&got.Prepared[i])
		want := most(4)
		want.Prepared[i] = got.Prepared[i]
		if !alike(got, want) {
			t.Errorf("the batch %d is another one's too", i)
		}
	}
	got, _ := change.Parse(change.Bytes(c), 4)
	_ = append(got.Prepared, api.Proof{Seq: -1})
	clear(got.Prepared[:cap(got.Prepared)])
	if want := most(4); !alike(api.Change{Points: got.Points, Proposed: got.Proposed}, api.Change{Points: want.Points, Proposed: want.Proposed}) {
		t.Error("rows are shared")
	}
}

// spill writes over all that a change has.
func spill(c api.Change) {
	clear(c.Points[:cap(c.Points)])
	for _, l := range [][]api.Proof{c.Prepared, c.Proposed} {
		for i := range l {
			spillProof(&l[i])
		}
		clear(l[:cap(l)])
	}
}

// spillProof writes over a proof's batch, and the room behind it.
func spillProof(p *api.Proof) {
	all := p.Batch[:cap(p.Batch)]
	for i := range all {
		all[i] = api.Entry{Mask: 99}
	}
}

// P5: no bytes make a call panic; what is parsed may be, and has just these bytes.
func FuzzParse(f *testing.F) {
	f.Add(bytesOf(least()), 1)
	f.Add(bytesOf(some(4)), 4)
	f.Add(bytesOf(some(7)), 7)
	f.Add(slices.Repeat([]byte{0xff}, 80), 4)
	f.Add([]byte(nil), 0)
	f.Fuzz(func(t *testing.T, b []byte, n int) {
		if !same(t, b, n) {
			return
		}
		if c, _ := change.Parse(b, n); !slices.Equal(change.Bytes(c), b) || change.Check(c, n) != api.OK {
			t.Errorf("%x is read as %v", b, c)
		}
	})
}
