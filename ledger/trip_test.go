package ledger_test

import (
	"bytes"
	"encoding/binary"
	"math/rand"
	"slices"
	"strings"
	"testing"

	"bottomry/api"
	"bottomry/ledger"
)

// bytesOf is the second way: a ledger's bytes as the chapter lists them, by the library's numbers.
func bytesOf(l api.Ledger) []byte {
	row := func(b []byte, s string) []byte {
		return append(binary.BigEndian.AppendUint32(b, uint32(len(s))), s...)
	}
	b := binary.BigEndian.AppendUint64(nil, uint64(l.Seq))
	b = binary.BigEndian.AppendUint64(b, uint64(l.Total))
	b = binary.BigEndian.AppendUint16(b, uint16(len(l.Letters)))
	for _, x := range l.Letters {
		b = append(row(b, x.Name), byte(x.State))
		b = binary.BigEndian.AppendUint64(b, uint64(x.Amount))
		b = binary.BigEndian.AppendUint64(b, uint64(x.Due))
		b = row(row(b, x.Policy), x.Papers)
	}
	b = binary.BigEndian.AppendUint16(b, uint16(len(l.Last)))
	for _, o := range l.Last {
		b = append(b, byte(o.Client))
		b = binary.BigEndian.AppendUint64(b, uint64(o.Stamp))
		b = append(b, byte(o.Result))
	}
	return b
}

// P11.1: bytes.

func TestBytes(t *testing.T) {
	l := api.Ledger{Seq: 258, Total: 1 << 40, Letters: []api.Letter{{Name: "a-", State: 7, Amount: 5, Due: 772, Policy: "0", Papers: "é"}}, Last: []api.Outcome{{Client: 63, Stamp: 513, Result: 99}}}
	want := "\x00\x00\x00\x00\x00\x00\x01\x02" + "\x00\x00\x01\x00\x00\x00\x00\x00" +
		"\x00\x01" + "\x00\x00\x00\x02a-" + "\x07" + "\x00\x00\x00\x00\x00\x00\x00\x05" + "\x00\x00\x00\x00\x00\x00\x03\x04" + "\x00\x00\x00\x010" + "\x00\x00\x00\x02\xc3\xa9" +
		"\x00\x01" + "\x3f" + "\x00\x00\x00\x00\x00\x00\x02\x01" + "\x63"
	if got := ledger.Bytes(l); string(got) != want {
		t.Errorf("%q", got)
	}
	if got, e := ledger.Parse([]byte(want)); e != api.OK || !alike(got, l) {
		t.Error(got, e)
	}
}

func TestBytesOfAnEmptyLedger(t *testing.T) {
	b := ledger.Bytes(api.Ledger{})
	if len(b) != 20 || !bytes.Equal(b, make([]byte, 20)) {
		t.Error(b)
	}
	if l, e := ledger.Parse(b); e != api.OK || !isNothing(l) {
		t.Error(l, e)
	}
}

func TestBytesOfLedgersThatMayNotBe(t *testing.T) {
	for name, l := range ledgersThatMayNotBe() {
		if got := ledger.Bytes(l); len(got) != 0 {
			t.Errorf("%s: %q", name, got)
		}
	}
}

// P11.1 and P11.2: there is no way but Bytes to make bytes that are parsed.

func TestParseOfLedgersThatMayNotBe(t *testing.T) {
	for name, l := range ledgersThatMayNotBe() {
		b := bytesOf(l)
		got, e := ledger.Parse(b)
		if e == api.OK {
			// A number that is wider than its bytes is another one there.
			if !bytes.Equal(bytesOf(got), b) || ledger.Check(got) != api.OK || alike(got, l) {
				t.Errorf("%s: %v", name, got)
			}
			continue
		}
		if e != api.ErrForm || !isNothing(got) {
			t.Errorf("%s: %v, %d", name, got, e)
		}
	}
}

func TestParseOfNoForm(t *testing.T) {
	some := string(ledger.Bytes(full()))
	one := string(bytesOf(api.Ledger{Letters: lettersOf("a")}))
	for name, b := range map[string]string{
		"nothing":                    "",
		"a byte":                     "\x00",
		"19 bytes":                   strings.Repeat("\x00", 19),
		"21 bytes":                   strings.Repeat("\x00", 21),
		"a byte behind":              some + "\x00",
		"a ledger behind":            some + some,
		"a byte ahead":               "\x00" + some,
		"all bits":                   strings.Repeat("\xff", 20),
		"far too long":               strings.Repeat("\x00", 1<<20),
		"Seq below 0":                "\xff\xff\xff\xff\xff\xff\xff\xff" + strings.Repeat("\x00", 12),
		"Seq's sign alone":           "\x80" + strings.Repeat("\x00", 19),
		"Seq beyond":                 "\x00\x00\x00\x00\x00\x10\x00\x01" + strings.Repeat("\x00", 12),
		"Total's sign alone":         strings.Repeat("\x00", 8) + "\x80" + strings.Repeat("\x00", 11),
		"Total beyond":               strings.Repeat("\x00", 8) + "\x00\x00\x01\x00\x00\x00\x00\x01" + strings.Repeat("\x00", 4),
		"letters that aren't there":  strings.Repeat("\x00", 17) + "\x01\x00\x00",
		"so many that aren't there":  strings.Repeat("\x00", 16) + "\xff\xff\x00\x00",
		"outcomes that aren't there": strings.Repeat("\x00", 19) + "\x01",
		"so many outcomes":           strings.Repeat("\x00", 18) + "\xff\xff",
		"a name that ends nowhere":   strings.Repeat("\x00", 17) + "\x01\xff\xff\xff\xffa",
		"a name's length, cut":       strings.Repeat("\x00", 17) + "\x01\x00\x00",
		"a great name":               strings.Replace(one, "\x01a", "\x01A", 1),
		"an empty name":              strings.Replace(one, "\x00\x00\x00\x01a", "\x00\x00\x00\x00", 1),
		"state 0":                    strings.Replace(one, "a\x02", "a\x00", 1),
		"state 8":                    strings.Replace(one, "a\x02", "a\x08", 1),
	} {
		if got, e := ledger.Parse([]byte(b)); e != api.ErrForm || !isNothing(got) {
			t.Errorf("%s: %v, %d", name, got, e)
		}
	}
	if got, e := ledger.Parse(nil); e != api.ErrForm || !isNothing(got) {
		t.Error(got, e)
	}
}

func TestEachCut(t *testing.T) {
	b := ledger.Bytes(full())
	for n := range len(b) {
		if got, e := ledger.Parse(b[:n]); e != api.ErrForm || !isNothing(got) {
			t.Errorf("of %d bytes: %v, %d", n, got, e)
		}
		if got, e := ledger.Parse(b[n+1:]); e != api.ErrForm || !isNothing(got) {
			t.Errorf("without %d bytes: %v, %d", n+1, got, e)
		}
	}
}

// Whatever is parsed has just these bytes.
func TestEachByteChanged(t *testing.T) {
	b := ledger.Bytes(full())
	parsed := 0
	for i := range b {
		for v := range 256 {
			text := bytes.Clone(b)
			text[i] = byte(v)
			if wantSound(t, text) {
				parsed++
			}
		}
	}
	if parsed < len(b) {
		t.Error("just", parsed, "are parsed")
	}
}

// wantSound wants what is parsed to have these bytes, and tells whether there is any.
func wantSound(t *testing.T, b []byte) bool {
	t.Helper()
	l, e := ledger.Parse(b)
	if e == api.OK {
		if ledger.Check(l) != api.OK || !bytes.Equal(ledger.Bytes(l), b) || !bytes.Equal(bytesOf(l), b) {
			t.Fatalf("Parse(%q) = %v", b, l)
		}
		return true
	}
	if e != api.ErrForm || !isNothing(l) {
		t.Fatalf("Parse(%q) = %v, %d", b, l, e)
	}
	return false
}

// P11.2: what may be comes back, and unlike ones have unlike bytes.

func TestLedgersThatMayBeComeBack(t *testing.T) {
	seen := map[string]api.Ledger{}
	for name, l := range ledgersThatMayBe() {
		wantBack(t, name, l, seen)
	}
}

func wantBack(t *testing.T, name string, l api.Ledger, seen map[string]api.Ledger) {
	t.Helper()
	before := copyOf(l)
	b := ledger.Bytes(l)
	if !bytes.Equal(b, bytesOf(l)) {
		t.Fatalf("%s: %q", name, b)
	}
	if got, e := ledger.Parse(b); e != api.OK || !alike(got, l) || !ledger.Same(got, l) {
		t.Fatalf("%s: %v, %d", name, got, e)
	}
	if old, ok := seen[string(b)]; ok && !alike(old, l) {
		t.Fatalf("%s: the bytes of %v and of %v", name, old, l)
	}
	if !alike(l, before) {
		t.Fatalf("%s: what was handed in is changed", name)
	}
	seen[string(b)] = copyOf(l)
}

// goodLedger is one that may be.
func goodLedger(rnd *rand.Rand) api.Ledger {
	few := func(n int64) int64 {
		return []int64{rnd.Int63n(3), n - rnd.Int63n(3), rnd.Int63n(n + 1)}[rnd.Intn(3)]
	}
	text := func() string {
		return strings.Repeat([]string{"a", "\x00", "é", "2of(0,1)"}[rnd.Intn(4)], rnd.Intn(26))
	}
	l := api.Ledger{Seq: few(mostSeq), Total: few(mostAmount)}
	for _, name := range someNames(rnd) {
		l.Letters = append(l.Letters, api.Letter{Name: name, State: 1 + rnd.Intn(7), Amount: max(1, few(mostAmount)), Due: few(mostStamp), Policy: text(), Papers: text()})
	}
	for _, client := range rnd.Perm(64)[:rnd.Intn(5)] {
		l.Last = append(l.Last, api.Outcome{Client: client, Stamp: max(1, few(mostStamp)), Result: api.Errno(rnd.Intn(100))})
	}
	slices.SortFunc(l.Last, func(a, b api.Outcome) int { return a.Client - b.Client })
	return l
}

func someNames(rnd *rand.Rand) []string {
	const letters = "abcdefghijklmnopqrstuvwxyz0123456789-"
	var all []string
	for range rnd.Intn(17) {
		var name []byte
		for range 1 + rnd.Intn(16) {
			name = append(name, letters[rnd.Intn(len(letters))])
		}
		all = append(all, string(name))
	}
	slices.Sort(all)
	return slices.Compact(all)
}

func TestManyComeBack(t *testing.T) {
	rnd := rand.New(rand.NewSource(11))
	seen := map[string]api.Ledger{}
	for range 3000 {
		l := goodLedger(rnd)
		if e := ledger.Check(l); e != api.OK {
			t.Fatalf("Check(%v) = %d", l, e)
		}
		wantBack(t, "one of many", l, seen)
		// Spoilt ones are parsed only if they are another ledger's bytes.
		b := ledger.Bytes(l)
		for range 10 {
			text := bytes.Clone(b)
			text[rnd.Intn(len(text))] = byte(rnd.Intn(256))
			at := rnd.Intn(len(text))
			if rnd.Intn(2) == 0 {
				text = append(text[:at], text[at+1:]...)
			}
			wantSound(t, text)
		}
	}
}

// What is put in by With and Told, one by one, is a ledger that may be, whatever the order.
func TestLedgersThatAreBuilt(t *testing.T) {
	rnd := rand.New(rand.NewSource(12))
	for range 300 {
		want := goodLedger(rnd)
		l := api.Ledger{Seq: want.Seq, Total: want.Total}
		for _, i := range rnd.Perm(len(want.Letters)) {
			l = must(ledger.With(l, letterOf(want.Letters[i].Name)))
			l = must(ledger.With(l, want.Letters[i]))
		}
		for _, i := range rnd.Perm(len(want.Last)) {
			l = ledger.Told(l, outcomeOf(want.Last[i].Client))
			l = ledger.Told(l, want.Last[i])
		}
		if !ledger.Same(l, want) || ledger.Check(l) != api.OK {
			t.Fatalf("%v, want %v", l, want)
		}
	}
}

// What is parsed and what bytes are told has memory of its own.
func TestBytesHaveMemoryOfTheirOwn(t *testing.T) {
	b := ledger.Bytes(full())
	l, e := ledger.Parse(b)
	clear(b)
	if e != api.OK || !alike(l, full()) {
		t.Error(l, e)
	}
	b = ledger.Bytes(l)
	clear(b[:cap(b)])
	if got := ledger.Bytes(l); !bytes.Equal(got, bytesOf(full())) || !alike(l, full()) {
		t.Errorf("%q", got)
	}
	b = bytesOf(full())
	l, _ = ledger.Parse(b)
	scribble(l)
	if !bytes.Equal(b, bytesOf(full())) {
		t.Errorf("%q", b)
	}
}

func FuzzParse(f *testing.F) {
	f.Add([]byte{})
	f.Add(make([]byte, 20))
	f.Add(bytesOf(full()))
	f.Fuzz(func(t *testing.T, b []byte) { wantSound(t, b) })
}
