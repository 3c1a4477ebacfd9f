package request_test

import (
	"math"
	"slices"
	"strings"
	"testing"

	"bottomry/api"
	"bottomry/request"
)

// The chapter's limits, as numbers: a change of api's constants is seen too.
const (
	mostN       = 7
	mostClients = 4
	mostStamp   = 1 << 40
	mostName    = 16
	mostText    = 200
)

// The errors that a core may have, in the order in which they count.
var inOrder = []api.Errno{api.ErrArg, api.ErrWho, api.ErrRange, api.ErrName, api.ErrLong}

// coreOf is a core that may be, of n replicas.
func coreOf(n int) api.Core {
	return api.Core{Client: n, Stamp: 1, Op: 2, Letter: "a-1", A: 5, B: -30, Text: "2of(0,1,2)"}
}

// coresThatMayBe are around the edges, on the side that may be.
func coresThatMayBe(n int) map[string]api.Core {
	all := map[string]api.Core{"as it is": coreOf(n)}
	for name, change := range map[string]func(c *api.Core){
		"Client next":     func(c *api.Core) { c.Client = n + 1 },
		"Client last":     func(c *api.Core) { c.Client = n + mostClients - 1 },
		"Stamp most":      func(c *api.Core) { c.Stamp = mostStamp },
		"Stamp wide":      func(c *api.Core) { c.Stamp = 0x0102030405 },
		"Op 1":            func(c *api.Core) { c.Op = 1 },
		"Op 9":            func(c *api.Core) { c.Op = 9 },
		"name of 1":       func(c *api.Core) { c.Letter = "-" },
		"name of 16":      func(c *api.Core) { c.Letter = strings.Repeat("z", mostName) },
		"A least":         func(c *api.Core) { c.A = math.MinInt64 },
		"A most":          func(c *api.Core) { c.A = math.MaxInt64 },
		"A -1":            func(c *api.Core) { c.A = -1 },
		"B least":         func(c *api.Core) { c.B = math.MinInt64 },
		"B most":          func(c *api.Core) { c.B = math.MaxInt64 },
		"B 0":             func(c *api.Core) { c.B = 0 },
		"no text":         func(c *api.Core) { c.Text = "" },
		"text of 200":     func(c *api.Core) { c.Text = strings.Repeat("t", mostText) },
		"text of runes":   func(c *api.Core) { c.Text = strings.Repeat("é", mostText/2) },
		"text of no form": func(c *api.Core) { c.Text = "\x00\xff\xed\xa0\x80" },
	} {
		c := coreOf(n)
		change(&c)
		all[name] = c
	}
	return all
}

// spoilt is a core that differs in one thing from one that may be.
type spoilt struct {
	core api.Core
	want api.Errno
}

func coresThatMayNotBe(n int) map[string]spoilt {
	all := map[string]spoilt{}
	add := func(name string, want api.Errno, change func(c *api.Core)) {
		c := coreOf(n)
		change(&c)
		all[name] = spoilt{c, want}
	}
	add("Client of a replica", api.ErrWho, func(c *api.Core) { c.Client = n - 1 })
	add("Client beyond", api.ErrWho, func(c *api.Core) { c.Client = n + mostClients })
	add("Client 0", api.ErrWho, func(c *api.Core) { c.Client = 0 })
	add("Client below 0", api.ErrWho, func(c *api.Core) { c.Client = -n })
	add("Client round", api.ErrWho, func(c *api.Core) { c.Client = n + 256 })
	add("Client least", api.ErrWho, func(c *api.Core) { c.Client = math.MinInt })
	add("Client most", api.ErrWho, func(c *api.Core) { c.Client = math.MaxInt })
	for name, stamp := range map[string]int64{"0": 0, "-1": -1, "beyond": mostStamp + 1, "least": math.MinInt64, "most": math.MaxInt64, "low bits": 1<<48 + 1} {
		add("Stamp "+name, api.ErrRange, func(c *api.Core) { c.Stamp = stamp })
	}
	for name, op := range map[string]int{"0": 0, "10": 10, "-1": -1, "round": 257, "least": math.MinInt, "most": math.MaxInt} {
		add("Op "+name, api.ErrRange, func(c *api.Core) { c.Op = op })
	}
	for _, name := range []string{"", "A", "a b", "a_b", "é", "a\x00", "\xff", strings.Repeat("a", mostName+1), strings.Repeat("a", 1<<16)} {
		add("name "+name[:min(4, len(name))], api.ErrName, func(c *api.Core) { c.Letter = name })
	}
	add("name of 17", api.ErrName, func(c *api.Core) { c.Letter = strings.Repeat("b", mostName+1) })
	add("text of 201", api.ErrLong, func(c *api.Core) { c.Text = strings.Repeat("t", mostText+1) })
	add("text of runes", api.ErrLong, func(c *api.Core) { c.Text = strings.Repeat("é", mostText/2+1) })
	add("text far too long", api.ErrLong, func(c *api.Core) { c.Text = strings.Repeat("t", 1<<17) })
	return all
}

// badSizes are numbers of replicas that there may not be.
func badSizes() []int {
	return []int{0, -1, -4, mostN + 1, 10, 256 + 4, 1<<32 + 4, math.MaxInt, math.MaxInt - 3, math.MinInt}
}

// P12.1: which cores may be.

func TestCheck(t *testing.T) {
	for n := 1; n <= mostN; n++ {
		for name, c := range coresThatMayBe(n) {
			if e := request.Check(c, n); e != api.OK {
				t.Errorf("of %d: %s: %d", n, name, e)
			}
		}
		for name, x := range coresThatMayNotBe(n) {
			if e := request.Check(x.core, n); e != x.want {
				t.Errorf("of %d: %s: %d, want %d", n, name, e, x.want)
			}
		}
	}
}

func TestCheckOfEachClient(t *testing.T) {
	for n := 1; n <= mostN; n++ {
		for client := -300; client < 600; client++ {
			c := coreOf(n)
			c.Client = client
			want := api.ErrWho
			if client >= n && client < n+4 {
				want = api.OK
			}
			if e := request.Check(c, n); e != want {
				t.Errorf("of %d: the client %d: %d", n, client, e)
			}
		}
	}
}

func TestCheckOfEachOp(t *testing.T) {
	for op := -300; op < 600; op++ {
		c := coreOf(4)
		c.Op = op
		want := api.ErrRange
		if op >= 1 && op <= 9 {
			want = api.OK
		}
		if e := request.Check(c, 4); e != want {
			t.Errorf("the step %d: %d", op, e)
		}
	}
}

func TestCheckOfSizes(t *testing.T) {
	for _, n := range badSizes() {
		for _, c := range []api.Core{coreOf(4), {}, coreOf(n)} {
			if e := request.Check(c, n); e != api.ErrArg {
				t.Errorf("of %d: %d", n, e)
			}
		}
	}
}

// Of all errors that apply the first one is told: each set of them is tried.
func TestCheckInOrder(t *testing.T) {
	for set := range 1 << len(inOrder) {
		c, n := together(set)
		if e := request.Check(c, n); e != firstOf(set) {
			t.Errorf("the errors %05b: %d, want %d", set, e, firstOf(set))
		}
	}
	c := coreOf(4)
	c.Stamp, c.Op = 0, 0
	if e := request.Check(c, 4); e != api.ErrRange {
		t.Errorf("neither a stamp nor a step: %d", e)
	}
}

// together is a core, and of how many, to which all errors of a set apply (of inOrder, a bit each).
func together(set int) (api.Core, int) {
	c, n := coreOf(4), 4
	for i, spoil := range []func(){
		func() { n = 0 },
		func() { c.Client = 3 },
		func() { c.Op = 10 },
		func() { c.Letter = "A" },
		func() { c.Text = strings.Repeat("t", mostText+1) },
	} {
		if set>>i&1 == 1 {
			spoil()
		}
	}
	return c, n
}

func firstOf(set int) api.Errno {
	for i, e := range inOrder {
		if set>>i&1 == 1 {
			return e
		}
	}
	return api.OK
}

// P12.1: a core's bytes.

func TestCoreBytes(t *testing.T) {
	none, letter := "\x00\x00\x00\x00\x00\x00\x00\x00", "\x00\x00\x00\x01a"
	for name, x := range map[string]struct {
		core api.Core
		want string
	}{
		"nothing": {api.Core{}, "\x00" + none + "\x00" + "\x00\x00\x00\x00" + none + none + "\x00\x00\x00\x00"},
		"example": {api.Core{Client: 4, Stamp: 1, Op: 2, Letter: "a"}, "\x04" + "\x00\x00\x00\x00\x00\x00\x00\x01" + "\x02" + letter + none + none + "\x00\x00\x00\x00"},
		"all": {
			api.Core{Client: 10, Stamp: 0x0102030405, Op: 9, Letter: "a-1", A: 258, B: -2, Text: "xyz\xff"},
			"\x0a" + "\x00\x00\x00\x01\x02\x03\x04\x05" + "\x09" + "\x00\x00\x00\x03a-1" + "\x00\x00\x00\x00\x00\x00\x01\x02" + "\xff\xff\xff\xff\xff\xff\xff\xfe" + "\x00\x00\x00\x04xyz\xff",
		},
		"round": {
			api.Core{Client: 256 + 4, Stamp: -1, Op: 512 + 9, Letter: "a", A: math.MinInt64, B: math.MaxInt64},
			"\x04" + "\xff\xff\xff\xff\xff\xff\xff\xff" + "\x09" + letter + "\x80\x00\x00\x00\x00\x00\x00\x00" + "\x7f\xff\xff\xff\xff\xff\xff\xff" + "\x00\x00\x00\x00",
		},
		"below 0": {
			api.Core{Client: -1, Stamp: math.MinInt64, Op: -2, Letter: "a", A: -1, B: -256},
			"\xff" + "\x80\x00\x00\x00\x00\x00\x00\x00" + "\xfe" + letter + "\xff\xff\xff\xff\xff\xff\xff\xff" + "\xff\xff\xff\xff\xff\xff\xff\x00" + "\x00\x00\x00\x00",
		},
		"least": {
			api.Core{Client: math.MinInt, Stamp: math.MaxInt64, Op: math.MaxInt, Letter: "a"},
			"\x00" + "\x7f\xff\xff\xff\xff\xff\xff\xff" + "\xff" + letter + none + none + "\x00\x00\x00\x00",
		},
		"no name, too long": {
			api.Core{Letter: "No name\n", Text: strings.Repeat("t", 259)},
			"\x00" + none + "\x00" + "\x00\x00\x00\x08No name\n" + none + none + "\x00\x00\x01\x03" + strings.Repeat("t", 259),
		},
	} {
		if got := string(request.CoreBytes(x.core)); got != x.want {
			t.Errorf("%s: %q, want %q", name, got, x.want)
		}
	}
	if b := request.CoreBytes(api.Core{Client: 4, Stamp: 1, Op: 2, Letter: "a"}); len(b) != 35 {
		t.Errorf("the example has %d bytes", len(b))
	}
}

// P12.1, P12.2: a core out of its bytes.

func TestParseCore(t *testing.T) {
	for n := 1; n <= mostN; n++ {
		for name, c := range coresThatMayBe(n) {
			if got, e := request.ParseCore(request.CoreBytes(c), n); e != api.OK || got != c {
				t.Errorf("of %d: %s: %v, %d", n, name, got, e)
			}
		}
	}
}

// What has a core's form but may not be has Check's error. (Numbers that went round are others in the bytes.)
func TestParseCoreTellsChecksError(t *testing.T) {
	for n := 1; n <= mostN; n++ {
		for name, x := range coresThatMayNotBe(n) {
			want := x.want
			if name == "Client round" || name == "Op round" {
				want = api.OK
			}
			got, e := request.ParseCore(request.CoreBytes(x.core), n)
			if e != want || e != api.OK && got != (api.Core{}) {
				t.Errorf("of %d: %s: %v, %d, want %d", n, name, got, e, want)
			}
		}
	}
	for set := range 1 << len(inOrder) {
		c, n := together(set)
		if got, e := request.ParseCore(request.CoreBytes(c), n); e != firstOf(set) || e != api.OK && got != (api.Core{}) {
			t.Errorf("the errors %05b: %v, %d, want %d", set, got, e, firstOf(set))
		}
	}
}

func TestParseCoreOfSizes(t *testing.T) {
	for _, n := range badSizes() {
		if got, e := request.ParseCore(request.CoreBytes(coreOf(4)), n); e != api.ErrArg || got != (api.Core{}) {
			t.Errorf("of %d: %v, %d", n, got, e)
		}
		for _, b := range [][]byte{nil, {}, {4}, request.CoreBytes(coreOf(4))[:40]} {
			if _, e := request.ParseCore(b, n); e != api.ErrForm {
				t.Errorf("of %d: %q has no form, but %d", n, b, e)
			}
		}
	}
}

// ErrForm comes ahead of all that Check tells.
func TestParseCoreOfNoForm(t *testing.T) {
	for set := range 1 << len(inOrder) {
		c, n := together(set)
		b := request.CoreBytes(c)
		for cut := range b {
			if got, e := request.ParseCore(b[:cut], n); e != api.ErrForm || got != (api.Core{}) {
				t.Errorf("the errors %05b, cut at %d: %v, %d", set, cut, got, e)
			}
		}
		for _, more := range []string{"\x00", "x", "\x00\x00\x00\x00", string(b)} {
			if got, e := request.ParseCore(append(slices.Clone(b), more...), n); e != api.ErrForm || got != (api.Core{}) {
				t.Errorf("the errors %05b, with %q behind: %v, %d", set, more, got, e)
			}
		}
	}
}

func TestParseCoreOfRowsBeyondTheEnd(t *testing.T) {
	b := request.CoreBytes(coreOf(4))
	for _, long := range []string{"\x00\x00\x00\x0b", "\x00\x00\x00\xc9", "\x00\x00\xff\xff", "\x7f\xff\xff\xff", "\x80\x00\x00\x00", "\xff\xff\xff\xff"} {
		for _, at := range []int{10, len(b) - 14} {
			if got, e := request.ParseCore(slices.Concat(b[:at], []byte(long), b[at+4:]), 4); e != api.ErrForm || got != (api.Core{}) {
				t.Errorf("%q at %d: %v, %d", long, at, got, e)
			}
		}
	}
}

// P12.1: what is handed in stays, and answers are memory of their own.

func TestCoresMemory(t *testing.T) {
	b := request.CoreBytes(coreOf(4))
	whole := append(make([]byte, 0, 100), b...)
	c, _ := request.ParseCore(whole, 4)
	if !slices.Equal(whole, b) {
		t.Error("the bytes were changed")
	}
	clear(whole)
	if c != coreOf(4) {
		t.Errorf("the core changed with the bytes: %v", c)
	}
	one, other := request.CoreBytes(c), request.CoreBytes(c)
	clear(append(one, "abc"...))
	clear(one)
	if !slices.Equal(other, b) {
		t.Error("a core's bytes are shared")
	}
}
