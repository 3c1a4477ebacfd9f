package request_test

import (
	"encoding/binary"
	"math"
	"math/rand"
	"slices"
	"strings"
	"testing"

	"bottomry/api"
	"bottomry/request"
)

// tagOf is a tag whose bytes tell it apart.
func tagOf(x byte) (t api.Tag) {
	for i := range t {
		t[i] = x*31 + byte(i)
	}
	return t
}

// endsOf are endorsements of these, each of n tags.
func endsOf(n int, orgs ...int) []api.Endorsement {
	var ends []api.Endorsement
	for at, org := range orgs {
		end := api.Endorsement{Org: org}
		for i := range n {
			end.Tags = append(end.Tags, tagOf(byte(at*n+i)))
		}
		ends = append(ends, end)
	}
	return ends
}

// upTo are the numbers below n.
func upTo(n int) []int {
	var all []int
	for i := range n {
		all = append(all, i)
	}
	return all
}

func requestOf(n int, orgs ...int) api.Request {
	return api.Request{Core: coreOf(n), Ends: endsOf(n, orgs...)}
}

func alike(a, b api.Request) bool {
	return a.Core == b.Core && slices.EqualFunc(a.Ends, b.Ends, func(x, y api.Endorsement) bool {
		return x.Org == y.Org && slices.Equal(x.Tags, y.Tags)
	})
}

func isNothing(q api.Request) bool {
	return q.Core == api.Core{} && len(q.Ends) == 0
}

// bytesOf writes a request's bytes a second way.
func bytesOf(q api.Request) []byte {
	c := q.Core
	core := []byte{byte(c.Client)}
	core = binary.BigEndian.AppendUint64(core, uint64(c.Stamp))
	core = append(core, byte(c.Op))
	core = binary.BigEndian.AppendUint32(core, uint32(len(c.Letter)))
	core = append(core, c.Letter...)
	core = binary.BigEndian.AppendUint64(core, uint64(c.A))
	core = binary.BigEndian.AppendUint64(core, uint64(c.B))
	core = binary.BigEndian.AppendUint32(core, uint32(len(c.Text)))
	core = append(core, c.Text...)
	b := binary.BigEndian.AppendUint32(nil, uint32(len(core)))
	b = append(b, core...)
	b = binary.BigEndian.AppendUint16(b, uint16(len(q.Ends)))
	for _, end := range q.Ends {
		b = append(b, byte(end.Org))
		for _, tag := range end.Tags {
			b = append(b, tag[:]...)
		}
	}
	return b
}

// cut is the first n bytes, and the rest; false, if there aren't so many.
func cut(b []byte, n int) ([]byte, []byte, bool) {
	if n < 0 || n > len(b) {
		return nil, nil, false
	}
	return b[:n], b[n:], true
}

func cutRow(b []byte) ([]byte, []byte, bool) {
	head, rest, ok := cut(b, 4)
	if !ok {
		return nil, nil, false
	}
	return cut(rest, int(binary.BigEndian.Uint32(head)))
}

// coreIn reads a core's bytes a second way; false, if they are of no form.
func coreIn(b []byte) (c api.Core, ok bool) {
	head, rest, ok := cut(b, 10)
	if !ok {
		return c, false
	}
	c.Client, c.Stamp, c.Op = int(head[0]), int64(binary.BigEndian.Uint64(head[1:])), int(head[9])
	name, rest, ok := cutRow(rest)
	if !ok {
		return c, false
	}
	c.Letter = string(name)
	numbers, rest, ok := cut(rest, 16)
	if !ok {
		return c, false
	}
	c.A, c.B = int64(binary.BigEndian.Uint64(numbers)), int64(binary.BigEndian.Uint64(numbers[8:]))
	text, rest, ok := cutRow(rest)
	if !ok || len(rest) > 0 {
		return c, false
	}
	c.Text = string(text)
	return c, true
}

// errorOf tells a core's error a second way: the greatest in order is asked first.
func errorOf(c api.Core, n int) api.Errno {
	e := api.OK
	if len(c.Text) > mostText {
		e = api.ErrLong
	}
	if c.Letter == "" || len(c.Letter) > mostName || strings.Trim(c.Letter, "abcdefghijklmnopqrstuvwxyz0123456789-") != "" {
		e = api.ErrName
	}
	for i := range len(c.Letter) {
		if !strings.Contains("abcdefghijklmnopqrstuvwxyz0123456789-", c.Letter[i:i+1]) {
			e = api.ErrName
		}
	}
	if c.Stamp < 1 || c.Stamp > mostStamp || !slices.Contains([]int{1, 2, 3, 4, 5, 6, 7, 8, 9}, c.Op) {
		e = api.ErrRange
	}
	if !slices.Contains([]int{n, n + 1, n + 2, n + 3}, c.Client) {
		e = api.ErrWho
	}
	if !slices.Contains([]int{1, 2, 3, 4, 5, 6, 7}, n) {
		e = api.ErrArg
	}
	return e
}

func coreAndError(b []byte, n int) (api.Core, api.Errno) {
	c, ok := coreIn(b)
	if !ok {
		return api.Core{}, api.ErrForm
	}
	if e := errorOf(c, n); e != api.OK {
		return api.Core{}, e
	}
	return c, api.OK
}

// requestAndError reads a request's bytes a second way.
func requestAndError(b []byte, n int) (api.Request, api.Errno) {
	if n < 1 || n > mostN {
		return api.Request{}, api.ErrArg
	}
	core, rest, ok := cutRow(b)
	if !ok || len(rest) < 2 {
		return api.Request{}, api.ErrForm
	}
	many, rest := int(binary.BigEndian.Uint16(rest)), rest[2:]
	if len(rest) != many*(1+32*n) {
		return api.Request{}, api.ErrForm
	}
	var ends []api.Endorsement
	for i := range many {
		one := rest[i*(1+32*n):]
		end := api.Endorsement{Org: int(one[0])}
		for k := range n {
			end.Tags = append(end.Tags, api.Tag(one[1+32*k:]))
		}
		if end.Org >= n || i > 0 && end.Org <= ends[i-1].Org {
			return api.Request{}, api.ErrForm
		}
		ends = append(ends, end)
	}
	c, e := coreAndError(core, n)
	if e != api.OK {
		return api.Request{}, e
	}
	return api.Request{Core: c, Ends: ends}, api.OK
}

// P12.1: a request's bytes.

func TestBytes(t *testing.T) {
	core := string(request.CoreBytes(coreOf(4)))
	tag := func(x byte) string { t := tagOf(x); return string(t[:]) }
	row := "\x00\x00\x00\x2f" + core // 34 bytes beside the name, of 3, and the text, of 10
	for name, x := range map[string]struct {
		ends []api.Endorsement
		want string
	}{
		"none":          {nil, row + "\x00\x00"},
		"empty":         {[]api.Endorsement{}, row + "\x00\x00"},
		"one":           {endsOf(4, 3), row + "\x00\x01" + "\x03" + tag(0) + tag(1) + tag(2) + tag(3)},
		"two":           {endsOf(2, 0, 1), row + "\x00\x02" + "\x00" + tag(0) + tag(1) + "\x01" + tag(2) + tag(3)},
		"no tags":       {endsOf(0, 1, 0), row + "\x00\x02\x01\x00"},
		"round":         {endsOf(1, 256+2, -1), row + "\x00\x02\x02" + tag(0) + "\xff" + tag(1)},
		"least, most":   {endsOf(0, math.MinInt, math.MaxInt), row + "\x00\x02\x00\xff"},
		"unlike":        {slices.Concat(endsOf(2, 0), endsOf(0, 2), endsOf(1, 1)), row + "\x00\x03\x00" + tag(0) + tag(1) + "\x02" + "\x01" + tag(0)},
		"more than n":   {endsOf(0, 0, 1, 2, 3, 4, 5, 6, 7, 8), row + "\x00\x09\x00\x01\x02\x03\x04\x05\x06\x07\x08"},
		"as many as go": {make([]api.Endorsement, 65535), row + "\xff\xff" + strings.Repeat("\x00", 65535)},
		"many go round": {make([]api.Endorsement, 65538), row + "\x00\x02" + strings.Repeat("\x00", 65538)},
	} {
		if got := string(request.Bytes(api.Request{Core: coreOf(4), Ends: x.ends})); got != x.want {
			t.Errorf("%s: %d bytes %.80q, want %d, %.80q", name, len(got), got, len(x.want), x.want)
		}
	}
	if got := request.Bytes(api.Request{}); string(got) != "\x00\x00\x00\x22"+strings.Repeat("\x00", 34+2) {
		t.Errorf("of nothing: %q", got)
	}
}

// P12.1, P12.2: what may be comes out as it was, with each set of organizations.

func TestParse(t *testing.T) {
	for n := 1; n <= mostN; n++ {
		for set := range 1 << n {
			var orgs []int
			for org := range n {
				if set>>org&1 == 1 {
					orgs = append(orgs, org)
				}
			}
			q := requestOf(n, orgs...)
			if got, e := request.Parse(request.Bytes(q), n); e != api.OK || !alike(got, q) {
				t.Errorf("of %d: %v: %v, %d", n, orgs, got, e)
			}
		}
		for name, c := range coresThatMayBe(n) {
			q := api.Request{Core: c, Ends: endsOf(n, n-1)}
			if got, e := request.Parse(request.Bytes(q), n); e != api.OK || !alike(got, q) {
				t.Errorf("of %d: %s: %v, %d", n, name, got, e)
			}
		}
	}
}

// P12.1: endorsements that may not be.

func TestParseOfEndorsements(t *testing.T) {
	for name, orgs := range map[string][]int{
		"beyond":           {4},
		"beyond behind":    {0, 3, 4},
		"far beyond":       {255},
		"below 0":          {-1},
		"twice":            {0, 0},
		"twice behind":     {0, 1, 3, 3},
		"falling":          {1, 0},
		"falling behind":   {0, 2, 3, 1},
		"one too many":     {0, 1, 2, 3, 3},
		"too many, rising": {0, 1, 2, 3, 4},
		"far too many":     slices.Repeat([]int{0}, 300),
	} {
		if got, e := request.Parse(request.Bytes(requestOf(4, orgs...)), 4); e != api.ErrForm || !isNothing(got) {
			t.Errorf("%s: %v, %d", name, got, e)
		}
	}
	for n := 1; n <= mostN; n++ {
		for tags := range mostN + 3 {
			got, e := request.Parse(request.Bytes(api.Request{Core: coreOf(n), Ends: endsOf(tags, 0)}), n)
			if (e == api.OK) != (tags == n) || e != api.OK && (e != api.ErrForm || !isNothing(got)) {
				t.Errorf("of %d, with %d tags: %v, %d", n, tags, got, e)
			}
		}
	}
}

// The count of endorsements goes round in the bytes: it is held against what follows.
func TestParseOfTooManyThatGoRound(t *testing.T) {
	for _, many := range []int{65536, 65537, 65540} {
		q := api.Request{Core: coreOf(1), Ends: make([]api.Endorsement, many)}
		if got, e := request.Parse(request.Bytes(q), 1); e != api.ErrForm || !isNothing(got) {
			t.Errorf("%d: %v, %d", many, got, e)
		}
	}
}

// P12.1: the order of errors: ErrArg, ErrForm, the core's.

func TestParseInOrder(t *testing.T) {
	for _, n := range badSizes() {
		for _, b := range [][]byte{nil, {}, {1}, request.Bytes(requestOf(4, 0, 2)), request.Bytes(api.Request{}), bytesOf(requestOf(4, 2, 0))} {
			if got, e := request.Parse(b, n); e != api.ErrArg || !isNothing(got) {
				t.Errorf("of %d, %q: %v, %d", n, b, got, e)
			}
		}
	}
	for set := range 1 << len(inOrder) {
		c, n := together(set)
		for ends, want := range map[int]api.Errno{0: firstOf(set), 1: api.ErrForm} {
			orgs := [][]int{{1, 2}, {2, 1}}[ends]
			if n == 0 {
				want = api.ErrArg
			}
			got, e := request.Parse(request.Bytes(api.Request{Core: c, Ends: endsOf(4, orgs...)}), n)
			if e != want || e != api.OK && !isNothing(got) {
				t.Errorf("the errors %05b, endorsed by %v: %v, %d, want %d", set, orgs, got, e, want)
			}
		}
	}
}

func TestParseTellsTheCoresError(t *testing.T) {
	for n := 1; n <= mostN; n++ {
		for name, x := range coresThatMayNotBe(n) {
			b := request.Bytes(api.Request{Core: x.core, Ends: endsOf(n, 0)})
			_, want := coreAndError(request.CoreBytes(x.core), n)
			got, e := request.Parse(b, n)
			if e != want || e != api.OK && !isNothing(got) {
				t.Errorf("of %d: %s: %v, %d, want %d", n, name, got, e, want)
			}
		}
	}
}

// A row that isn't a core's bytes is ErrForm, though what stands around it has its form.
func TestParseOfNoCore(t *testing.T) {
	core := request.CoreBytes(coreOf(4))
	for _, row := range []string{"", "x", string(core[:len(core)-1]), string(core) + "x", strings.Repeat("\xff", 300)} {
		b := binary.BigEndian.AppendUint32(nil, uint32(len(row)))
		b = append(append(b, row...), 0, 0)
		if got, e := request.Parse(b, 4); e != api.ErrForm || !isNothing(got) {
			t.Errorf("%q: %v, %d", row, got, e)
		}
	}
}

// P12.1: each cut, what stands behind, and each byte changed to each other one, against the second way.

func TestParseOfCuts(t *testing.T) {
	for _, q := range []api.Request{requestOf(4), requestOf(4, 0, 3), requestOf(7, 0, 1, 2, 3, 4, 5, 6)} {
		n := q.Core.Client
		b := request.Bytes(q)
		for at := range b {
			if got, e := request.Parse(b[:at], n); e != api.ErrForm || !isNothing(got) {
				t.Errorf("cut at %d: %v, %d", at, got, e)
			}
		}
		for _, more := range []string{"\x00", "\x00\x00", string(b), strings.Repeat("\x01", 1+32*n)} {
			if got, e := request.Parse(append(slices.Clone(b), more...), n); e != api.ErrForm || !isNothing(got) {
				t.Errorf("with %q behind: %v, %d", more, got, e)
			}
		}
	}
}

func TestParseOfEachByteChanged(t *testing.T) {
	for _, n := range []int{1, 2, 4} {
		b := request.Bytes(requestOf(n, upTo(n)...))
		for at := range b {
			for x := range 256 {
				changed := slices.Clone(b)
				changed[at] = byte(x)
				same(t, changed, n)
			}
		}
	}
}

// same holds Parse and ParseCore of bytes against the second way.
func same(t *testing.T, b []byte, n int) {
	want, wrong := requestAndError(b, n)
	if got, e := request.Parse(b, n); e != wrong || !alike(got, want) {
		t.Errorf("of %d: %q: %v, %d, want %v, %d", n, b, got, e, want, wrong)
	}
	core, no := coreAndError(b, n)
	if got, e := request.ParseCore(b, n); e != no || got != core {
		t.Errorf("of %d: the core of %q: %v, %d, want %v, %d", n, b, got, e, core, no)
	}
}

// P12.1, P12.2: thousands of requests, those that may not be as well, and their bytes spoilt.

func TestManyRequests(t *testing.T) {
	r := rand.New(rand.NewSource(12))
	fine := 0
	for range 20000 {
		n := 1 + r.Intn(mostN)
		q := anyRequest(r, n)
		b := request.Bytes(q)
		if !slices.Equal(b, bytesOf(q)) {
			t.Fatalf("%v has the bytes %q", q, b)
		}
		if _, e := request.Parse(b, n); e == api.OK {
			fine++
		}
		same(t, b, n)
		same(t, request.CoreBytes(q.Core), n)
		same(t, b, n+r.Intn(3)-1)
		same(t, spoil(r, b), n)
		same(t, spoil(r, request.CoreBytes(q.Core)), n)
		if e := request.Check(q.Core, n); e != errorOf(q.Core, n) {
			t.Errorf("of %d: %v: %d, want %d", n, q.Core, e, errorOf(q.Core, n))
		}
	}
	if fine < 5000 {
		t.Errorf("just %d may be", fine)
	}
}

func pick[T any](r *rand.Rand, l ...T) T {
	return l[r.Intn(len(l))]
}

// anyRequest is mostly one that may be.
func anyRequest(r *rand.Rand, n int) api.Request {
	c := api.Core{
		Client: n + r.Intn(4),
		Stamp:  1 + r.Int63n(mostStamp),
		Op:     1 + r.Intn(9),
		Letter: pick(r, "a", "b-1", "zzzzzzzzzzzzzzzz", "0"),
		A:      int64(r.Uint64()),
		B:      int64(r.Uint64()),
		Text:   strings.Repeat("t", r.Intn(mostText+1)),
	}
	if r.Intn(4) == 0 {
		pick(r,
			func() { c.Client = pick(r, n-1, n+4, 0, -1, 255, 256) },
			func() { c.Stamp = pick(r, 0, -1, mostStamp+1, int64(r.Uint64())) },
			func() { c.Op = pick(r, 0, 10, -1, 255) },
			func() { c.Letter = pick(r, "", "A", "é", "aaaaaaaaaaaaaaaaa") },
			func() { c.Text = strings.Repeat("t", 201+r.Intn(100)) },
		)()
	}
	q := api.Request{Core: c}
	for org := range n {
		if r.Intn(2) == 0 {
			q.Ends = append(q.Ends, endsOf(n, org)...)
		}
	}
	if r.Intn(5) == 0 {
		q.Ends = append(q.Ends, endsOf(n, r.Intn(n+2))...)
	}
	return q
}

func spoil(r *rand.Rand, b []byte) []byte {
	b = slices.Clone(b)
	for range 1 + r.Intn(2) {
		at := r.Intn(len(b))
		switch r.Intn(4) {
		case 0:
			b[at] ^= 1 << r.Intn(8)
		case 1:
			b = slices.Delete(b, at, at+1)
		case 2:
			b = slices.Insert(b, at, byte(r.Intn(256)))
		default:
			b = b[:at+1]
		}
	}
	return b
}

// P12.1: what is handed in stays, and answers are memory of their own.

func TestRequestsMemory(t *testing.T) {
	q := requestOf(4, 0, 2)
	b := request.Bytes(q)
	if !alike(q, requestOf(4, 0, 2)) {
		t.Errorf("the request was changed: %v", q)
	}
	q.Ends[0].Tags[0] = api.Tag{}
	if !slices.Equal(b, bytesOf(requestOf(4, 0, 2))) {
		t.Error("the bytes changed with the request")
	}
	whole := append(make([]byte, 0, 1000), b...)
	one, _ := request.Parse(whole, 4)
	if !slices.Equal(whole, b) {
		t.Error("the bytes were changed")
	}
	clear(whole)
	if !alike(one, requestOf(4, 0, 2)) {
		t.Errorf("the request changed with the bytes: %v", one)
	}
	// What is put behind one list isn't seen in another one.
	_ = append(one.Ends[0].Tags, api.Tag{1})
	clear(one.Ends[0].Tags)
	if !slices.Equal(one.Ends[1].Tags, requestOf(4, 0, 2).Ends[1].Tags) {
		t.Error("two rows of tags are shared")
	}
	first, other := request.Bytes(requestOf(4, 1)), request.Bytes(requestOf(4, 1))
	clear(first)
	if !slices.Equal(other, bytesOf(requestOf(4, 1))) {
		t.Error("a request's bytes are shared")
	}
}

// P5: no bytes make a call panic; what is parsed has just these bytes.

func FuzzParse(f *testing.F) {
	f.Add(request.Bytes(requestOf(4, 0, 2)), 4)
	f.Add(request.Bytes(requestOf(1)), 1)
	f.Add(request.CoreBytes(coreOf(7)), 7)
	f.Add([]byte("\xff\xff\xff\xff"), 0)
	f.Fuzz(func(t *testing.T, b []byte, n int) {
		same(t, b, n)
		if q, e := request.Parse(b, n); e == api.OK && !slices.Equal(request.Bytes(q), b) {
			t.Errorf("%q is read as %v", b, q)
		}
		if c, e := request.ParseCore(b, n); e == api.OK && !slices.Equal(request.CoreBytes(c), b) {
			t.Errorf("%q is read as the core %v", b, c)
		}
	})
}
