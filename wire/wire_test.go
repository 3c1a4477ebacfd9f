package wire_test

import (
	"bytes"
	"math"
	"math/rand"
	"slices"
	"testing"

	"bottomry/api"
	"bottomry/wire"
)

// The chapter's limits, as numbers: a change of api's constants is seen too.
const (
	lastKind  = 12
	lastFrom  = 63
	mostTags  = 7
	mostBytes = 1 << 20
	noBody    = 8 // bytes of a message with neither body nor tags
	tagWidth  = 32
)

// tagsOf are so many tags, each byte of each another one than its neighbours.
func tagsOf(many, seed int) []api.Tag {
	tags := make([]api.Tag, many)
	for i := range tags {
		for j := range tags[i] {
			tags[i][j] = byte(seed + 37*i + j)
		}
	}
	return tags
}

func bodyOf(many, seed int) []byte {
	body := make([]byte, many)
	for i := range body {
		body[i] = byte(seed + i*i)
	}
	return body
}

// messageOf is a message that may be.
func messageOf(kind, from, body, tags int) api.Message {
	return api.Message{Kind: kind, From: from, Body: bodyOf(body, kind), Tags: tagsOf(tags, from)}
}

// largest is the longest body that a message with so many tags may have.
func largest(tags int) int {
	return mostBytes - noBody - tagWidth*tags
}

// wrongNumbers are neither kinds nor replicas' numbers: those whose lowest bits may be as well.
func wrongNumbers() []int {
	return []int{-1, -2, -64, -255, -256 + 1, 64, 65, 127, 128, 255, 256, 257, 256 + 12, 1<<16 + 1, 1<<32 + 1, math.MaxInt, math.MinInt, math.MinInt + 1}
}

// written is a second way of writing a message's bytes.
func written(m api.Message) []byte {
	n, k := len(m.Body), len(m.Tags)
	b := []byte{byte(m.Kind), byte(m.From), byte(n >> 24), byte(n >> 16), byte(n >> 8), byte(n)}
	b = append(append(b, m.Body...), byte(k>>8), byte(k))
	for i := range m.Tags {
		b = append(b, m.Tags[i][:]...)
	}
	return b
}

// readAnew is a second way of reading them, by places alone.
func readAnew(b []byte) (api.Message, api.Errno) {
	if len(b) > mostBytes {
		return api.Message{}, api.ErrLong
	}
	if len(b) < noBody || b[0] == 0 || b[0] > lastKind || b[1] > lastFrom {
		return api.Message{}, api.ErrForm
	}
	body := int(b[2])<<24 + int(b[3])<<16 + int(b[4])<<8 + int(b[5])
	if body > len(b)-noBody {
		return api.Message{}, api.ErrForm
	}
	tags := int(b[6+body])<<8 + int(b[7+body])
	if tags > mostTags || len(b) != noBody+body+tagWidth*tags {
		return api.Message{}, api.ErrForm
	}
	m := api.Message{Kind: int(b[0]), From: int(b[1]), Body: b[6 : 6+body], Tags: make([]api.Tag, tags)}
	for i := range m.Tags {
		m.Tags[i] = api.Tag(b[noBody+body+tagWidth*i:])
	}
	return m, api.OK
}

func alike(a, b api.Message) bool {
	return a.Kind == b.Kind && a.From == b.From && string(a.Body) == string(b.Body) && slices.Equal(a.Tags, b.Tags)
}

func isNothing(m api.Message) bool {
	return m.Kind == 0 && m.From == 0 && len(m.Body) == 0 && len(m.Tags) == 0
}

// heldAgainst holds what Parse answers against the second way.
func heldAgainst(t *testing.T, b []byte) {
	t.Helper()
	m, e := wire.Parse(b)
	want, wrong := readAnew(b)
	if e != wrong || !alike(m, want) {
		t.Fatalf("%d bytes from %x: %d, want %d", len(b), b[:min(len(b), 40)], e, wrong)
	}
	if e == api.OK && !bytes.Equal(wire.Bytes(m), b) {
		t.Fatalf("%x: its message has other bytes", b)
	}
}

// P16.1: which messages may be.

func TestCheckOfEachKindAndFrom(t *testing.T) {
	for kind := -300; kind < 600; kind++ {
		for from := -300; from < 600; from++ {
			want := api.ErrForm
			if kind >= 1 && kind <= lastKind && from >= 0 && from <= lastFrom {
				want = api.OK
			}
			if e := wire.Check(api.Message{Kind: kind, From: from}); e != want {
				t.Fatalf("the kind %d, from %d: %d", kind, from, e)
			}
		}
	}
}

func TestCheckOfNumbersFarBeyond(t *testing.T) {
	for _, x := range wrongNumbers() {
		for _, m := range []api.Message{
			{Kind: x, From: 1},
			{Kind: 1, From: x},
			{Kind: x, From: x},
			{Kind: x, From: 1, Body: []byte("x"), Tags: tagsOf(2, 1)},
		} {
			if e := wire.Check(m); e != api.ErrForm {
				t.Errorf("the kind %d, from %d: %d", m.Kind, m.From, e)
			}
		}
	}
}

func TestCheckOfHowManyTags(t *testing.T) {
	for many := range 600 {
		want := api.OK
		if many > mostTags {
			want = api.ErrMany
		}
		for body := range 3 {
			if e := wire.Check(messageOf(3, 5, body, many)); e != want {
				t.Errorf("%d tags: %d", many, e)
			}
		}
	}
	for _, many := range []int{65535, 65536, 65537, 65536 + mostTags} {
		if e := wire.Check(api.Message{Kind: 1, Tags: make([]api.Tag, many)}); e != api.ErrMany {
			t.Errorf("%d tags: %d", many, e)
		}
	}
}

func TestCheckOfHowManyBytes(t *testing.T) {
	for tags := range mostTags + 1 {
		most := largest(tags)
		for _, body := range []int{0, 1, most - 33, most - 1, most} {
			if e := wire.Check(messageOf(9, 1, body, tags)); e != api.OK {
				t.Errorf("%d tags, a body of %d: %d", tags, body, e)
			}
		}
		for _, body := range []int{most + 1, most + 2, most + 32, mostBytes, mostBytes + 1, 2 * mostBytes, 1 << 24} {
			if e := wire.Check(api.Message{Kind: 9, From: 1, Body: make([]byte, body), Tags: tagsOf(tags, 1)}); e != api.ErrLong {
				t.Errorf("%d tags, a body of %d: %d", tags, body, e)
			}
		}
	}
}

// Each set of what may be wrong is tried: what the chapter names first is told.
func TestCheckInOrder(t *testing.T) {
	for set := range 1 << 4 {
		m, want := messageOf(4, 2, 5, 3), api.OK
		if set&1 != 0 {
			m.Body, want = make([]byte, mostBytes), api.ErrLong
		}
		if set&2 != 0 {
			m.Tags, want = tagsOf(mostTags+1, 0), api.ErrMany
		}
		if set&4 != 0 {
			m.From, want = lastFrom+1, api.ErrForm
		}
		if set&8 != 0 {
			m.Kind, want = 0, api.ErrForm
		}
		if e := wire.Check(m); e != want {
			t.Errorf("the errors %04b: %d, want %d", set, e, want)
		}
	}
}

// So many tags that they alone are too many bytes are too many tags.
func TestCheckOfTagsThatAreTooManyBytes(t *testing.T) {
	m := api.Message{Kind: 1, Tags: make([]api.Tag, mostBytes/tagWidth+1)}
	if e := wire.Check(m); e != api.ErrMany {
		t.Error(e)
	}
}

// P16.1: a message's bytes.

func TestBytesOfExamples(t *testing.T) {
	tag := api.Tag{0: 0xa1, 31: 0xb2}
	for want, m := range map[string]api.Message{
		"\x04\x02\x00\x00\x00\x01x\x00\x00":                                                                                         {Kind: 4, From: 2, Body: []byte("x")},
		"\x00\x00\x00\x00\x00\x00\x00\x00":                                                                                          {},
		"\x01\x3f\x00\x00\x00\x00\x00\x00":                                                                                          {Kind: 1, From: 63, Body: []byte{}, Tags: []api.Tag{}},
		"\x0c\x00\x00\x00\x00\x02ab\x00\x01\xa1" + string(make([]byte, 30)) + "\xb2":                                                {Kind: 12, Body: []byte("ab"), Tags: []api.Tag{tag}},
		"\x0c\x00\x00\x00\x00\x00\x00\x02" + string(make([]byte, 32)) + "\xa1" + string(make([]byte, 30)) + "\xb2":                  {Kind: 12, Tags: []api.Tag{{}, tag}},
		"\x05\x07\x00\x00\x01\x02" + string(make([]byte, 258)) + "\x00\x00":                                                         {Kind: 5, From: 7, Body: make([]byte, 258)},
		"\x05\x07\x00\x01\x02\x03" + string(make([]byte, 66051)) + "\x00\x03" + string(make([]byte, 96)):                            {Kind: 5, From: 7, Body: make([]byte, 66051), Tags: make([]api.Tag, 3)},
		"\x05\x07\x01\x00\x00\x00" + string(make([]byte, 1<<24)) + "\x00\x00":                                                       {Kind: 5, From: 7, Body: make([]byte, 1<<24)},
		"\x05\x07\x00\x00\x00\x00\x01\x02" + string(bytes.Repeat(bytes.Join([][]byte{{0xa1}, make([]byte, 30), {0xb2}}, nil), 258)): {Kind: 5, From: 7, Tags: slices.Repeat([]api.Tag{tag}, 258)},
	} {
		if b := wire.Bytes(m); string(b) != want {
			t.Errorf("kind %d, from %d, a body of %d, %d tags: %d bytes, want %d", m.Kind, m.From, len(m.Body), len(m.Tags), len(b), len(want))
		}
	}
}

// Numbers go round, in whatever message.
func TestBytesOfWhatMayNotBe(t *testing.T) {
	for _, kind := range append(wrongNumbers(), 0, 1, 12, 13) {
		for _, from := range append(wrongNumbers(), 0, 63) {
			for _, tags := range []int{0, 1, 8, 256} {
				m := messageOf(kind, from, 5, tags)
				if !bytes.Equal(wire.Bytes(m), written(m)) {
					t.Errorf("the kind %d, from %d, %d tags", kind, from, tags)
				}
			}
		}
	}
}

// How many there are goes round; each tag stands there all the same.
func TestBytesOfVeryManyTags(t *testing.T) {
	for _, many := range []int{65535, 65536, 65537, 65536 + mostTags, 2<<16 + 3} {
		m := messageOf(6, 6, 3, many)
		if !bytes.Equal(wire.Bytes(m), written(m)) {
			t.Errorf("%d tags", many)
		}
	}
}

// P16.1: which bytes are a message's.

func TestParseOfExamples(t *testing.T) {
	m, e := wire.Parse([]byte("\x04\x02\x00\x00\x00\x01x\x00\x00"))
	if e != api.OK || m.Kind != 4 || m.From != 2 || string(m.Body) != "x" || len(m.Tags) != 0 {
		t.Error(m, e)
	}
	m, e = wire.Parse([]byte("\x0c\x3f\x00\x00\x00\x00\x00\x01abcdefghijklmnopqrstuvwxyz012345"))
	if e != api.OK || m.Kind != 12 || m.From != 63 || len(m.Body) != 0 || len(m.Tags) != 1 || string(m.Tags[0][:]) != "abcdefghijklmnopqrstuvwxyz012345" {
		t.Error(m, e)
	}
}

func TestParseOfNoForm(t *testing.T) {
	tag := string(make([]byte, tagWidth))
	for _, b := range []string{
		"",
		"\x04",
		"\x00\x00\x00\x00\x00\x00\x00\x00",                   // no kind
		"\x0d\x00\x00\x00\x00\x00\x00\x00",                   // the kind 13
		"\xff\x00\x00\x00\x00\x00\x00\x00",                   // the kind 255
		"\x01\x40\x00\x00\x00\x00\x00\x00",                   // from 64
		"\x01\xff\x00\x00\x00\x00\x00\x00",                   // from 255
		"\x01\x00\x00\x00\x00\x00\x00",                       // half of how many tags
		"\x01\x00\x00\x00\x00\x00\x00\x00\x00",               // one byte more
		"\x01\x00\x00\x00\x00\x01\x00\x00",                   // a body that isn't there
		"\x01\x00\xff\xff\xff\xff\x00\x00",                   // a body beyond all bytes
		"\x01\x00\x80\x00\x00\x00\x00\x00",                   // the same
		"\x01\x00\x00\x10\x00\x01\x00\x00",                   // the same, by one beyond MaxBytes
		"\x01\x00\x00\x00\x00\x00\x00\x01",                   // a tag that isn't there
		"\x01\x00\x00\x00\x00\x00\x00\x01" + tag[1:],         // a tag of 31
		"\x01\x00\x00\x00\x00\x00\x00\x01" + tag + "\x00",    // of 33
		"\x01\x00\x00\x00\x00\x00\x00\x00" + tag,             // a tag that isn't counted
		"\x01\x00\x00\x00\x00\x00\x00\x08" + tag,             // too many tags, that aren't there
		"\x01\x00\x00\x00\x00\x00\xff\xff",                   // the same
		"\x01\x00\x00\x00\x00\x00\x01\x00",                   // the same
		"\x00\x40\x00\x00\x00\x00\x00\x08" + tag + tag + tag, // all at once
	} {
		if m, e := wire.Parse([]byte(b)); e != api.ErrForm || !isNothing(m) {
			t.Errorf("%x: %d, %v", b, e, m)
		}
	}
	if m, e := wire.Parse(nil); e != api.ErrForm || !isNothing(m) {
		t.Errorf("nothing: %d, %v", e, m)
	}
}

// A message with too many tags has its bytes, but they are of no form.
func TestParseOfTooManyTags(t *testing.T) {
	for _, many := range []int{8, 9, 16, 255, 256, 257, 256 + mostTags, 30000} {
		if m, e := wire.Parse(wire.Bytes(messageOf(6, 6, 3, many))); e != api.ErrForm || !isNothing(m) {
			t.Errorf("%d tags: %d", many, e)
		}
	}
}

// What is too long is told ahead of all else.
func TestParseOfTooManyBytes(t *testing.T) {
	for tags := range mostTags + 1 {
		m := messageOf(2, 3, largest(tags), tags)
		b := wire.Bytes(m)
		if x, e := wire.Parse(b); len(b) != mostBytes || e != api.OK || !alike(x, m) {
			t.Errorf("%d tags, %d bytes: %d", tags, len(b), e)
		}
		m.Body = append(m.Body, 'x')
		for _, long := range [][]byte{wire.Bytes(m), append(slices.Clone(b), 0), append(slices.Clone(b), b...), make([]byte, mostBytes+1), bytes.Repeat([]byte{0xff}, 1<<22)} {
			if x, e := wire.Parse(long); e != api.ErrLong || !isNothing(x) {
				t.Errorf("%d tags, %d bytes: %d", tags, len(long), e)
			}
		}
	}
	for _, many := range []int{mostBytes - 1, mostBytes} {
		if x, e := wire.Parse(make([]byte, many)); e != api.ErrForm || !isNothing(x) {
			t.Errorf("%d noughts: %d", many, e)
		}
	}
	many := api.Message{Kind: 1, Tags: make([]api.Tag, mostBytes/tagWidth)}
	if _, e := wire.Parse(wire.Bytes(many)); e != api.ErrLong {
		t.Errorf("tags that are too many bytes: %d", e)
	}
}

func TestParseOfEachCut(t *testing.T) {
	for tags := range mostTags + 1 {
		for _, body := range []int{0, 1, 40, 300} {
			b := wire.Bytes(messageOf(7, 9, body, tags))
			for n := range len(b) {
				if m, e := wire.Parse(b[:n]); e != api.ErrForm || !isNothing(m) {
					t.Fatalf("%d tags, a body of %d, %d bytes: %d", tags, body, n, e)
				}
			}
			for n := 1; n < 2*tagWidth+2; n++ {
				if m, e := wire.Parse(append(slices.Clone(b), make([]byte, n)...)); e != api.ErrForm || !isNothing(m) {
					t.Fatalf("%d tags, a body of %d, %d bytes more: %d", tags, body, n, e)
				}
			}
		}
	}
}

func TestParseOfEachByteChanged(t *testing.T) {
	for _, m := range []api.Message{messageOf(1, 0, 0, 0), messageOf(12, 63, 5, 1), messageOf(8, 4, 70, 2), messageOf(3, 3, 300, 7), {Kind: 2, From: 1, Body: make([]byte, 300), Tags: make([]api.Tag, 7)}} {
		b := wire.Bytes(m)
		for at := range b {
			was := b[at]
			for x := range 256 {
				b[at] = byte(x)
				heldAgainst(t, b)
			}
			b[at] = was
		}
	}
}

// Each two bytes ahead of a body: what there is of kinds and of who says it.
func TestParseOfEachKindAndFrom(t *testing.T) {
	for kind := range 256 {
		for from := range 256 {
			heldAgainst(t, []byte{byte(kind), byte(from), 0, 0, 0, 1, 'x', 0, 0})
		}
	}
}

// Each length of a body that is told, and each count of tags, against those that there are.
func TestParseOfEachLengthAndCount(t *testing.T) {
	for told := range 120 {
		for many := range 12 {
			for there := range 120 {
				b := append([]byte{3, 3, 0, 0, 0, byte(told)}, make([]byte, there)...)
				if told+2 <= there {
					b[6+told+1] = byte(many)
				}
				heldAgainst(t, b)
			}
		}
	}
}

func randomMessage(r *rand.Rand) api.Message {
	m := api.Message{Kind: 1 + r.Intn(lastKind), From: r.Intn(lastFrom + 1), Body: make([]byte, r.Intn(100)), Tags: make([]api.Tag, r.Intn(mostTags+1))}
	r.Read(m.Body)
	for i := range m.Tags {
		r.Read(m.Tags[i][:])
	}
	return m
}

// spoilt changes some of a message's bytes, cuts them, or puts others behind.
func spoilt(r *rand.Rand, b []byte) []byte {
	b = slices.Clone(b)
	for range r.Intn(3) {
		switch r.Intn(5) {
		case 0:
			b = b[:r.Intn(len(b)+1)]
		case 1:
			b = append(b, make([]byte, r.Intn(70))...)
		case 2:
			if len(b) > 0 {
				b[r.Intn(len(b))] = byte(r.Intn(256))
			}
		case 3:
			if len(b) > noBody {
				b[r.Intn(noBody)] = byte(r.Intn(9))
			}
		case 4:
			if len(b) > noBody {
				b[5] += byte(r.Intn(5) * 32)
			}
		}
	}
	return b
}

func TestParseAgainstASecondWay(t *testing.T) {
	r := rand.New(rand.NewSource(16))
	for range 60000 {
		m := randomMessage(r)
		b := wire.Bytes(m)
		if !bytes.Equal(b, written(m)) {
			t.Fatalf("the bytes of %v", m)
		}
		heldAgainst(t, spoilt(r, b))
	}
	for range 60000 {
		b := make([]byte, r.Intn(90))
		for i := range b {
			b[i] = byte(r.Intn(3)) // noughts, and low numbers: else none of it has a form
		}
		heldAgainst(t, b)
	}
}

// P16.2: what may be is parsed out of its bytes as it was.

func TestParseOfEachKindWithItsBytes(t *testing.T) {
	for kind := 1; kind <= lastKind; kind++ {
		for from := range lastFrom + 1 {
			for tags := range mostTags + 1 {
				for _, body := range []int{0, 1, 2, 31, 255, 256, 257} {
					thereAndBack(t, messageOf(kind, from, body, tags))
				}
			}
		}
	}
}

func TestParseOfLongBodies(t *testing.T) {
	for tags := range mostTags + 1 {
		for _, body := range []int{65535, 65536, 65537, 1 << 19, largest(tags) - 1, largest(tags)} {
			thereAndBack(t, messageOf(10, 20, body, tags))
		}
	}
}

func TestParseOfRandomMessages(t *testing.T) {
	r := rand.New(rand.NewSource(162))
	for range 60000 {
		thereAndBack(t, randomMessage(r))
	}
}

func thereAndBack(t *testing.T, m api.Message) {
	t.Helper()
	if e := wire.Check(m); e != api.OK {
		t.Fatalf("the kind %d, from %d: Check %d", m.Kind, m.From, e)
	}
	x, e := wire.Parse(wire.Bytes(m))
	if e != api.OK || !alike(x, m) || !wire.Same(x, m) || !wire.Same(m, x) {
		t.Fatalf("the kind %d, from %d, a body of %d, %d tags: %d", m.Kind, m.From, len(m.Body), len(m.Tags), e)
	}
}

// What may not be isn't parsed, whatever its bytes are; by numbers that go round it is another one.
func TestParseOfWhatMayNotBe(t *testing.T) {
	for _, m := range []api.Message{
		{}, {From: 3}, {Kind: 13}, {Kind: -1}, {Kind: 1, From: 64}, {Kind: 1, From: -1}, {Kind: 256}, {Kind: 1, From: 255},
		{Kind: 1, Tags: make([]api.Tag, 8)}, {Kind: 1, Tags: make([]api.Tag, 257)},
	} {
		if x, e := wire.Parse(wire.Bytes(m)); e != api.ErrForm || !isNothing(x) {
			t.Errorf("the kind %d, from %d, %d tags: %d", m.Kind, m.From, len(m.Tags), e)
		}
	}
	x, e := wire.Parse(wire.Bytes(api.Message{Kind: 256 + 5, From: -256 + 7, Body: []byte("b")}))
	if e != api.OK || !alike(x, api.Message{Kind: 5, From: 7, Body: []byte("b")}) {
		t.Errorf("numbers that go round: %d, %v", e, x)
	}
}

// P16.1: Same.

func TestSameOfEachPart(t *testing.T) {
	for _, m := range []api.Message{messageOf(4, 2, 5, 3), messageOf(4, 2, 1, 1), {Kind: -1, From: 900, Body: bodyOf(9, 9), Tags: tagsOf(20, 0)}} {
		copied := api.Message{Kind: m.Kind, From: m.From, Body: slices.Clone(m.Body), Tags: slices.Clone(m.Tags)}
		if !wire.Same(m, m) || !wire.Same(m, copied) || !wire.Same(copied, m) {
			t.Errorf("a message and it: %v", m)
		}
		for _, x := range unlike(m) {
			if wire.Same(m, x) || wire.Same(x, m) {
				t.Errorf("%v and %v", m, x)
			}
		}
	}
}

// unlike are messages that are unlike a message with a body and tags in one thing each.
func unlike(m api.Message) []api.Message {
	var all []api.Message
	add := func(change func(x *api.Message)) {
		x := api.Message{Kind: m.Kind, From: m.From, Body: slices.Clone(m.Body), Tags: slices.Clone(m.Tags)}
		change(&x)
		all = append(all, x)
	}
	for _, by := range []int{1, -1, 256, 1 << 32} {
		add(func(x *api.Message) { x.Kind += by })
		add(func(x *api.Message) { x.From += by })
	}
	for i := range m.Body {
		add(func(x *api.Message) { x.Body[i] ^= 0x80 })
	}
	for i := range m.Tags {
		for j := range m.Tags[i] {
			add(func(x *api.Message) { x.Tags[i][j] ^= 1 })
		}
	}
	add(func(x *api.Message) { x.Body = x.Body[:len(x.Body)-1] })
	add(func(x *api.Message) { x.Body = append(x.Body, 0) })
	add(func(x *api.Message) { x.Body = nil })
	add(func(x *api.Message) { x.Tags = x.Tags[:len(x.Tags)-1] })
	add(func(x *api.Message) { x.Tags = append(x.Tags, api.Tag{}) })
	add(func(x *api.Message) { x.Tags = nil })
	add(func(x *api.Message) { x.Kind, x.From = x.From, x.Kind })
	return all
}

func TestSameOfNothing(t *testing.T) {
	none := []api.Message{{}, {Body: []byte{}}, {Tags: []api.Tag{}}, {Body: []byte{}, Tags: []api.Tag{}}}
	for _, a := range none {
		for _, b := range none {
			if !wire.Same(a, b) {
				t.Errorf("%#v and %#v", a, b)
			}
		}
		for _, b := range []api.Message{{Kind: 1}, {From: 1}, {Body: []byte{0}}, {Tags: []api.Tag{{}}}} {
			if wire.Same(a, b) || wire.Same(b, a) {
				t.Errorf("%#v and %#v", a, b)
			}
		}
	}
}

// Tags in another order are another message, and so is a tag's bytes as a body.
func TestSameOfOrder(t *testing.T) {
	m := messageOf(4, 2, 5, 3)
	x := messageOf(4, 2, 5, 3)
	slices.Reverse(x.Tags)
	y := api.Message{Kind: 4, From: 2, Body: m.Tags[0][:]}
	z := api.Message{Kind: 4, From: 2, Tags: m.Tags[:1]}
	if wire.Same(m, x) || wire.Same(y, z) {
		t.Error("messages that aren't the same")
	}
}

// Of messages that may be, those that are the same have the same bytes, and no others.
func TestSameAsBytes(t *testing.T) {
	r := rand.New(rand.NewSource(161))
	var all []api.Message
	for range 400 {
		m := api.Message{Kind: 1 + r.Intn(2), From: r.Intn(2), Body: make([]byte, r.Intn(3)), Tags: make([]api.Tag, r.Intn(3))}
		for i := range m.Body {
			m.Body[i] = byte(r.Intn(2))
		}
		for i := range m.Tags {
			m.Tags[i][31] = byte(r.Intn(2))
		}
		all = append(all, m)
	}
	for _, a := range all {
		for _, b := range all {
			if wire.Same(a, b) != bytes.Equal(wire.Bytes(a), wire.Bytes(b)) {
				t.Fatalf("%v and %v", a, b)
			}
		}
	}
}

// Memory: nothing that is handed in is changed or kept.

func TestParseSharesNoMemory(t *testing.T) {
	m := messageOf(4, 2, 40, 3)
	b := wire.Bytes(m)
	was := slices.Clone(b)
	x, _ := wire.Parse(b)
	if !bytes.Equal(b, was) {
		t.Error("Parse changes its bytes")
	}
	clear(b)
	if !alike(x, m) {
		t.Error("Parse keeps its bytes")
	}
	b = slices.Clone(was)
	x, _ = wire.Parse(b)
	y, _ := wire.Parse(b)
	clear(x.Body[:cap(x.Body)])
	clear(x.Tags[:cap(x.Tags)])
	if !bytes.Equal(b, was) || !alike(y, m) {
		t.Error("a message that was parsed is of its bytes, or of another one's memory")
	}
}

func TestBytesShareNoMemory(t *testing.T) {
	for tags := range mostTags + 1 {
		m, same := messageOf(4, 2, 40, tags), messageOf(4, 2, 40, tags)
		// Room behind the body and the tags is the caller's.
		m.Body, m.Tags = append(m.Body, 1, 2, 3)[:40], append(m.Tags, api.Tag{9}, api.Tag{8})[:tags]
		b, c := wire.Bytes(m), wire.Bytes(m)
		clear(b[:cap(b)])
		if !alike(m, same) || !bytes.Equal(m.Body[:43][40:], []byte{1, 2, 3}) || !slices.Equal(m.Tags[:tags+2][tags:], []api.Tag{{9}, {8}}) {
			t.Errorf("%d tags: the message is changed", tags)
		}
		if !bytes.Equal(c, written(same)) {
			t.Errorf("%d tags: bytes share memory", tags)
		}
		c = wire.Bytes(m)
		clear(m.Body)
		clear(m.Tags)
		if !bytes.Equal(c, written(same)) {
			t.Errorf("%d tags: bytes are the message's memory", tags)
		}
	}
}

func TestCheckAndSameChangeNothing(t *testing.T) {
	m, same := messageOf(4, 2, 40, 7), messageOf(4, 2, 40, 7)
	wire.Check(m)
	wire.Same(m, m)
	if !alike(m, same) {
		t.Error(m)
	}
}

func FuzzParse(f *testing.F) {
	for tags := range 3 {
		f.Add(wire.Bytes(messageOf(4, 2, 3, tags)))
	}
	f.Fuzz(func(t *testing.T, b []byte) {
		heldAgainst(t, b)
	})
}
