package vector_test

import (
	"bytes"
	"math"
	"slices"
	"testing"

	"bottomry/api"
	"bottomry/book"
	"bottomry/keys"
	"bottomry/vector"
)

// P6.1: a message's text.

func TestText(t *testing.T) {
	for _, c := range []struct {
		kind int
		body string
		want string
	}{
		{2, "x", "\x02x"},
		{0, "", "\x00"},
		{1, "", "\x01"},
		{12, "\x0c\x00", "\x0c\x0c\x00"},
		{255, "abc", "\xffabc"},
		{256, "x", "\x00x"},
		{258, "x", "\x02x"},
		{-1, "x", "\xffx"},
		{-254, "x", "\x02x"},
		{math.MaxInt, "x", "\xffx"},
		{math.MinInt, "x", "\x00x"},
	} {
		if got := vector.Text(c.kind, []byte(c.body)); string(got) != c.want {
			t.Errorf("Text(%d, %q) = %q, want %q", c.kind, c.body, got, c.want)
		}
	}
	if !bytes.Equal(vector.Text(7, nil), []byte{7}) {
		t.Error("the text of no body isn't its kind")
	}
}

// P6.1: all of them.

func TestAll(t *testing.T) {
	for n := 1; n <= api.MaxN; n++ {
		all := vector.All(n)
		if len(all) != n {
			t.Errorf("All(%d) = %v", n, all)
		}
		for i, who := range all {
			if who != i {
				t.Errorf("All(%d) = %v", n, all)
			}
		}
	}
	for _, n := range []int{0, -1, api.MaxN + 1, 100, math.MaxInt, math.MinInt} {
		if all := vector.All(n); len(all) != 0 {
			t.Errorf("All(%d) = %v", n, all)
		}
	}
}

// P6.1: the message with its vector.

func TestSign(t *testing.T) {
	for _, c := range []struct {
		kind, from int
		body       string
		to         []int
	}{
		{2, 0, "x", []int{0, 1, 2, 3}},
		{api.KindReply, 6, "body", []int{7}},
		{1, 7, "", []int{3, 1, 3, 7}},
		{0, 0, "x", nil},
		{300, 65540, "x", []int{-1, 65536, math.MaxInt, math.MinInt}},
		{-5, -6, "x", []int{5}},
		{math.MinInt, math.MaxInt, "x", []int{0, 0}},
		{4, 1, "x", slices.Repeat([]int{1, 2, 3}, 40)},
	} {
		for name, crypto := range map[string]api.Crypto{"book": book.New(), "keys": keys.New([]byte("seed"))} {
			m := vector.Sign(crypto, c.kind, c.from, []byte(c.body), c.to)
			if m.Kind != c.kind || m.From != c.from || string(m.Body) != c.body || len(m.Tags) != len(c.to) {
				t.Errorf("%s: %v is signed as %v", name, c, m)
				continue
			}
			text := append([]byte{byte(c.kind)}, c.body...)
			for i, who := range c.to {
				if m.Tags[i] != crypto.Tag(c.from, who, text) {
					t.Errorf("%s: %v: the tag at %d isn't the one from %d to %d", name, c, i, c.from, who)
				}
			}
		}
	}
}

// The tags are made in order, and no others are.
func TestSignMakesNoMore(t *testing.T) {
	b := book.New()
	m := vector.Sign(b, 2, 5, []byte("x"), []int{3, 0, 3, 1})
	want := []api.Tag{{0: 255, 31: 1}, {0: 255, 31: 2}, {0: 255, 31: 1}, {0: 255, 31: 3}}
	if !slices.Equal(m.Tags, want) {
		t.Errorf("the vector is %v", m.Tags)
	}
	for place := range m.Tags {
		vector.Check(b, m, place, place)
	}
	if digests, tags := b.Sizes(); digests != 0 || tags != 3 {
		t.Errorf("%d digests, %d tags were made", digests, tags)
	}
}

// P6.1, P6.2: what is signed for somebody holds for him, at his place.

func TestSignedHolds(t *testing.T) {
	for name, c := range map[string]api.Crypto{"book": book.New(), "keys": keys.New([]byte("seed"))} {
		for _, to := range [][]int{vector.All(1), vector.All(4), vector.All(7), {9}, {3, 8, 3}, {-1, math.MaxInt}} {
			m := vector.Sign(c, 3, 2, []byte("body"), to)
			for place, who := range to {
				if e := vector.Check(c, m, place, who); e != api.OK {
					t.Errorf("%s: to %v: at %d for %d: %d", name, to, place, who, e)
				}
			}
		}
	}
}

// P6.2: and for nobody else.

func TestHoldsForNobodyElse(t *testing.T) {
	for name, c := range map[string]api.Crypto{"book": book.New(), "keys": keys.New([]byte("seed"))} {
		for from := range 7 {
			m := vector.Sign(c, 3, from, []byte("body"), vector.All(7))
			for place := range m.Tags {
				for who := -1; who < 9; who++ {
					if e := vector.Check(c, m, place, who); (e == api.OK) != (who == place) || e != api.OK && e != api.ErrTag {
						t.Errorf("%s: from %d: at %d for %d: %d", name, from, place, who, e)
					}
				}
			}
		}
	}
}

// By a book a number doesn't go round.
func TestHoldsForNobodyFarOff(t *testing.T) {
	b := book.New()
	m := vector.Sign(b, 3, 1, []byte("body"), []int{2})
	for _, who := range []int{2 + 1<<8, 2 + 1<<16, 2 - 1<<16, 2 + 1<<32, math.MaxInt, math.MinInt} {
		if e := vector.Check(b, m, 0, who); e != api.ErrTag {
			t.Errorf("for %d: %d", who, e)
		}
	}
}

// P6.1: only of the message's text, from who says it.

func TestCheckRefusesAnotherMessage(t *testing.T) {
	for name, c := range map[string]api.Crypto{"book": book.New(), "keys": keys.New([]byte("seed"))} {
		m := vector.Sign(c, 3, 1, []byte("body"), vector.All(4))
		for what, change := range map[string]func(m *api.Message){
			"another kind":     func(m *api.Message) { m.Kind = 4 },
			"another from":     func(m *api.Message) { m.From = 0 },
			"another body":     func(m *api.Message) { m.Body = []byte("bodx") },
			"a longer body":    func(m *api.Message) { m.Body = []byte("body\x00") },
			"a shorter body":   func(m *api.Message) { m.Body = []byte("bod") },
			"no body":          func(m *api.Message) { m.Body = nil },
			"a kind in a body": func(m *api.Message) { m.Body = []byte("\x03body") },
			"a tag of noughts": func(m *api.Message) { m.Tags = make([]api.Tag, 4) },
			"another's tags":   func(m *api.Message) { m.Tags = slices.Repeat(m.Tags[:1], 4) },
			"no tags":          func(m *api.Message) { m.Tags = nil },
			"too few tags":     func(m *api.Message) { m.Tags = m.Tags[:2] },
			"tags from behind": func(m *api.Message) { m.Tags = m.Tags[1:] },
		} {
			other := m
			other.Tags = slices.Clone(m.Tags)
			change(&other)
			if e := vector.Check(c, other, 2, 2); e != api.ErrTag {
				t.Errorf("%s: %s: %d", name, what, e)
			}
		}
		for bit := range 256 {
			other := m
			other.Tags = slices.Clone(m.Tags)
			other.Tags[2][bit/8] ^= 1 << (bit % 8)
			if vector.Check(c, other, 2, 2) != api.ErrTag || vector.Check(c, other, 1, 1) != api.OK {
				t.Errorf("%s: bit %d of the third tag", name, bit)
			}
		}
		m.Kind += 256
		if e := vector.Check(c, m, 2, 2); e != api.OK {
			t.Errorf("%s: the same kind modulo 256: %d", name, e)
		}
	}
}

// P6.1: a place that the vector hasn't.

func TestCheckRefusesPlaces(t *testing.T) {
	for name, c := range map[string]api.Crypto{"book": book.New(), "keys": keys.New(nil), "nil": nil} {
		m := vector.Sign(c, 3, 1, []byte("body"), vector.All(4))
		for _, place := range []int{-1, 4, 5, 1 << 32, math.MaxInt, math.MinInt} {
			for _, who := range []int{0, 3, 4, place} {
				if e := vector.Check(c, m, place, who); e != api.ErrTag {
					t.Errorf("%s: at %d for %d: %d", name, place, who, e)
				}
			}
		}
		if e := vector.Check(c, api.Message{}, 0, 0); e != api.ErrTag {
			t.Errorf("%s: an empty message: %d", name, e)
		}
	}
}

// P6.1: no Crypto.

func TestNilCrypto(t *testing.T) {
	m := vector.Sign(nil, 3, 1, []byte("body"), vector.All(4))
	if m.Kind != 3 || m.From != 1 || string(m.Body) != "body" || len(m.Tags) != 0 {
		t.Errorf("signed by no Crypto: %v", m)
	}
	m = vector.Sign(book.New(), 3, 1, []byte("body"), vector.All(4))
	for place := range m.Tags {
		if e := vector.Check(nil, m, place, place); e != api.ErrTag {
			t.Errorf("checked by no Crypto: %d", e)
		}
	}
}

// A nil book is a Crypto: its tags are noughts, and none holds.
func TestNilBook(t *testing.T) {
	var b *book.Book
	m := vector.Sign(b, 3, 1, []byte("body"), vector.All(4))
	if !slices.Equal(m.Tags, make([]api.Tag, 4)) {
		t.Errorf("a nil book's vector: %v", m.Tags)
	}
	if e := vector.Check(b, m, 1, 1); e != api.ErrTag {
		t.Errorf("checked by a nil book: %d", e)
	}
}

// P5: a Crypto that panics.

type broken struct{ api.Crypto }

// late panics behind a first tag.
type late struct {
	api.Crypto
	tags int
}

func (l *late) Tag(from, to int, text []byte) api.Tag {
	l.tags++
	if l.tags > 1 {
		panic("no more tags")
	}
	return api.Tag{1}
}

func TestCryptoThatPanics(t *testing.T) {
	for name, c := range map[string]api.Crypto{"broken": broken{}, "nil": (*broken)(nil), "late": &late{}} {
		m := vector.Sign(c, 3, 1, []byte("body"), vector.All(4))
		if m.Kind != 3 || m.From != 1 || string(m.Body) != "body" || len(m.Tags) != 0 {
			t.Errorf("%s: signed as %v", name, m)
		}
		m.Tags = make([]api.Tag, 4)
		if e := vector.Check(c, m, 1, 1); e != api.ErrTag {
			t.Errorf("%s: checked as %d", name, e)
		}
	}
}

// The Ways: the Crypto is called by its interface, with what belongs to the message and nothing else.

type call struct {
	from, to int
	text     string
}

type listener struct {
	api.Crypto
	tags, checks []call
}

func (l *listener) Tag(from, to int, text []byte) api.Tag {
	l.tags = append(l.tags, call{from, to, string(text)})
	return api.Tag{byte(to)}
}

func (l *listener) Check(from, to int, text []byte, t api.Tag) bool {
	l.checks = append(l.checks, call{from, to, string(text)})
	return t == api.Tag{byte(to)}
}

func TestCryptoIsCalled(t *testing.T) {
	l := &listener{}
	m := vector.Sign(l, 3, 1, []byte("body"), []int{4, 2})
	if !slices.Equal(l.tags, []call{{1, 4, "\x03body"}, {1, 2, "\x03body"}}) || !slices.Equal(m.Tags, []api.Tag{{4}, {2}}) {
		t.Errorf("asked for the tags of %v, signed as %v", l.tags, m)
	}
	if vector.Check(l, m, 1, 2) != api.OK || vector.Check(l, m, 0, 2) != api.ErrTag {
		t.Error("it answers otherwise than the Crypto")
	}
	if !slices.Equal(l.checks, []call{{1, 2, "\x03body"}, {1, 2, "\x03body"}}) {
		t.Errorf("asked to check %v", l.checks)
	}
}

// What is handed in isn't changed, and answers share no memory with it.

func TestWhatIsHandedInStays(t *testing.T) {
	room := []byte("abcdefghijkl")
	body := room[2:6]
	to := []int{3, 1, 2}
	b := book.New()
	m := vector.Sign(b, 2, 0, body, to[:2])
	text := vector.Text(2, body)
	tags := slices.Clone(m.Tags)
	vector.Check(b, m, 0, 3)
	if string(room) != "abcdefghijkl" || !slices.Equal(to, []int{3, 1, 2}) || string(m.Body) != "cdef" || !slices.Equal(m.Tags, tags) {
		t.Error("what was handed in was changed")
	}
	copy(room, "ABCDEFGHIJKL")
	to[0] = 9
	if string(m.Body) != "cdef" || string(text) != "\x02cdef" || vector.Check(b, m, 0, 3) != api.OK {
		t.Error("a change to what was handed in changed an answer")
	}
	copy(m.Body, "....")
	_ = append(m.Body, "...."...)
	copy(text, ".....")
	if string(room) != "ABCDEFGHIJKL" || vector.Check(b, vector.Sign(b, 2, 0, []byte("cdef"), []int{3}), 0, 3) != api.OK {
		t.Error("a change to an answer changed something else")
	}
}

func TestAnswersAreApart(t *testing.T) {
	x, y := vector.All(4), vector.All(4)
	x[0] = 7
	if y[0] != 0 || vector.All(4)[0] != 0 {
		t.Error("two lists share memory")
	}
	b := book.New()
	m, n := vector.Sign(b, 2, 0, []byte("x"), []int{1}), vector.Sign(b, 2, 0, []byte("x"), []int{1})
	m.Tags[0], m.Body[0] = api.Tag{}, 'y'
	if vector.Check(b, n, 0, 1) != api.OK {
		t.Error("two messages share memory")
	}
}
