package book_test

import (
	"bytes"
	"math"
	"strings"
	"testing"

	"bottomry/api"
	"bottomry/book"
)

// P5.1: digests.

func TestDigest(t *testing.T) {
	b := book.New()
	for i, c := range []struct {
		kind int
		text string
		want api.Digest
	}{
		{3, "a", api.Digest{0: 3, 31: 1}},
		{3, "b", api.Digest{0: 3, 31: 2}},
		{3, "a", api.Digest{0: 3, 31: 1}},
		{4, "a", api.Digest{0: 4, 31: 3}},
		{0, "", api.Digest{31: 4}},
		{0, "a", api.Digest{31: 5}},
		{255, "a", api.Digest{0: 255, 31: 6}},
		{3, "", api.Digest{0: 3, 31: 7}},
		{3, "a\x00", api.Digest{0: 3, 31: 8}},
		{3, "\x03a", api.Digest{0: 3, 31: 9}},
		{0, "", api.Digest{31: 4}},
		{4, "a", api.Digest{0: 4, 31: 3}},
		{3, strings.Repeat("a", 5000), api.Digest{0: 3, 31: 10}},
		{3, "b", api.Digest{0: 3, 31: 2}},
	} {
		if got := b.Digest(c.kind, []byte(c.text)); got != c.want {
			t.Errorf("%d: Digest(%d, %.9q) = %v, want %v", i, c.kind, c.text, got, c.want)
		}
	}
}

// A kind goes round at 256, and its text is the same one then.
func TestDigestOfKindsModulo256(t *testing.T) {
	for _, c := range []struct {
		kind int
		is   byte
	}{
		{256, 0}, {257, 1}, {511, 255}, {-1, 255}, {-255, 1}, {-256, 0}, {0x10305, 5}, {math.MaxInt, 255}, {math.MinInt, 0}, {math.MinInt + 3, 3},
	} {
		b := book.New()
		if got := b.Digest(c.kind, []byte("x")); got != (api.Digest{0: c.is, 31: 1}) {
			t.Errorf("Digest(%d, x) = %v", c.kind, got)
		}
		if got := b.Digest(int(c.is), []byte("x")); got != (api.Digest{0: c.is, 31: 1}) {
			t.Errorf("Digest(%d, x) = %v behind the kind %d", c.is, got, c.kind)
		}
		if digests, tags := b.Sizes(); digests != 1 || tags != 0 {
			t.Errorf("kinds %d and %d: %d digests, %d tags", c.kind, c.is, digests, tags)
		}
	}
}

// The number has 8 bytes, the greatest first.
func TestNumbersOfMoreBytes(t *testing.T) {
	b := book.New()
	const all = 1<<16 + 3
	for i := range all {
		n := i + 1
		text := []byte{byte(i >> 16), byte(i >> 8), byte(i)}
		if got := b.Digest(9, text); got != (api.Digest{0: 9, 29: byte(n >> 16), 30: byte(n >> 8), 31: byte(n)}) {
			t.Fatalf("the digest number %d is %v", n, got)
		}
		if got := b.Tag(1, 2, text); got != (api.Tag{0: 255, 29: byte(n >> 16), 30: byte(n >> 8), 31: byte(n)}) {
			t.Fatalf("the tag number %d is %v", n, got)
		}
	}
	if digests, tags := b.Sizes(); digests != all || tags != all {
		t.Errorf("%d digests, %d tags", digests, tags)
	}
}

// P5.1: tags.

func TestTag(t *testing.T) {
	b := book.New()
	for i, c := range []struct {
		from, to int
		text     string
		want     byte
	}{
		{1, 2, "a", 1},
		{2, 1, "a", 2},
		{1, 2, "a", 1},
		{1, 2, "", 3},
		{1, 1, "a", 4},
		{1, 3, "a", 5},
		{1, 2, "b", 6},
		{-1, 2, "a", 7},
		{1, 65538, "a", 8},
		{257, 2, "a", 9},
		{65537, 2, "a", 10},
		{math.MinInt, math.MaxInt, "a", 11},
		{math.MaxInt, math.MinInt, "a", 12},
		{0, 0, "", 13},
		{math.MinInt, math.MaxInt, "a", 11},
		{2, 1, "a", 2},
		{1, 2, "", 3},
	} {
		want := api.Tag{0: 255, 31: c.want}
		if got := b.Tag(c.from, c.to, []byte(c.text)); got != want {
			t.Errorf("%d: Tag(%d, %d, %q) = %v, want %v", i, c.from, c.to, c.text, got, want)
		}
		if !b.Check(c.from, c.to, []byte(c.text), want) || !b.Said(c.from, c.to, []byte(c.text)) {
			t.Errorf("%d: the tag from %d to %d of %q doesn't hold", i, c.from, c.to, c.text)
		}
	}
}

// Digests and tags are counted apart.
func TestSizes(t *testing.T) {
	b := book.New()
	sizes := func(wantDigests, wantTags int) {
		t.Helper()
		if digests, tags := b.Sizes(); digests != wantDigests || tags != wantTags {
			t.Errorf("%d digests, %d tags, want %d, %d", digests, tags, wantDigests, wantTags)
		}
	}
	sizes(0, 0)
	b.Digest(1, []byte("a"))
	sizes(1, 0)
	b.Digest(2, []byte("a"))
	b.Digest(2, []byte("a"))
	sizes(2, 0)
	if got := b.Tag(1, 2, []byte("a")); got != (api.Tag{0: 255, 31: 1}) {
		t.Errorf("the first tag behind two digests is %v", got)
	}
	sizes(2, 1)
	b.Tag(1, 2, []byte("a"))
	sizes(2, 1)
	b.Tag(2, 1, nil)
	sizes(2, 2)
	if got := b.Digest(5, nil); got != (api.Digest{0: 5, 31: 3}) {
		t.Errorf("the third digest behind two tags is %v", got)
	}
	sizes(3, 2)
}

// Who only asks makes nothing.
func TestAskingMakesNothing(t *testing.T) {
	b := book.New()
	for range 2 {
		if b.Check(1, 2, []byte("a"), api.Tag{0: 255, 31: 1}) || b.Check(1, 2, []byte("a"), api.Tag{}) || b.Said(1, 2, []byte("a")) {
			t.Error("what nobody made holds")
		}
	}
	if digests, tags := b.Sizes(); digests != 0 || tags != 0 {
		t.Errorf("%d digests, %d tags", digests, tags)
	}
	if b.Tag(3, 4, nil) != (api.Tag{0: 255, 31: 1}) || b.Digest(3, nil) != (api.Digest{0: 3, 31: 1}) {
		t.Error("what was only asked was counted")
	}
}

// P5.2: unlike texts, or kinds, have unlike digests.

func TestDigestsAreUnlike(t *testing.T) {
	b := book.New()
	type what struct {
		kind int
		text string
	}
	seen := map[api.Digest]what{}
	for range 2 {
		for kind := range 256 {
			for _, text := range []string{"", "a", "b", "aa", "\x00", "\x00\x00"} {
				d, w := b.Digest(kind, []byte(text)), what{kind, text}
				if before, ok := seen[d]; ok && before != w {
					t.Fatalf("%v and %v have one digest", before, w)
				}
				seen[d] = w
			}
		}
	}
	if len(seen) != 256*6 {
		t.Errorf("%d digests of %d texts", len(seen), 256*6)
	}
}

// P5.2: a tag that nobody made doesn't hold.

func TestCheckRefuses(t *testing.T) {
	b, text := book.New(), []byte("text")
	first := b.Tag(4, 5, []byte("other"))
	tag := b.Tag(1, 2, text)
	for name, holds := range map[string]bool{
		"from another one":         b.Check(3, 2, text, tag),
		"to another one":           b.Check(1, 3, text, tag),
		"back":                     b.Check(2, 1, text, tag),
		"from oneself":             b.Check(1, 1, text, tag),
		"of another text":          b.Check(1, 2, []byte("tex"), tag),
		"of a longer text":         b.Check(1, 2, []byte("text\x00"), tag),
		"of no text":               b.Check(1, 2, nil, tag),
		"a number modulo 2^8":      b.Check(1+1<<8, 2, text, tag),
		"a number modulo 2^16":     b.Check(1, 2+1<<16, text, tag),
		"a number modulo 2^32":     b.Check(1+1<<32, 2, text, tag),
		"a tag of noughts":         b.Check(1, 2, text, api.Tag{}),
		"another tag that holds":   b.Check(1, 2, text, first),
		"the tag for another text": b.Check(4, 5, []byte("other"), tag),
		"a tag that comes next":    b.Check(1, 2, text, api.Tag{0: 255, 31: 3}),
		"by another book":          book.New().Check(1, 2, text, tag),
		"by a nil book":            (*book.Book)(nil).Check(1, 2, text, tag),
	} {
		if holds {
			t.Errorf("it holds: %s", name)
		}
	}
	for i := range tag {
		for bit := range 8 {
			other := tag
			other[i] ^= 1 << bit
			if b.Check(1, 2, text, other) {
				t.Errorf("bit %d of byte %d isn't seen", bit, i)
			}
		}
	}
	if !b.Check(1, 2, text, tag) || !b.Check(4, 5, []byte("other"), first) {
		t.Error("a tag doesn't hold any more")
	}
}

func TestSaidRefuses(t *testing.T) {
	b := book.New()
	b.Tag(1, 2, []byte("text"))
	b.Digest(1, []byte("digested"))
	for name, said := range map[string]bool{
		"from another one":     b.Said(3, 2, []byte("text")),
		"to another one":       b.Said(1, 3, []byte("text")),
		"back":                 b.Said(2, 1, []byte("text")),
		"another text":         b.Said(1, 2, []byte("tex")),
		"no text":              b.Said(1, 2, nil),
		"what was digested":    b.Said(1, 2, []byte("digested")),
		"a number modulo 2^16": b.Said(1+1<<16, 2, []byte("text")),
		"in another book":      book.New().Said(1, 2, []byte("text")),
	} {
		if said {
			t.Errorf("it was said: %s", name)
		}
	}
	if !b.Said(1, 2, []byte("text")) {
		t.Error("what was said isn't known")
	}
}

// P5.1, and P5: no book.

func TestNilBook(t *testing.T) {
	var b *book.Book
	for range 2 {
		if b.Digest(3, []byte("a")) != (api.Digest{}) || b.Tag(1, 2, []byte("a")) != (api.Tag{}) {
			t.Error("a nil book has a digest, or a tag")
		}
		if b.Check(1, 2, []byte("a"), b.Tag(1, 2, []byte("a"))) || b.Check(1, 2, []byte("a"), api.Tag{0: 255, 31: 1}) || b.Said(1, 2, []byte("a")) {
			t.Error("by a nil book a tag holds")
		}
		if digests, tags := b.Sizes(); digests != 0 || tags != 0 {
			t.Errorf("a nil book has %d digests, %d tags", digests, tags)
		}
	}
}

func TestNoughtBook(t *testing.T) {
	var b book.Book
	if digests, tags := b.Sizes(); digests != 0 || tags != 0 || b.Said(1, 2, nil) || b.Check(1, 2, nil, api.Tag{}) {
		t.Error("a book that New didn't make knows something")
	}
	if b.Digest(3, nil) != (api.Digest{0: 3, 31: 1}) || b.Tag(1, 2, nil) != (api.Tag{0: 255, 31: 1}) || !b.Said(1, 2, nil) {
		t.Error("a book that New didn't make learns nothing")
	}
}

func TestNilAndEmptyAreOne(t *testing.T) {
	b := book.New()
	if b.Digest(1, nil) != b.Digest(1, []byte{}) || b.Tag(1, 2, []byte{}) != b.Tag(1, 2, nil) {
		t.Error("what is nil and what is empty have two digests, or tags")
	}
	if !b.Said(1, 2, nil) || !b.Check(1, 2, []byte{}, b.Tag(1, 2, nil)) {
		t.Error("what is nil and what is empty aren't one")
	}
}

// A book is a Crypto by its pointer.
func TestBookIsACrypto(t *testing.T) {
	b := book.New()
	var c api.Crypto = b
	if c.Digest(1, nil) != (api.Digest{0: 1, 31: 1}) || !c.Check(1, 2, nil, c.Tag(1, 2, nil)) || !b.Said(1, 2, nil) {
		t.Error("as a Crypto it answers otherwise")
	}
}

// What is handed in isn't changed, and what is kept is the book's own.
func TestTextIsTheBooksOwn(t *testing.T) {
	b := book.New()
	room := []byte("abcdefghijkl")
	all := bytes.Clone(room)
	text := room[2:6]
	digest, tag := b.Digest(1, text), b.Tag(1, 2, text)
	b.Check(1, 2, text, tag)
	b.Said(1, 2, text)
	if !bytes.Equal(room, all) {
		t.Errorf("what was handed in was changed: %q", room)
	}
	copy(room, "ABCDEFGHIJKL")
	if b.Said(1, 2, text) || b.Check(1, 2, text, tag) {
		t.Error("a change to what was handed in was said")
	}
	if b.Digest(1, []byte("cdef")) != digest || !b.Check(1, 2, []byte("cdef"), tag) {
		t.Error("a change to what was handed in changed what is known")
	}
}

func TestBooksAreApart(t *testing.T) {
	x, y := book.New(), book.New()
	x.Digest(1, []byte("a"))
	x.Tag(1, 2, []byte("a"))
	if digests, tags := y.Sizes(); digests != 0 || tags != 0 || y.Said(1, 2, []byte("a")) {
		t.Error("one book knows what another one does")
	}
}
