package keys_test

import (
	"bytes"
	"crypto/hmac"
	"crypto/sha256"
	"math"
	"testing"

	"bottomry/api"
	"bottomry/keys"
)

// P4.1: the key of two.

func TestKey(t *testing.T) {
	for _, seed := range []string{"", "seed", "Seed", string(make([]byte, 200))} {
		k := keys.New([]byte(seed))
		for _, c := range []struct {
			a, b int
			text string
		}{
			{1, 2, "\x00\x01\x00\x02"},
			{0, 0, "\x00\x00\x00\x00"},
			{0, 7, "\x00\x00\x00\x07"},
			{5, 5, "\x00\x05\x00\x05"},
			{255, 256, "\x00\xff\x01\x00"},
			{2, 256, "\x00\x02\x01\x00"},
			{0x0102, 0x0304, "\x01\x02\x03\x04"},
			{0, 65535, "\x00\x00\xff\xff"},
			{65535, 65535, "\xff\xff\xff\xff"},
		} {
			want := tagOf([]byte(seed), []byte(c.text))
			if got := k.Key(c.a, c.b); got != want {
				t.Errorf("seed %q: Key(%d, %d) = %x, want %x", seed, c.a, c.b, got, want)
			}
			if got := k.Key(c.b, c.a); got != want {
				t.Errorf("seed %q: Key(%d, %d) = %x, want %x", seed, c.b, c.a, got, want)
			}
		}
	}
}

// The lower number is told behind the round.
func TestKeyGoesRound(t *testing.T) {
	k := keys.New([]byte("seed"))
	for _, c := range []struct{ a, b, x, y int }{
		{65536, 1, 0, 1},
		{1, 65536, 0, 1},
		{65537, 2, 1, 2},
		{2, 65539, 2, 3},
		{65538, 65537, 1, 2},
		{-1, 0, 0, 65535},
		{-65536, 3, 0, 3},
		{-65535, -65534, 1, 2},
		{math.MaxInt, 4, 4, 65535},
		{math.MinInt, 4, 0, 4},
		{math.MinInt, math.MaxInt, 0, 65535},
	} {
		want := keys.New([]byte("seed")).Key(c.x, c.y)
		if k.Key(c.a, c.b) != want || k.Key(c.b, c.a) != want {
			t.Errorf("Key(%d, %d) isn't Key(%d, %d)", c.a, c.b, c.x, c.y)
		}
	}
}

func TestKeysAreUnlike(t *testing.T) {
	seen := map[api.Tag][2]int{}
	k := keys.New([]byte("seed"))
	for a := range 40 {
		for b := a; b < 40; b++ {
			key := k.Key(a, b)
			if two, ok := seen[key]; ok {
				t.Errorf("%d and %d have the key of %v", a, b, two)
			}
			seen[key] = [2]int{a, b}
		}
	}
	if k.Key(1, 2) == keys.New([]byte("sees")).Key(1, 2) {
		t.Error("two seeds make one key")
	}
}

// What is kept is only what was made: keys come out the same, in whatever order and however often they are asked for.
func TestKeysStay(t *testing.T) {
	k := keys.New([]byte("seed"))
	for range 2 {
		for a := range 60 {
			for b := range 60 {
				low, high := byte(min(a, b)), byte(max(a, b))
				if k.Key(a, b) != tagOf([]byte("seed"), []byte{0, low, 0, high}) {
					t.Fatalf("Key(%d, %d) is another one behind other keys", a, b)
				}
			}
		}
	}
}

// P4.1: what stands for a text.

func TestDigest(t *testing.T) {
	k := keys.New([]byte("seed"))
	for _, text := range []string{"", "a", "abc", string(make([]byte, 100))} {
		for _, c := range []struct {
			kind int
			is   byte
		}{
			{0, 0}, {1, 1}, {12, 12}, {255, 255}, {256, 0}, {257, 1}, {-1, 255}, {-256, 0}, {0x10305, 5}, {math.MaxInt, 255}, {math.MinInt, 0}, {math.MinInt + 3, 3},
		} {
			want := api.Digest(sha256.Sum256(append([]byte{c.is}, text...)))
			if got := k.Digest(c.kind, []byte(text)); got != want {
				t.Errorf("Digest(%d, %q) = %x, want %x", c.kind, text, got, want)
			}
		}
	}
}

func TestDigestHasNoSeed(t *testing.T) {
	if keys.New([]byte("x")).Digest(3, []byte("text")) != keys.New([]byte("y")).Digest(3, []byte("text")) {
		t.Error("the same text has two digests")
	}
	k := keys.New(nil)
	if k.Digest(1, []byte("x")) == k.Digest(2, []byte("x")) || k.Digest(1, []byte("x")) == k.Digest(1, []byte("y")) {
		t.Error("unlike kinds, or texts, have one digest")
	}
	if k.Digest(1, nil) != k.Digest(1, []byte{}) {
		t.Error("what is nil and what is empty aren't one")
	}
}

// P4.1: who said a text to whom.

func TestTag(t *testing.T) {
	for _, c := range []struct {
		from, to  int
		key, text string
	}{
		{1, 2, "\x00\x01\x00\x02", "\x00\x01\x00\x02"},
		{2, 1, "\x00\x01\x00\x02", "\x00\x02\x00\x01"},
		{3, 3, "\x00\x03\x00\x03", "\x00\x03\x00\x03"},
		{256, 255, "\x00\xff\x01\x00", "\x01\x00\x00\xff"},
		{65535, 0, "\x00\x00\xff\xff", "\xff\xff\x00\x00"},
		{65537, 2, "\x00\x01\x00\x02", "\x00\x01\x00\x02"},
		{2, 65537, "\x00\x01\x00\x02", "\x00\x02\x00\x01"},
		{-1, 5, "\x00\x05\xff\xff", "\xff\xff\x00\x05"},
		{math.MinInt, math.MaxInt, "\x00\x00\xff\xff", "\x00\x00\xff\xff"},
	} {
		k := keys.New([]byte("seed"))
		key := tagOf([]byte("seed"), []byte(c.key))
		for _, text := range []string{"", "x", "text", string(make([]byte, 100))} {
			want := tagOf(key[:], []byte(c.text+text))
			if got := k.Tag(c.from, c.to, []byte(text)); got != want {
				t.Errorf("Tag(%d, %d, %q) = %x, want %x", c.from, c.to, text, got, want)
			}
			if !k.Check(c.from, c.to, []byte(text), want) {
				t.Errorf("the tag from %d to %d of %q doesn't hold", c.from, c.to, text)
			}
		}
	}
}

func TestCheckRefuses(t *testing.T) {
	k, text := keys.New([]byte("seed")), []byte("text")
	tag := k.Tag(1, 2, text)
	for name, holds := range map[string]bool{
		"from another one":    k.Check(3, 2, text, tag),
		"to another one":      k.Check(1, 3, text, tag),
		"back":                k.Check(2, 1, text, tag),
		"from oneself":        k.Check(1, 1, text, tag),
		"of another text":     k.Check(1, 2, []byte("tex"), tag),
		"of a longer text":    k.Check(1, 2, []byte("text\x00"), tag),
		"of no text":          k.Check(1, 2, nil, tag),
		"a tag of noughts":    k.Check(1, 2, text, api.Tag{}),
		"by another seed":     keys.New([]byte("sees")).Check(1, 2, text, tag),
		"by no seed":          keys.New(nil).Check(1, 2, text, tag),
		"by a nil table":      (*keys.Table)(nil).Check(1, 2, text, tag),
		"a key for a tag":     k.Check(1, 2, text, k.Key(1, 2)),
		"a digest for a tag":  k.Check(1, 2, text, api.Tag(k.Digest(1, text))),
		"a text's and a to's": k.Check(1, 0x0274, []byte("ext"), tag),
		"the way back's tag":  k.Check(1, 2, text, k.Tag(2, 1, text)),
		"another way's tag":   k.Check(1, 2, text, k.Tag(1, 3, text)),
		"another text's tag":  k.Check(1, 2, text, k.Tag(1, 2, nil)),
		"a number modulo 256": k.Check(1+256, 2, text, tag),
	} {
		if holds {
			t.Errorf("it holds: %s", name)
		}
	}
	for i := range tag {
		for bit := range 8 {
			other := tag
			other[i] ^= 1 << bit
			if k.Check(1, 2, text, other) {
				t.Errorf("bit %d of byte %d isn't seen", bit, i)
			}
		}
	}
	if !k.Check(1, 2, text, tag) || !k.Check(1+1<<16, 2-1<<16, text, tag) {
		t.Error("a tag doesn't hold any more")
	}
}

// The tag is checked by whoever has the same seed, whether he made it or not.
func TestCheckByAnotherTable(t *testing.T) {
	tag := keys.New([]byte("seed")).Tag(4, 9, []byte("text"))
	if !keys.New([]byte("seed")).Check(4, 9, []byte("text"), tag) {
		t.Error("the same seed doesn't know the tag")
	}
}

// Promise P4.1, and P5: no table.

func TestTableWithoutSeed(t *testing.T) {
	var none *keys.Table
	for name, k := range map[string]*keys.Table{"nil": none, "nought": {}, "of no seed": keys.New([]byte{})} {
		for range 2 {
			if k.Key(2, 1) != keys.New(nil).Key(1, 2) || k.Key(1, 2) != tagOf(nil, []byte{0, 1, 0, 2}) {
				t.Errorf("a table that is %s has another key", name)
			}
			tag := k.Tag(1, 2, []byte("x"))
			if tag != keys.New(nil).Tag(1, 2, []byte("x")) || !k.Check(1, 2, []byte("x"), tag) || k.Check(2, 1, []byte("x"), tag) {
				t.Errorf("a table that is %s has another tag", name)
			}
			if k.Digest(7, []byte("x")) != keys.New(nil).Digest(7, []byte("x")) {
				t.Errorf("a table that is %s has another digest", name)
			}
		}
	}
}

// The Ways: a table is a Crypto by its pointer.
func TestTableIsACrypto(t *testing.T) {
	var c api.Crypto = keys.New([]byte("seed"))
	k := keys.New([]byte("seed"))
	if c.Tag(1, 2, nil) != k.Tag(1, 2, nil) || c.Digest(1, nil) != k.Digest(1, nil) || !c.Check(1, 2, nil, k.Tag(1, 2, nil)) {
		t.Error("as a Crypto it answers otherwise")
	}
}

// What is handed in isn't changed, and not kept.

func TestSeedIsTheTablesOwn(t *testing.T) {
	seed := []byte("seed")
	k := keys.New(seed)
	k.Key(1, 2)
	copy(seed, "SEED")
	if k.Key(3, 4) != keys.New([]byte("seed")).Key(3, 4) || k.Key(1, 2) != keys.New([]byte("seed")).Key(1, 2) {
		t.Error("a change to what was handed in changed a key")
	}
}

func TestWhatIsHandedInStays(t *testing.T) {
	room := []byte("abcdefghijklmnopqrstuvwxyz0123456789")
	all := bytes.Clone(room)
	text := room[4:8]
	k := keys.New(room[:3])
	k.Key(1, 2)
	k.Digest(1, text)
	k.Check(1, 2, text, k.Tag(1, 2, text))
	if !bytes.Equal(room, all) {
		t.Errorf("what was handed in was changed: %q", room)
	}
}

func TestTablesAreApart(t *testing.T) {
	x, y := keys.New([]byte("x")), keys.New([]byte("y"))
	first := x.Key(1, 2)
	if y.Key(1, 2) == first || x.Key(1, 2) != first {
		t.Error("one table's key is another one's")
	}
	z := *y
	if z.Key(3, 4) != y.Key(3, 4) || z.Key(1, 2) != y.Key(1, 2) {
		t.Error("a copy of a table has other keys")
	}
}

// tagOf is a tag by the library.
func tagOf(key, text []byte) api.Tag {
	h := hmac.New(sha256.New, key)
	h.Write(text)
	return api.Tag(h.Sum(nil))
}
