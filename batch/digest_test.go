package batch_test

import (
	"math/rand"
	"slices"
	"testing"

	"bottomry/api"
	"bottomry/batch"
	"bottomry/book"
	"bottomry/keys"
)

// asked is a Crypto that writes down what it is asked for, and changes what it is handed.
type asked struct {
	api.Crypto
	kinds []int
	texts []string
}

func (a *asked) Digest(kind int, text []byte) api.Digest {
	a.kinds, a.texts = append(a.kinds, kind), append(a.texts, string(text))
	clear(text)
	return api.Digest{1, 2, 3, 31: byte(len(a.kinds))}
}

// unable is a Crypto that panics.
type unable struct{ api.Crypto }

func (unable) Digest(int, []byte) api.Digest {
	panic("no digest")
}

// P15.1: a batch's digest.

func TestDigest(t *testing.T) {
	a := &asked{}
	for i, l := range [][]api.Entry{nil, {}, batchOf(4, 0b1111), make([]api.Entry, 5), {{Mask: 256}}} {
		before := slices.Clone(l)
		want := api.Digest{1, 2, 3, 31: byte(i + 1)}
		if d := batch.Digest(a, l); d != want || a.kinds[i] != 101 || a.texts[i] != string(bytesOf(l)) {
			t.Errorf("%v: %v, of the kind %d, of %q", l, d, a.kinds[i], a.texts[i])
		}
		if len(a.kinds) != i+1 || !slices.Equal(l, before) {
			t.Errorf("%v: asked %d times, the batch was %v", l, len(a.kinds), before)
		}
	}
}

func TestDigestByBookAndKeys(t *testing.T) {
	b := book.New()
	k := keys.New([]byte("seed"))
	for i, l := range [][]api.Entry{nil, batchOf(4, 0b1), batchOf(4, 0b1111), make([]api.Entry, 9)} {
		want := api.Digest{0: 101, 31: byte(i + 1)}
		if d := batch.Digest(b, l); d != want || d != b.Digest(101, bytesOf(l)) {
			t.Errorf("by a book: %v: %v", l, d)
		}
		if d := batch.Digest(k, l); d != k.Digest(101, bytesOf(l)) {
			t.Errorf("by keys: %v: %v", l, d)
		}
	}
}

// P5: a Crypto that isn't one tells no digest.
func TestDigestByNothing(t *testing.T) {
	for _, l := range [][]api.Entry{nil, batchOf(4, 0b1111), make([]api.Entry, 5)} {
		for name, k := range map[string]api.Crypto{"nil": nil, "a nil book": (*book.Book)(nil), "unable": unable{}, "an empty one": &unable{}} {
			if d := batch.Digest(k, l); d != (api.Digest{}) {
				t.Errorf("%s: %v", name, d)
			}
		}
		none := (*keys.Table)(nil)
		if d := batch.Digest(none, l); d != none.Digest(101, bytesOf(l)) {
			t.Errorf("a nil table: %v", d)
		}
	}
}

// P15.2: by a book unlike batches that may be have unlike digests, and the same ones the same.

func TestDigestsAreUnlike(t *testing.T) {
	for _, n := range []int{1, 4, 7} {
		var all [][]api.Entry
		for set := range 1 << mostClients {
			b := batchOf(n, set)
			all = append(all, b)
			for at := range b {
				for _, change := range otherwise() {
					all = append(all, with(b, at, change))
				}
			}
		}
		all = slices.DeleteFunc(all, func(b []api.Entry) bool { return batch.Check(b, n) != api.OK })
		if len(all) < 100 {
			t.Fatalf("of %d: just %d may be", n, len(all))
		}
		wantUnlike(t, all)
	}
}

// Where one row ends and the next one begins is told: what runs on is another batch.
func TestDigestsOfRowsThatRunOn(t *testing.T) {
	of := func(client int, letter, text string, mask uint32) api.Entry {
		return entry(api.Core{Client: client, Stamp: 1, Op: 1, Letter: letter, Text: text}, mask)
	}
	wantUnlike(t, [][]api.Entry{
		nil,
		{of(4, "a", "bc", 1)},
		{of(4, "ab", "c", 1)},
		{of(4, "a", "", 1)},
		{of(4, "a", "", 1), of(5, "a", "", 1)},
		{of(4, "a", string(bytesOf([]api.Entry{of(5, "a", "", 1)})), 1)},
		{of(4, "a", "\x01\x00\x00\x00\x23\x05", 1)},
		{of(4, "a", "", 2), of(5, "a", "", 1)},
		{of(4, "a", "", 1), of(5, "a", "", 2)},
	})
}

func TestDigestsOfManyBatches(t *testing.T) {
	r := rand.New(rand.NewSource(1501))
	var all [][]api.Entry
	for len(all) < 400 {
		// Numbers are few, so that batches come again.
		b := batchOf(4, r.Intn(1<<mostClients))
		for at := range b {
			b[at].Core.Stamp, b[at].Mask = 1+r.Int63n(2), uint32(r.Intn(3))
		}
		all = append(all, b)
	}
	wantUnlike(t, all)
}

// wantUnlike holds each two batches' digests, by one book, against whether they are the same.
func wantUnlike(t *testing.T, all [][]api.Entry) {
	t.Helper()
	k := book.New()
	var digests []api.Digest
	for _, b := range all {
		digests = append(digests, batch.Digest(k, b))
	}
	for i, a := range all {
		for j, b := range all {
			if alike := slices.Equal(a, b); (digests[i] == digests[j]) != alike || batch.Same(a, b) != alike {
				t.Fatalf("%v, %v: %v, %v, %v", a, b, digests[i], digests[j], batch.Same(a, b))
			}
		}
	}
}
