package change_test

import (
	"math/rand"
	"slices"
	"testing"

	"bottomry/api"
	"bottomry/book"
	"bottomry/change"
	"bottomry/keys"
)

// asked is a Crypto that writes down what it is asked for, and changes what it is handed.
type asked struct {
	api.Crypto
	kinds []int
	texts []string
}

func (a *asked) Digest(kind int, text []byte) api.Digest {
	a.kinds, a.texts = append(a.kinds, kind), append(a.texts, string(text))
	clear(text)
	return api.Digest{1, 2, 3, 31: byte(len(a.kinds))}
}

// unable is a Crypto that panics.
type unable struct{ api.Crypto }

func (unable) Digest(int, []byte) api.Digest {
	panic("no digest")
}

// P18.1: a change's digest.

func TestDigest(t *testing.T) {
	a := &asked{}
	for i, c := range append(otherwise(4), api.Change{}, least(), most(4), api.Change{View: -1}) {
		before := clone(c)
		want := api.Digest{1, 2, 3, 31: byte(i + 1)}
		if d := change.Digest(a, c); d != want || a.kinds[i] != 102 || a.texts[i] != string(bytesOf(c)) {
			t.Errorf("%v: %v, of the kind %d, of %x", c, d, a.kinds[i], a.texts[i])
		}
		if len(a.kinds) != i+1 || !alike(c, before) {
			t.Errorf("%v: asked %d times, the change was %v", c, len(a.kinds), before)
		}
	}
}

func TestDigestByBookAndKeys(t *testing.T) {
	b := book.New()
	k := keys.New([]byte("seed"))
	for i, c := range []api.Change{{}, least(), some(4), most(4), {View: -1}} {
		want := api.Digest{0: 102, 31: byte(i + 1)}
		if d := change.Digest(b, c); d != want || d != b.Digest(102, bytesOf(c)) {
			t.Errorf("by a book: %v: %v", c, d)
		}
		if d := change.Digest(k, c); d != k.Digest(102, bytesOf(c)) {
			t.Errorf("by keys: %v: %v", c, d)
		}
	}
}

// P5: a Crypto that isn't one tells no digest.
func TestDigestByNothing(t *testing.T) {
	for _, c := range []api.Change{{}, least(), some(4)} {
		for name, k := range map[string]api.Crypto{"nil": nil, "a nil book": (*book.Book)(nil), "unable": unable{}, "an empty one": &unable{}} {
			if d := change.Digest(k, c); d != (api.Digest{}) {
				t.Errorf("%s: %v", name, d)
			}
		}
		none := (*keys.Table)(nil)
		if d := change.Digest(none, c); d != none.Digest(102, bytesOf(c)) {
			t.Errorf("a nil table: %v", d)
		}
	}
}

// P18.2: by a book unlike changes that may be have unlike digests, and the same ones the same.

func TestDigestsAreUnlike(t *testing.T) {
	for _, n := range []int{1, 4, 7} {
		all := append(otherwise(n), least(), least0(), most(n), most(n))
		for set := range 1 << mostClients {
			all = append(all,
				changed(some(n), func(c *api.Change) { c.Prepared[1].Batch = batchOf(n, set) }),
				changed(some(n), func(c *api.Change) { c.Proposed[1].Batch = batchOf(n, set) }))
		}
		all = slices.DeleteFunc(all, func(c api.Change) bool { return change.Check(c, n) != api.OK })
		if len(all) < 100 {
			t.Fatalf("of %d: just %d may be", n, len(all))
		}
		wantUnlike(t, all)
	}
}

// Where one row ends and the next one begins is told: what is in the one is another change than what is in the other.
func TestDigestsOfRowsThatRunOn(t *testing.T) {
	var all []api.Change
	for code := range 3 * 3 * 3 {
		c := api.Change{View: 1, Points: pointsOf(0, 4, 8)[:1+code%3]}
		c.Prepared = proofsOf(1, 0, 2, 0)[:code/3%3]
		c.Proposed = proofsOf(1, 0, 2, 0)[:code/9]
		all = append(all, c)
	}
	wantUnlike(t, all)
}

func TestDigestsOfManyChanges(t *testing.T) {
	r := rand.New(rand.NewSource(1802))
	var all []api.Change
	for len(all) < 400 {
		// Numbers are few, so that changes come again.
		c := api.Change{View: 1 + r.Int63n(2), Points: pointsOf(0, 4)[:1+r.Intn(2)]}
		c.Prepared = proofsOf(1+r.Int63n(2), 0)[:r.Intn(2)]
		c.Proposed = proofsOf(1+r.Int63n(2), 0)[:r.Intn(2)]
		for i := range c.Proposed {
			c.Proposed[i].Batch = batchOf(4, r.Intn(2))
		}
		all = append(all, c)
	}
	wantUnlike(t, all)
}

// wantUnlike holds each two changes' digests, by one book, against whether they are the same.
func wantUnlike(t *testing.T, all []api.Change) {
	t.Helper()
	k := book.New()
	var digests []api.Digest
	for _, c := range all {
		digests = append(digests, change.Digest(k, c))
	}
	for i, a := range all {
		for j, b := range all {
			if is := alike(a, b); (digests[i] == digests[j]) != is || change.Same(a, b) != is {
				t.Fatalf("%v, %v: %v, %v, %v", a, b, digests[i], digests[j], change.Same(a, b))
			}
		}
	}
}
