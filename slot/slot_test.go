package slot_test

import (
	"math"
	"math/rand"
	"reflect"
	"slices"
	"testing"

	"bottomry/api"
	"bottomry/slot"
)

var (
	one   = api.Digest{1}
	other = api.Digest{31: 1}
	third = api.Digest{}
)

// entries are a batch that may be.
func entries() []api.Entry {
	return []api.Entry{
		{Core: api.Core{Client: 1, Stamp: 2, Op: 1, Letter: "a", A: 3, B: 4, Text: "0"}, Mask: 5},
		{Core: api.Core{Client: 2, Stamp: 7, Op: 2, Letter: "b"}, Mask: 1},
	}
}

// said is a slot as the chapter tells of it: each replica's first votes.
type said struct {
	n        int
	proposed bool
	digest   api.Digest
	batch    []api.Entry
	prepares map[int]api.Digest
	commits  map[int]api.Digest
}

func newSaid(n int) *said {
	return &said{n: n, prepares: map[int]api.Digest{}, commits: map[int]api.Digest{}}
}

func (s *said) propose(d api.Digest, b []api.Entry) api.Errno {
	if !s.proposed {
		s.proposed, s.digest, s.batch = true, d, b
		return api.OK
	}
	if s.digest == d {
		return api.ErrTwice
	}
	return api.ErrForm
}

func (s *said) vote(votes map[int]api.Digest, who int, d api.Digest) api.Errno {
	if who < 0 || who > s.n-1 {
		return api.ErrWho
	}
	if old, ok := votes[who]; ok && old == d {
		return api.ErrTwice
	} else if ok {
		return api.ErrForm
	}
	votes[who] = d
	return api.OK
}

// faults are how many of n replicas may lie.
func faults(n int) int {
	return []int{0, 0, 0, 0, 1, 1, 1, 2}[n]
}

func (s *said) prepared(primary int) bool {
	many := 0
	for who, d := range s.prepares {
		if who != primary && d == s.digest {
			many++
		}
	}
	return s.proposed && many >= 2*faults(s.n)
}

func (s *said) committed() bool {
	many := 0
	for _, d := range s.commits {
		if d == s.digest {
			many++
		}
	}
	return s.proposed && many >= 2*faults(s.n)+1
}

// agrees holds all that a slot answers against the second way.
func agrees(t *testing.T, x *slot.Slot, s *said) {
	t.Helper()
	d, b, ok := x.Proposal()
	if d != s.digest || ok != s.proposed || len(b) != len(s.batch) || len(b) > 0 && !reflect.DeepEqual(b, s.batch) {
		t.Fatal("Proposal:", d, b, ok, s)
	}
	if p, c := x.Votes(); p != len(s.prepares) || c != len(s.commits) {
		t.Fatal("Votes:", p, c, s)
	}
	if x.Committed() != s.committed() {
		t.Fatal("Committed:", x.Committed(), s)
	}
	for primary := -2; primary <= s.n+1; primary++ {
		if x.Prepared(primary) != s.prepared(primary) {
			t.Fatal("Prepared:", primary, x.Prepared(primary), s)
		}
	}
}

// P21.1: New, of each n around those that may be.
func TestNew(t *testing.T) {
	for _, n := range []int{math.MinInt, -4, -1, 0, 8, 9, 260, 1<<32 + 4, math.MaxInt} {
		if slot.New(n) != nil {
			t.Error("a slot of", n)
		}
	}
	for n := 1; n <= 7; n++ {
		x := slot.New(n)
		if x == nil {
			t.Fatal("no slot of", n)
		}
		agrees(t, x, newSaid(n))
	}
}

// P21.1: the chapter's example, step by step.
func TestExample(t *testing.T) {
	x := slot.New(4)
	if x.Propose(one, entries()) != api.OK || x.Prepared(0) || x.Prepare(1, one) != api.OK || x.Prepared(0) || x.Prepare(2, one) != api.OK {
		t.Error("too early")
	}
	if !x.Prepared(0) || !x.Prepared(3) || x.Prepared(1) || x.Prepared(2) || x.Committed() {
		t.Error("prepared for 0 and for 3 alone")
	}
}

// P21.1: the first proposal stays.
func TestPropose(t *testing.T) {
	for n := 1; n <= 7; n++ {
		x := slot.New(n)
		if e := x.Propose(one, entries()); e != api.OK {
			t.Error(e)
		}
		for range 2 {
			if e := x.Propose(one, nil); e != api.ErrTwice {
				t.Error("the same:", e)
			}
			if e := x.Propose(one, entries()[:1]); e != api.ErrTwice {
				t.Error("the same digest, another batch:", e)
			}
			if e := x.Propose(other, entries()); e != api.ErrForm {
				t.Error("another one:", e)
			}
			if e := x.Propose(third, nil); e != api.ErrForm {
				t.Error("the nought digest:", e)
			}
		}
		if d, b, ok := x.Proposal(); d != one || !ok || !reflect.DeepEqual(b, entries()) {
			t.Error(d, b, ok)
		}
	}
}

// P21.1: a proposal of the nought digest, and of no entries, is one.
func TestProposeNothing(t *testing.T) {
	for _, b := range [][]api.Entry{nil, {}} {
		x := slot.New(1)
		if x.Prepared(0) || x.Propose(api.Digest{}, b) != api.OK || !x.Prepared(0) {
			t.Error("a proposal of nothing")
		}
		if d, l, ok := x.Proposal(); d != (api.Digest{}) || len(l) != 0 || !ok {
			t.Error(d, l, ok)
		}
		if x.Propose(api.Digest{}, entries()) != api.ErrTwice || x.Propose(one, nil) != api.ErrForm {
			t.Error("twice")
		}
		if _, l, _ := x.Proposal(); len(l) != 0 {
			t.Error("the batch was replaced")
		}
	}
}

// P21.1: a batch is as it was handed in, whatever it is.
func TestAnyBatch(t *testing.T) {
	b := make([]api.Entry, 9)
	for i := range b {
		b[i] = api.Entry{Core: api.Core{Client: -i, Stamp: math.MinInt64, Op: 99, Letter: "\xff", Text: string(make([]byte, 300))}, Mask: math.MaxUint32}
	}
	x := slot.New(4)
	if x.Propose(one, b) != api.OK {
		t.Error("Propose")
	}
	if d, l, ok := x.Proposal(); d != one || !ok || !reflect.DeepEqual(l, b) {
		t.Error(d, l, ok)
	}
}

// P21.1: votes' errors, of both kinds, ahead of a proposal and behind it.
func TestVoteErrors(t *testing.T) {
	for n := 1; n <= 7; n++ {
		for round := range 4 {
			x := slot.New(n)
			if round%2 == 1 {
				x.Propose(other, nil)
			}
			vote, elseVote := x.Prepare, x.Commit
			if round >= 2 {
				vote, elseVote = elseVote, vote
			}
			for _, who := range []int{math.MinInt, -256, -1, n, n + 1, 8, 256, 1 << 32, math.MaxInt} {
				if e := vote(who, one); e != api.ErrWho {
					t.Error(who, e)
				}
			}
			for who := range n {
				for _, c := range []struct {
					d    api.Digest
					want api.Errno
				}{{one, api.OK}, {one, api.ErrTwice}, {other, api.ErrForm}, {third, api.ErrForm}, {one, api.ErrTwice}} {
					if e := vote(who, c.d); e != c.want {
						t.Error(n, who, c.d, e)
					}
				}
			}
			for who := range n {
				if e := elseVote(who, third); e != api.OK {
					t.Error("a vote of the other kind counts by itself:", e)
				}
			}
			if vote(n, one) != api.ErrWho || vote(-1, one) != api.ErrWho {
				t.Error("who isn't one of them, behind all votes")
			}
		}
	}
}

// P21.1: all sets of votes to prepare and to commit, for that digest or another one, of each n, at each primary: ahead of the proposal, and behind it.
func TestAllVotes(t *testing.T) {
	for n := 1; n <= 7; n++ {
		sets := 1
		for range n {
			sets *= 3
		}
		for set := range sets {
			x, y, s := slot.New(n), slot.New(n), newSaid(n)
			y.Propose(one, nil)
			rest := set
			for who := range n {
				vote := rest % 3
				rest /= 3
				if vote > 0 {
					d := []api.Digest{one, other}[vote-1]
					x.Prepare(who, d)
					y.Prepare(who, d)
					s.prepares[who] = d
					// To commit the places are turned, so that both kinds are unlike.
					who = n - 1 - who
					x.Commit(who, d)
					y.Commit(who, d)
					s.commits[who] = d
				}
			}
			agrees(t, x, s)
			x.Propose(one, nil)
			s.proposed, s.digest = true, one
			agrees(t, x, s)
			agrees(t, y, s)
		}
	}
}

// P21.1: how many votes it takes, of each n.
func TestHowMany(t *testing.T) {
	prepares, commits := []int{0, 0, 0, 0, 2, 2, 2, 4}, []int{0, 1, 1, 1, 3, 3, 3, 5}
	for n := 1; n <= 7; n++ {
		x := slot.New(n)
		x.Propose(one, nil)
		for many := range n {
			if x.Prepared(n) != (many >= prepares[n]) || x.Committed() != (many >= commits[n]) {
				t.Error(n, many)
			}
			if x.Prepare(many, one) != api.OK || x.Commit(many, one) != api.OK {
				t.Error(n, many)
			}
		}
		if !x.Prepared(0) || !x.Committed() {
			t.Error(n)
		}
	}
}

// P21.1: calls at random, against a second way.
func TestWalks(t *testing.T) {
	r := rand.New(rand.NewSource(21))
	digests := []api.Digest{one, one, one, other, third}
	for range 4000 {
		n := 1 + r.Intn(7)
		x, s := slot.New(n), newSaid(n)
		for range 30 {
			d, who := digests[r.Intn(len(digests))], r.Intn(n+2)-1
			var got, want api.Errno
			switch r.Intn(7) {
			case 0:
				b := entries()[:r.Intn(3)]
				got, want = x.Propose(d, b), s.propose(d, b)
			case 1, 2, 3:
				got, want = x.Prepare(who, d), s.vote(s.prepares, who, d)
			default:
				got, want = x.Commit(who, d), s.vote(s.commits, who, d)
			}
			if got != want {
				t.Fatal(n, who, d, got, want)
			}
			agrees(t, x, s)
		}
	}
}

// P21.1: a nil slot, and one that New didn't make.
func TestNil(t *testing.T) {
	for _, x := range []*slot.Slot{nil, {}} {
		for range 2 {
			if x.Propose(one, entries()) != api.ErrArg || x.Prepare(0, one) != api.ErrArg || x.Commit(0, one) != api.ErrArg || x.Prepare(-1, one) != api.ErrArg || x.Commit(9, one) != api.ErrArg {
				t.Error("it takes something")
			}
			if d, b, ok := x.Proposal(); d != (api.Digest{}) || len(b) != 0 || ok {
				t.Error("it has a proposal")
			}
			if p, c := x.Votes(); p != 0 || c != 0 || x.Prepared(0) || x.Prepared(-1) || x.Committed() {
				t.Error("it has votes")
			}
		}
	}
}

// P21.1: what was handed in, and what was answered, is the caller's own.
func TestMemory(t *testing.T) {
	x, b := slot.New(4), entries()
	x.Propose(one, b)
	if !reflect.DeepEqual(b, entries()) {
		t.Error("Propose changes its batch")
	}
	b[0].Mask, b[1].Core.Text = 99, "else"
	_, l, _ := x.Proposal()
	if !reflect.DeepEqual(l, entries()) {
		t.Error("Propose keeps the caller's memory")
	}
	l[0] = api.Entry{}
	l = append(l[:1], api.Entry{Mask: 3})
	if _, m, _ := x.Proposal(); !reflect.DeepEqual(m, entries()) || len(l) != 2 {
		t.Error("Proposal answers the slot's memory")
	}
	c := slices.Grow(entries(), 4)
	y, z := slot.New(4), slot.New(4)
	y.Propose(one, c[:1])
	z.Propose(one, append(c[:1], api.Entry{Mask: 7}))
	if _, m, _ := y.Proposal(); !reflect.DeepEqual(m, entries()[:1]) {
		t.Error("two slots share memory")
	}
}

// P21.2: two committed slots of one view, of which all honest replicas say the same to both, have one digest: all words of up to f liars and of the honest ones, of two digests or none.
func TestOneDigest(t *testing.T) {
	digests := []api.Digest{one, other}
	for _, n := range []int{1, 4, 7} {
		f, both := faults(n), 0
		r := rand.New(rand.NewSource(int64(n)))
		for range 60000 {
			x, y := slot.New(n), slot.New(n)
			x.Propose(digests[r.Intn(2)], nil)
			y.Propose(digests[r.Intn(2)], nil)
			liars := r.Perm(n)[:f]
			for _, who := range r.Perm(n) {
				if slices.Contains(liars, who) {
					x.Commit(who, digests[r.Intn(2)])
					y.Commit(who, digests[r.Intn(2)])
				} else if d := r.Intn(5); d > 0 { // mostly alike, so that quorums come to be
					x.Commit(who, digests[d/4])
					y.Commit(who, digests[d/4])
				}
			}
			if !x.Committed() || !y.Committed() {
				continue
			}
			both++
			d, _, _ := x.Proposal()
			if e, _, _ := y.Proposal(); d != e {
				t.Fatal("two digests, of", n)
			}
		}
		if both < 1000 {
			t.Error("too few committed twice, of", n, both)
		}
	}
}

// P21.2: f liars, who say to each slot what it wants to hear, and the honest ones parted in all ways: never two digests; with f + 1 liars there would be two.
func TestParted(t *testing.T) {
	for _, n := range []int{1, 4, 7} {
		for liars := faults(n); liars <= faults(n)+1; liars++ {
			two := false
			for parts := range 1 << (n - liars) {
				x, y := slot.New(n), slot.New(n)
				x.Propose(one, nil)
				y.Propose(other, nil)
				for who := range n {
					dx, dy := one, other
					if who >= liars && parts>>(who-liars)&1 == 0 {
						dy = one
					} else if who >= liars {
						dx = other
					}
					x.Commit(who, dx)
					y.Commit(who, dy)
				}
				two = two || x.Committed() && y.Committed()
			}
			if two != (liars > faults(n)) {
				t.Error(n, liars, two)
			}
		}
	}
}
