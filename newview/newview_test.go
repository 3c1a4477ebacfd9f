package newview_test

import (
	"math"
	"math/rand"
	"slices"
	"testing"

	"bottomry/api"
	"bottomry/change"
	"bottomry/newview"
)

// The chapters' limits, as numbers: a change of api's constants is seen too.
const (
	mostN       = 7
	mostClients = 4
	mostView    = 1 << 20
)

// faults and quorums are told by n: at 0 stands what is told below 1.
var (
	faults  = [mostN + 1]int{0, 0, 0, 0, 1, 1, 1, 2}
	quorums = [mostN + 1]int{1, 1, 1, 1, 3, 3, 3, 5}
)

// batchOf is a batch that may be, of n replicas, of the clients in a set (a bit each).
func batchOf(n, set int) []api.Entry {
	var b []api.Entry
	for i := range mostClients {
		if set>>i&1 == 1 {
			b = append(b, api.Entry{Core: api.Core{Client: n + i, Stamp: int64(7 + i), Op: 2, Letter: "a-1", B: -30}, Mask: 1})
		}
	}
	return b
}

// changeOf is a change of a view, of n replicas, that is another one for each who.
func changeOf(view int64, n, who int) api.Change {
	low := int64(4 * who)
	c := api.Change{View: view, Low: low, Points: []api.Point{{Seq: low, Digest: api.Digest{0: byte(who + 1), 31: 9}}}}
	for i := range who % 4 {
		c.Prepared = append(c.Prepared, api.Proof{Seq: low + 1 + int64(i), Batch: batchOf(n, who+i)})
		c.Proposed = append(c.Proposed, api.Proof{Seq: low + 2, View: int64(i) % view, Batch: batchOf(n, 15-i)})
	}
	c.Proposed = c.Proposed[:min(len(c.Proposed), int(min(view, 4)))]
	return c
}

// proofOf is a row of changes of a view, of n replicas, of all who are in a set (a bit each).
func proofOf(view int64, n, set int) []api.Signed {
	var l []api.Signed
	for who := range 32 {
		if set>>who&1 == 1 {
			l = append(l, api.Signed{From: who, Change: changeOf(view, n, who)})
		}
	}
	return l
}

// fromOf is a row of changes by those who are told, in that order.
func fromOf(view int64, n int, who ...int) []api.Signed {
	var l []api.Signed
	for i, x := range who {
		l = append(l, api.Signed{From: x, Change: changeOf(view, n, i)})
	}
	return l
}

// clone is a row that shares nothing with l.
func clone(l []api.Signed) []api.Signed {
	proofs := func(l []api.Proof) []api.Proof {
		l = slices.Clone(l)
		for i := range l {
			l[i].Batch = slices.Clone(l[i].Batch)
		}
		return l
	}
	l = slices.Clone(l)
	for i := range l {
		c := &l[i].Change
		c.Points, c.Prepared, c.Proposed = slices.Clone(c.Points), proofs(c.Prepared), proofs(c.Proposed)
	}
	return l
}

// with is a row in which one change, with who says it, is another one.
func with(l []api.Signed, at int, by func(s *api.Signed)) []api.Signed {
	l = clone(l)
	by(&l[at])
	return l
}

func alike(a, b []api.Signed) bool {
	return slices.EqualFunc(a, b, func(x, y api.Signed) bool { return x.From == y.From && change.Same(x.Change, y.Change) })
}

// badSizes are numbers of replicas that there may not be.
func badSizes() []int {
	return []int{0, -1, -4, -64, mostN + 1, 10, 32, 64, 256 + 4, 1<<32 + 4, math.MaxInt, math.MaxInt - 3, math.MinInt}
}

// spoiler makes a change one that may not be, of that view.
type spoiler struct {
	name string
	by   func(c *api.Change)
}

func spoilers(n int) []spoiler {
	return []spoiler{
		{"view above", func(c *api.Change) { c.View++ }},
		{"view below", func(c *api.Change) { c.View-- }},
		{"view far above", func(c *api.Change) { c.View += 256 }},
		{"no points", func(c *api.Change) { c.Points = nil }},
		{"Low", func(c *api.Change) { c.Low++ }},
		{"a point beyond", func(c *api.Change) { c.Points = append(c.Points, api.Point{Seq: 1<<20 + 4}) }},
		{"prepared at Low", func(c *api.Change) { c.Prepared = []api.Proof{{Seq: c.Low}} }},
		{"proposed in its own view", func(c *api.Change) { c.Proposed = []api.Proof{{Seq: c.Low + 1, View: c.View}} }},
		{"an entry of no client", func(c *api.Change) { c.Prepared = []api.Proof{{Seq: c.Low + 1, Batch: batchOf(n-1, 1)}} }},
		{"nothing", func(c *api.Change) { *c = api.Change{} }},
	}
}

// want holds Check against what it should tell, and Parse of the row's bytes.
func want(t *testing.T, name string, view int64, l []api.Signed, n int, wrong api.Errno) {
	t.Helper()
	if e := newview.Check(view, l, n); e != wrong {
		t.Errorf("of %d: %s: %d, %.300v: %d, want %d", n, name, view, l, e, wrong)
	}
	b := newview.Bytes(view, l)
	switch wrong {
	case api.OK:
		wantParse(t, name, b, n, view, l, api.OK)
	case api.ErrArg:
		wantNone(t, name, b, n, api.ErrArg)
	default:
		wantNone(t, name, b, n, api.ErrForm)
	}
}

// P19.1: how many may lie, and how many it takes.

func TestFaultsAndQuorum(t *testing.T) {
	for n := 1; n <= mostN; n++ {
		if f, q := newview.Faults(n), newview.Quorum(n); f != faults[n] || q != quorums[n] {
			t.Errorf("of %d: %d, %d", n, f, q)
		}
	}
	for _, n := range []int{0, -1, -2, -3, -4, -7, -256, math.MinInt, math.MinInt + 1} {
		if f, q := newview.Faults(n), newview.Quorum(n); f != 0 || q != 1 {
			t.Errorf("of %d: %d, %d", n, f, q)
		}
	}
	for f := range 1000 {
		for i := 1; i <= 3; i++ {
			if n := 3*f + i; newview.Faults(n) != f || newview.Quorum(n) != f+f+1 {
				t.Errorf("of %d: %d, %d", n, newview.Faults(n), newview.Quorum(n))
			}
		}
	}
	if f, q := newview.Faults(math.MaxInt), newview.Quorum(math.MaxInt); f != 3074457345618258602 || q != 6148914691236517205 {
		t.Errorf("of very many: %d, %d", f, q)
	}
}

// P19.1: which proofs may be.

// Each set of replicas may say it, of whom there are enough.
func TestCheckOfEachSet(t *testing.T) {
	for n := 1; n <= mostN; n++ {
		for set := range 1 << n {
			l, wrong := proofOf(3, n, set), api.OK
			if len(l) < quorums[n] {
				wrong = api.ErrProof
			}
			want(t, "a set", 3, l, n, wrong)
		}
	}
}

func TestCheckOfSizes(t *testing.T) {
	for _, n := range badSizes() {
		for _, l := range [][]api.Signed{nil, {}, proofOf(3, 4, 0b111), make([]api.Signed, 9)} {
			want(t, "a size", 3, l, n, api.ErrArg)
		}
	}
}

func TestCheckOfTooMany(t *testing.T) {
	for n := 1; n <= mostN; n++ {
		for many := n + 1; many < 12; many++ {
			want(t, "rising", 3, proofOf(3, n, 1<<many-1), n, api.ErrMany)
			want(t, "alike", 3, slices.Repeat(fromOf(3, n, 0), many), n, api.ErrMany)
			want(t, "nothing", 3, make([]api.Signed, many), n, api.ErrMany)
		}
		for _, many := range []int{255, 256, 256 + n, 65536, 65536 + n} {
			if e := newview.Check(0, make([]api.Signed, many), n); e != api.ErrMany {
				t.Errorf("of %d: %d: %d", n, many, e)
			}
		}
	}
}

// Each row of as many as it takes is tried, by all around those that there are: that rises alone may be.
func TestCheckOfEachRow(t *testing.T) {
	const n = 4
	for a := -2; a <= n+1; a++ {
		for b := -2; b <= n+1; b++ {
			for c := -2; c <= n+1; c++ {
				wrong := api.ErrForm
				if 0 <= a && a < b && b < c && c < n {
					wrong = api.OK
				}
				want(t, "three", 3, fromOf(3, n, a, b, c), n, wrong)
			}
		}
	}
	for n := 1; n <= 3; n++ {
		for a := -2; a <= n+1; a++ {
			wrong := api.ErrForm
			if 0 <= a && a < n {
				wrong = api.OK
			}
			want(t, "one", 3, fromOf(3, n, a), n, wrong)
		}
	}
}

// Who says it is at each edge, those ahead of him and behind him stay.
func TestCheckOfEachFrom(t *testing.T) {
	for n := 1; n <= mostN; n++ {
		all := proofOf(3, n, 1<<n-1)
		for at := range n {
			for _, from := range []int{-1, 0, 1, 2, 3, 4, 5, 6, 7, 8, 255, 256, 256 + at, 1<<32 + at, at - 256, math.MaxInt, math.MinInt, math.MinInt + at} {
				l := with(all, at, func(s *api.Signed) { s.From = from })
				wrong := api.ErrForm
				if from == at {
					wrong = api.OK
				}
				if e := newview.Check(3, l, n); e != wrong {
					t.Errorf("of %d: %d says it in place of %d: %d", n, from, at, e)
				}
			}
		}
	}
}

// Each change may be, and is of that view.
func TestCheckOfChanges(t *testing.T) {
	for n := 1; n <= mostN; n++ {
		for _, view := range []int64{1, 2, 3, 255, mostView} {
			for set := 1<<quorums[n] - 1; set < 1<<n; set++ {
				l := proofOf(view, n, set)
				if len(l) < quorums[n] {
					continue
				}
				want(t, "fine", view, l, n, api.OK)
				for at := range l {
					for _, s := range spoilers(n) {
						want(t, s.name, view, with(l, at, func(x *api.Signed) { s.by(&x.Change) }), n, api.ErrForm)
					}
				}
			}
		}
	}
}

// The view is that of all changes, and so from 1 on.
func TestCheckOfViews(t *testing.T) {
	for n := 1; n <= mostN; n++ {
		for _, view := range []int64{0, 1, 2, 3, 5, 256, mostView, mostView + 1, -1, -3, 1<<32 + 3, math.MaxInt64, math.MinInt64} {
			wrong := api.ErrForm
			if view == 3 {
				wrong = api.OK
			}
			l := proofOf(3, n, 1<<n-1)
			want(t, "changes of the view 3", view, l, n, wrong)
			for i := range l {
				l[i].Change = api.Change{View: view, Points: []api.Point{{}}}
			}
			wrong = api.ErrForm
			if view >= 1 && view <= mostView {
				wrong = api.OK
			}
			want(t, "changes of this view", view, l, n, wrong)
		}
	}
}

// The same change may be said by all.
func TestCheckOfTheSameChange(t *testing.T) {
	for n := 1; n <= mostN; n++ {
		l := proofOf(3, n, 1<<n-1)
		for i := range l {
			l[i].Change = changeOf(3, n, 3)
		}
		want(t, "the same", 3, l, n, api.OK)
	}
}

// What may be of n replicas may not be of others, of which the clients are others.
func TestCheckOfOtherSizes(t *testing.T) {
	for n := 1; n <= mostN; n++ {
		l := proofOf(3, n, 1<<n-1)
		for i := range l {
			l[i].Change = changeOf(3, n, 3)
		}
		for other := 1; other <= mostN; other++ {
			wrong := api.ErrForm
			switch {
			case n > other:
				wrong = api.ErrMany
			case n < quorums[other]:
				wrong = api.ErrProof
			case n == other:
				wrong = api.OK
			}
			want(t, "of other replicas", 3, l, other, wrong)
		}
	}
}

// P19.1: the order of errors: each set of them at once.
func TestCheckInOrder(t *testing.T) {
	for n := 1; n <= mostN; n++ {
		for _, s := range spoilers(n) {
			for many := range mostN + 4 {
				l := proofOf(3, n, 1<<many-1)
				if many > 0 {
					s.by(&l[many-1].Change)
				}
				wrong := api.ErrForm
				if many > n {
					wrong = api.ErrMany
				} else if many < quorums[n] {
					wrong = api.ErrProof
				}
				want(t, s.name, 3, l, n, wrong)
				slices.Reverse(l)
				want(t, s.name, 3, l, n, wrong)
				want(t, s.name, 3, l, 0, api.ErrArg)
				want(t, s.name, -1, l, 8, api.ErrArg)
			}
		}
	}
}

// P19.1: thousands of rows, against a second way.
func TestManyProofs(t *testing.T) {
	r := rand.New(rand.NewSource(19))
	fine := 0
	for range 20000 {
		n := 1 + r.Intn(mostN)
		view := 1 + r.Int63n(4)
		l := anyProof(r, view, n)
		wrong := checked(view, l, n)
		if wrong == api.OK {
			fine++
		}
		want(t, "any", view, l, n, wrong)
	}
	if fine < 5000 || fine > 15000 {
		t.Errorf("%d may be", fine)
	}
}

// checked tells a second way what Check should.
func checked(view int64, l []api.Signed, n int) api.Errno {
	var who []int
	wrong := false
	for _, s := range l {
		who = append(who, s.From)
		wrong = wrong || s.Change.View != view || change.Check(s.Change, n) != api.OK || s.From < 0 || s.From > n-1
	}
	switch {
	case n < 1 || n > mostN:
		return api.ErrArg
	case len(l) > n:
		return api.ErrMany
	case len(l) < quorums[n]:
		return api.ErrProof
	case wrong || !slices.Equal(who, slices.Compact(slices.Sorted(slices.Values(who)))):
		return api.ErrForm
	}
	return api.OK
}

// anyProof is one that may be, more often than not.
func anyProof(r *rand.Rand, view int64, n int) []api.Signed {
	set := 0
	for range 2 * n {
		set |= 1 << r.Intn(n)
	}
	l := proofOf(view, n, set)
	if r.Intn(3) > 0 {
		return l
	}
	at := r.Intn(len(l))
	switch r.Intn(5) {
	case 0:
		s := spoilers(n)
		s[r.Intn(len(s))].by(&l[at].Change)
	case 1:
		l[at].From += r.Intn(5) - 2
	case 2:
		slices.Reverse(l)
	case 3:
		l = slices.Insert(l, at, l[r.Intn(len(l))])
	default:
		l[at].Change = changeOf(view, 1+r.Intn(mostN), r.Intn(8))
	}
	return l
}

// P19.1: what is handed in stays.
func TestMemoryOfCheck(t *testing.T) {
	l := proofOf(3, 7, 0b1111110)
	wide := append(make([]api.Signed, 0, 9), l...)
	before := clone(l)
	newview.Check(3, wide, 7)
	newview.Bytes(3, wide)
	if !alike(wide, before) || !alike(wide[:9][6:], make([]api.Signed, 3)) {
		t.Errorf("the row was changed: %v", wide[:9])
	}
}
