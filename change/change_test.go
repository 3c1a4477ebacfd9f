package change_test

import (
	"math"
	"math/rand"
	"slices"
	"strings"
	"testing"

	"bottomry/api"
	"bottomry/batch"
	"bottomry/change"
)

// The chapters' limits, as numbers: a change of api's constants is seen too.
const (
	mostN       = 7
	mostClients = 4
	mostView    = 1 << 20
	mostSeq     = 1 << 20
	mostStamp   = 1 << 40
	mostPoints  = 4
	mostSets    = 64
	every       = 4
	window      = 8
)

// digestOf is a digest of which each byte is another one than its neighbours.
func digestOf(seed int) api.Digest {
	var d api.Digest
	for i := range d {
		d[i] = byte(seed + 7*i + 1)
	}
	return d
}

// entryOf is an entry that may be, of n replicas, of the client next in row behind that many others.
func entryOf(n, behind int) api.Entry {
	c := api.Core{Client: n + behind, Stamp: int64(7 + behind), Op: 2, Letter: "a-1", A: 5, B: -30, Text: "2of(0,1,2)"}
	return api.Entry{Core: c, Mask: 1}
}

// batchOf is a batch that may be, of n replicas, of the clients in a set (a bit each).
func batchOf(n, set int) []api.Entry {
	var b []api.Entry
	for i := range mostClients {
		if set>>i&1 == 1 {
			b = append(b, entryOf(n, i))
		}
	}
	return b
}

// wrongBatches are batches that may not be, of n replicas, by what is wrong with them.
func wrongBatches(n int) map[string][]api.Entry {
	all := map[string][]api.Entry{
		"many":    slices.Repeat(batchOf(n, 1), 5),
		"nothing": make([]api.Entry, 1),
		"twice":   slices.Repeat(batchOf(n, 1), 2),
		"falling": {entryOf(n, 1), entryOf(n, 0)},
	}
	add := func(name string, change func(x *api.Entry)) {
		b := batchOf(n, 0b1111)
		change(&b[3])
		all[name] = b
	}
	add("replica", func(x *api.Entry) { x.Core.Client = n - 1 })
	add("Client beyond", func(x *api.Entry) { x.Core.Client = n + mostClients })
	add("Stamp 0", func(x *api.Entry) { x.Core.Stamp = 0 })
	add("Stamp beyond", func(x *api.Entry) { x.Core.Stamp = mostStamp + 1 })
	add("Op 10", func(x *api.Entry) { x.Core.Op = 10 })
	add("no name", func(x *api.Entry) { x.Core.Letter = "" })
	add("long name", func(x *api.Entry) { x.Core.Letter = strings.Repeat("a", 17) })
	add("text of 201", func(x *api.Entry) { x.Core.Text = strings.Repeat("t", 201) })
	add("Mask", func(x *api.Entry) { x.Mask = 1 << n })
	return all
}

// pointsOf are points with these numbers.
func pointsOf(seqs ...int64) []api.Point {
	var l []api.Point
	for _, seq := range seqs {
		l = append(l, api.Point{Seq: seq, Digest: digestOf(int(seq))})
	}
	return l
}

// proofsOf are proofs of null batches: of each two numbers a Seq and a View.
func proofsOf(numbers ...int64) []api.Proof {
	var l []api.Proof
	for i := 0; i < len(numbers); i += 2 {
		l = append(l, api.Proof{Seq: numbers[i], View: numbers[i+1]})
	}
	return l
}

// least is the change with nothing but a point.
func least() api.Change {
	return api.Change{View: 1, Points: pointsOf(0)}
}

// some is a change with some of all, of n replicas.
func some(n int) api.Change {
	return api.Change{
		View:   5,
		Low:    8,
		Points: pointsOf(8, 12, 20),
		Prepared: []api.Proof{
			{Seq: 9, View: 0, Batch: batchOf(n, 0b1)},
			{Seq: 10, View: 4},
			{Seq: 16, View: 3, Batch: batchOf(n, 0b1010)},
		},
		Proposed: []api.Proof{
			{Seq: 9, View: 0, Batch: batchOf(n, 0b1)},
			{Seq: 9, View: 2},
			{Seq: 9, View: 4, Batch: batchOf(n, 0b1)},
			{Seq: 16, View: 3, Batch: batchOf(n, 0b1111)},
		},
	}
}

// most is a change with as much of all as there may be, of n replicas.
func most(n int) api.Change {
	const low = mostSeq - 12
	c := api.Change{View: mostView, Low: low, Points: pointsOf(low, low+4, low+8, low+12)}
	for i := range int64(window) {
		c.Prepared = append(c.Prepared, api.Proof{Seq: low + 1 + i, View: mostView - 1, Batch: batchOf(n, 0b1111)})
	}
	for i := range int64(mostSets) {
		c.Proposed = append(c.Proposed, api.Proof{Seq: low + 1 + i/8, View: mostView - 8 + i%8, Batch: batchOf(n, int(i)%16)})
	}
	return c
}

// clone is a change that shares nothing with c.
func clone(c api.Change) api.Change {
	proofs := func(l []api.Proof) []api.Proof {
		l = slices.Clone(l)
		for i := range l {
			l[i].Batch = slices.Clone(l[i].Batch)
		}
		return l
	}
	c.Points, c.Prepared, c.Proposed = slices.Clone(c.Points), proofs(c.Prepared), proofs(c.Proposed)
	return c
}

// changed is a change of which one thing is another one.
func changed(c api.Change, by func(c *api.Change)) api.Change {
	c = clone(c)
	by(&c)
	return c
}

// badSizes are numbers of replicas that there may not be.
func badSizes() []int {
	return []int{0, -1, -4, -64, mostN + 1, 10, 32, 64, 256 + 4, 1<<32 + 4, math.MaxInt, math.MaxInt - 3, math.MinInt}
}

// around are numbers at a limit's edges, and those whose lowest bits may be as well.
func around(most int64) []int64 {
	return []int64{0, 1, 2, 3, 4, 5, 8, 255, 256, most - 4, most - 1, most, most + 1, most + 4, 2 * most, -1, -2, -4, -most, 1<<32 + 4, 1<<48 + 4, 1 << 56, math.MaxInt64, math.MaxInt64 - 3, math.MinInt64, math.MinInt64 + 1, math.MinInt64 + 4}
}

// alike tells a second way whether changes are the same.
func alike(a, b api.Change) bool {
	proofs := func(a, b []api.Proof) bool {
		if len(a) != len(b) {
			return false
		}
		for i := range a {
			if a[i].Seq != b[i].Seq || a[i].View != b[i].View || !slices.Equal(a[i].Batch, b[i].Batch) {
				return false
			}
		}
		return true
	}
	return a.View == b.View && a.Low == b.Low && slices.Equal(a.Points, b.Points) && proofs(a.Prepared, b.Prepared) && proofs(a.Proposed, b.Proposed)
}

// mayBe tells a second way whether a change may be, of n replicas: it counts those of which no two are alike, and sorts.
func mayBe(c api.Change, n int) bool {
	if c.View <= 0 || c.View > mostView || len(c.Points) == 0 || len(c.Points) > mostPoints || len(c.Prepared) > window || len(c.Proposed) > mostSets {
		return false
	}
	var points, prepared []int64
	for _, p := range c.Points {
		points = append(points, p.Seq)
	}
	for _, p := range c.Prepared {
		prepared = append(prepared, p.Seq)
	}
	unlike := map[[2]int64]bool{}
	for i, p := range c.Proposed {
		unlike[[2]int64{p.Seq, p.View}] = true
		if i > 0 && p.Seq < c.Proposed[i-1].Seq || i > 0 && p.Seq == c.Proposed[i-1].Seq && p.View < c.Proposed[i-1].View {
			return false
		}
	}
	for _, seq := range points {
		if seq < 0 || seq > mostSeq || seq&3 != 0 {
			return false
		}
	}
	for _, p := range slices.Concat(c.Prepared, c.Proposed) {
		if behind := p.Seq - c.Low; behind < 1 || behind > window || p.View < 0 || p.View > c.View-1 || batch.Check(p.Batch, n) != api.OK {
			return false
		}
	}
	return c.Low == points[0] && len(unlike) == len(c.Proposed) && rise(points) && rise(prepared)
}

// rise tells whether numbers are in order, and none is there twice.
func rise(l []int64) bool {
	return slices.Equal(l, slices.Compact(slices.Sorted(slices.Values(l))))
}

// want holds Check against what it should tell, and Parse of the change's bytes, if no number goes round in them.
func want(t *testing.T, name string, c api.Change, n int, may bool) {
	t.Helper()
	wrong, read := api.ErrForm, api.Change{}
	if may {
		wrong, read = api.OK, c
	}
	if e := change.Check(c, n); e != wrong {
		t.Errorf("of %d: %s: %.300v: %d, want %d", n, name, c, e, wrong)
	}
	wantParse(t, name, change.Bytes(c), n, read, wrong)
}

// P18.1: which changes may be.

func TestCheckOfExamples(t *testing.T) {
	for n := 1; n <= mostN; n++ {
		want(t, "least", least(), n, true)
		want(t, "some", some(n), n, true)
		want(t, "most", most(n), n, true)
		want(t, "nothing", api.Change{}, n, false)
		want(t, "no points", api.Change{View: 1, Points: []api.Point{}}, n, false)
		want(t, "none but empty rows", api.Change{View: 1, Points: pointsOf(0), Prepared: []api.Proof{}, Proposed: []api.Proof{}}, n, true)
	}
}

func TestCheckOfSizes(t *testing.T) {
	for _, n := range badSizes() {
		for _, c := range []api.Change{{}, least(), some(4), most(7), {View: -1}} {
			if e := change.Check(c, n); e != api.ErrArg {
				t.Errorf("of %d: %.200v: %d", n, c, e)
			}
		}
	}
}

func TestCheckOfViews(t *testing.T) {
	for _, view := range around(mostView) {
		c := changed(least(), func(c *api.Change) { c.View = view })
		want(t, "a view", c, 4, view >= 1 && view <= mostView)
	}
}

func TestCheckOfLow(t *testing.T) {
	lows := around(mostSeq)
	for low := int64(-20); low <= 40; low++ {
		lows = append(lows, low, mostSeq+low)
	}
	for _, low := range lows {
		may := low >= 0 && low <= mostSeq && low%every == 0
		want(t, "a low water mark", api.Change{View: 1, Low: low, Points: pointsOf(low)}, 4, may)
		all := api.Change{View: 1, Low: low, Points: pointsOf(low)}
		all.Prepared = proofsOf(low+1, 0, low+8, 0)
		all.Proposed = proofsOf(low+1, 0, low+8, 0)
		want(t, "a low water mark with proofs", all, 4, may)
	}
}

// The first point is at the low water mark, wherever that is, and the others above it.
func TestCheckOfTheFirstPoint(t *testing.T) {
	for low := int64(0); low <= 40; low += every {
		for first := int64(0); first <= 40; first++ {
			c := api.Change{View: 1, Low: low, Points: pointsOf(first)}
			want(t, "one point", c, 4, first == low)
			c.Points = pointsOf(first, 44)
			want(t, "two points", c, 4, first == low)
			c.Points = pointsOf(44, first)
			want(t, "two points, falling", c, 4, false)
		}
	}
}

// Each point's number is at each edge, the others stay.
func TestCheckOfEachPoint(t *testing.T) {
	for many := 1; many <= mostPoints; many++ {
		for at := range many {
			for _, seq := range slices.Concat(around(mostSeq), []int64{12, 16, 17, 18, 19, 20, 24, 28, mostSeq - 8}) {
				c := api.Change{View: 1, Low: 16, Points: pointsOf(16, 20, 28, 400)[:many]}
				c.Points[at].Seq = seq
				may := seq >= 0 && seq <= mostSeq && seq%every == 0 && (at == 0) == (seq == 16)
				may = may && (at == 0 || c.Points[at-1].Seq < seq) && (at == many-1 || seq < c.Points[at+1].Seq)
				want(t, "a point", c, 4, may)
			}
		}
	}
}

func TestCheckOfHowManyPoints(t *testing.T) {
	for many := range 10 {
		c := api.Change{View: 1}
		for i := range many {
			c.Points = append(c.Points, api.Point{Seq: int64(i) * every})
		}
		want(t, "points", c, 4, many >= 1 && many <= mostPoints)
	}
	for _, many := range []int{255, 256, 257, 65535, 65536, 65537} {
		c := api.Change{View: 1, Points: make([]api.Point, many)}
		for i := range c.Points {
			c.Points[i].Seq = int64(i) * every
		}
		want(t, "many points", c, 4, false)
	}
}

// Points may have any digests, the same ones too.
func TestCheckOfPointsDigests(t *testing.T) {
	for seed := range 256 {
		c := api.Change{View: 1, Points: []api.Point{{Seq: 0, Digest: digestOf(seed)}, {Seq: 4, Digest: digestOf(seed)}, {Seq: 8}}}
		want(t, "digests", c, 4, true)
	}
}

// Each set of the numbers above the low water mark may be prepared, and proposed.
func TestCheckOfEachSetOfNumbers(t *testing.T) {
	for set := range 1 << window {
		var l []api.Proof
		for i := range int64(window) {
			if set>>i&1 == 1 {
				l = append(l, api.Proof{Seq: 13 + i, View: 1 - i%2})
			}
		}
		want(t, "a set", api.Change{View: 2, Low: 12, Points: pointsOf(12), Prepared: l}, 4, true)
		want(t, "a set", api.Change{View: 2, Low: 12, Points: pointsOf(12), Proposed: l}, 4, true)
	}
}

// Each row of up to three numbers around those that may be is tried: that rises alone may be.
func TestCheckOfEachRowOfNumbers(t *testing.T) {
	const low = 4
	try := func(seqs ...int64) {
		c := api.Change{View: 1, Low: low, Points: pointsOf(low)}
		for _, seq := range seqs {
			c.Prepared = append(c.Prepared, api.Proof{Seq: seq})
		}
		may := rise(seqs) && slices.Min(seqs) > low && slices.Max(seqs) <= low+window
		want(t, "prepared", c, 4, may)
		c.Prepared, c.Proposed = nil, c.Prepared
		want(t, "proposed", c, 4, may)
	}
	for x := int64(low - 1); x <= low+window+2; x++ {
		try(x)
		for y := int64(low - 1); y <= low+window+2; y++ {
			try(x, y)
			for z := int64(low - 1); z <= low+window+2; z++ {
				try(x, y, z)
			}
		}
	}
}

// Each row of up to three numbers with views: what is proposed rises by both, what is prepared by numbers alone.
func TestCheckOfEachRowOfNumbersAndViews(t *testing.T) {
	const views, all = 3, 9
	of := func(i int) api.Proof {
		return api.Proof{Seq: int64(1 + i/views), View: int64(i % views)}
	}
	for code := range all * all * all {
		x, y, z := code/all/all, code/all%all, code%all
		c := api.Change{View: views, Points: pointsOf(0), Prepared: []api.Proof{of(x), of(y), of(z)}}
		want(t, "prepared", c, 4, x/views < y/views && y/views < z/views)
		c.Prepared, c.Proposed = nil, c.Prepared
		want(t, "proposed", c, 4, x < y && y < z)
	}
}

// What is proposed of one number and view is there once, whatever its batches are.
func TestCheckOfTheSameTwice(t *testing.T) {
	for set := range 1 << mostClients {
		l := []api.Proof{{Seq: 1, View: 3, Batch: batchOf(4, set)}, {Seq: 1, View: 3, Batch: batchOf(4, set/2)}}
		want(t, "proposed", api.Change{View: 4, Points: pointsOf(0), Proposed: l}, 4, false)
		want(t, "prepared", api.Change{View: 4, Points: pointsOf(0), Prepared: l}, 4, false)
		l[1].View = 2
		want(t, "proposed, views falling", api.Change{View: 4, Points: pointsOf(0), Proposed: l}, 4, false)
		slices.Reverse(l)
		want(t, "proposed, views rising", api.Change{View: 4, Points: pointsOf(0), Proposed: l}, 4, true)
		want(t, "prepared, views rising", api.Change{View: 4, Points: pointsOf(0), Prepared: l}, 4, false)
		l[1].Seq = 2
		want(t, "both", api.Change{View: 4, Points: pointsOf(0), Prepared: l, Proposed: l}, 4, true)
		l[0].View, l[1].View = 3, 0
		want(t, "numbers rising, views falling", api.Change{View: 4, Points: pointsOf(0), Prepared: l, Proposed: l}, 4, true)
	}
}

// What is prepared needn't be proposed, nor the other way round.
func TestCheckOfRowsByThemselves(t *testing.T) {
	c := api.Change{View: 2, Points: pointsOf(0), Prepared: proofsOf(3, 1, 5, 0), Proposed: proofsOf(1, 1, 3, 0, 8, 1)}
	want(t, "unlike rows", c, 4, true)
}

func TestCheckOfHowManyProofs(t *testing.T) {
	for many := range 200 {
		c := api.Change{View: 50, Points: pointsOf(0)}
		for i := range many {
			c.Proposed = append(c.Proposed, api.Proof{Seq: int64(1 + i/25), View: int64(i % 25)})
		}
		want(t, "proposed", c, 4, many <= mostSets)
	}
	for _, many := range []int{9, 10, 255, 256, 264, 65535, 65536, 65537, 65544} {
		c := api.Change{View: mostView, Points: pointsOf(0), Prepared: make([]api.Proof, many)}
		for i := range c.Prepared {
			c.Prepared[i].Seq = int64(i) + 1
		}
		want(t, "prepared", c, 4, false)
		c.Prepared = nil
		for i := range many {
			c.Proposed = append(c.Proposed, api.Proof{Seq: 1, View: int64(i)})
		}
		want(t, "proposed, of one number", c, 4, many <= mostSets)
	}
}

// Each proof's number and view is at each edge, the others stay.
func TestCheckOfEachProof(t *testing.T) {
	edges := slices.Concat(around(mostSeq), []int64{6, 7, 9, 10, 11, 12, 13, 14, 15, 16, 17, 24, 1<<32 + 10})
	for at := range 3 {
		for _, x := range edges {
			c := some(4)
			c.Prepared[at].Seq = x
			may := x > 8 && x <= 16 && (at == 0 || c.Prepared[at-1].Seq < x) && (at == 2 || x < c.Prepared[at+1].Seq)
			want(t, "a prepared number", c, 4, may)
			c = some(4)
			c.Prepared[at].View = x
			want(t, "a prepared view", c, 4, x >= 0 && x < 5)
			c = some(4)
			c.Proposed = proofsOf(9, 1, 11, 1, 15, 1)
			c.Proposed[at].Seq = x
			may = x > 8 && x <= 16 && (at == 0 || c.Proposed[at-1].Seq < x) && (at == 2 || x < c.Proposed[at+1].Seq)
			want(t, "a proposed number", c, 4, may)
			c = some(4)
			c.Proposed = proofsOf(9, 0, 11, 2, 15, 4)
			c.Proposed[at].View = x
			want(t, "a proposed view", c, 4, x >= 0 && x < 5)
		}
	}
}

// Proofs' views are below the change's, which is from 1 on.
func TestCheckOfViewsOfProofs(t *testing.T) {
	for _, view := range []int64{1, 2, 3, 256, mostView - 1, mostView} {
		for _, x := range []int64{0, 1, 2, 3, view - 2, view - 1, view, view + 1, -1, math.MaxInt64, math.MinInt64} {
			may := x >= 0 && x < view
			want(t, "prepared", api.Change{View: view, Points: pointsOf(0), Prepared: proofsOf(8, x)}, 4, may)
			want(t, "proposed", api.Change{View: view, Points: pointsOf(0), Proposed: proofsOf(8, x)}, 4, may)
		}
	}
	for _, view := range []int64{0, -1, mostView + 1, math.MinInt64, math.MaxInt64} {
		want(t, "of no view", api.Change{View: view, Points: pointsOf(0), Proposed: proofsOf(1, view-1)}, 4, false)
	}
}

// Above the highest low water mark proofs may be like above any other one.
func TestCheckAtTheHighestNumber(t *testing.T) {
	c := api.Change{View: 1, Low: mostSeq, Points: pointsOf(mostSeq), Prepared: proofsOf(mostSeq+1, 0, mostSeq+8, 0)}
	want(t, "within the window", c, 4, true)
	c.Prepared[1].Seq++
	want(t, "beyond the window", c, 4, false)
	c.Prepared = nil
	c.Points = pointsOf(mostSeq, mostSeq+4)
	want(t, "a point beyond", c, 4, false)
}

// Each proof has a batch that may be, of as many replicas.
func TestCheckOfBatches(t *testing.T) {
	for n := 1; n <= mostN; n++ {
		for set := range 1 << mostClients {
			for at := range 3 {
				c := changed(some(n), func(c *api.Change) { c.Prepared[at].Batch, c.Proposed[at].Batch = batchOf(n, set), batchOf(n, 15-set) })
				want(t, "batches", c, n, true)
			}
		}
		for name, b := range wrongBatches(n) {
			for at := range 3 {
				want(t, name, changed(some(n), func(c *api.Change) { c.Prepared[at].Batch = b }), n, false)
			}
			for at := range 4 {
				want(t, name, changed(some(n), func(c *api.Change) { c.Proposed[at].Batch = b }), n, false)
			}
		}
	}
}

// Of other replicas the clients are others, so the batches may not be; what has none but null batches may.
func TestCheckOfOtherSizes(t *testing.T) {
	for n := 1; n <= mostN; n++ {
		for other := 1; other <= mostN; other++ {
			want(t, "all clients", most(n), other, n == other)
			want(t, "no clients", least(), other, true)
		}
	}
}

// Numbers in a batch that go round in its bytes may not be ahead of that.
func TestCheckOfBatchesThatGoRound(t *testing.T) {
	for _, by := range []func(x *api.Entry){
		func(x *api.Entry) { x.Mask += 256 },
		func(x *api.Entry) { x.Core.Client += 256 },
		func(x *api.Entry) { x.Core.Op += 256 },
	} {
		b := batchOf(4, 0b1111)
		by(&b[1])
		c := api.Change{View: 1, Points: pointsOf(0), Prepared: []api.Proof{{Seq: 1, Batch: b}}}
		if e := change.Check(c, 4); e != api.ErrForm {
			t.Errorf("%v: %d", b[1], e)
		}
	}
}

// P18.1: thousands of changes, against the second way.
func TestManyChanges(t *testing.T) {
	r := rand.New(rand.NewSource(18))
	fine := 0
	for range 20000 {
		n := 1 + r.Intn(mostN)
		c := anyChange(r, n)
		may := mayBe(c, n)
		if may {
			fine++
		}
		want(t, "any", c, n, may)
		if other := 1 + r.Intn(mostN); other != n {
			want(t, "any, of another size", c, other, mayBe(c, other))
		}
	}
	if fine < 5000 || fine > 15000 {
		t.Errorf("%d may be", fine)
	}
}

// anyChange is one that may be, more often than not.
func anyChange(r *rand.Rand, n int) api.Change {
	c := api.Change{View: 1 + r.Int63n(5), Low: every * r.Int63n(5)}
	if r.Intn(8) == 0 {
		c.View, c.Low = mostView-r.Int63n(2), mostSeq-every*r.Int63n(3)
	}
	for seq := c.Low; seq <= mostSeq && len(c.Points) < mostPoints && r.Intn(3) > 0; seq += every * (1 + r.Int63n(2)) {
		c.Points = append(c.Points, api.Point{Seq: seq, Digest: digestOf(r.Intn(3))})
	}
	if len(c.Points) == 0 {
		c.Points = pointsOf(c.Low)
	}
	for seq := c.Low + 1; seq <= c.Low+window; seq++ {
		if r.Intn(3) == 0 {
			c.Prepared = append(c.Prepared, api.Proof{Seq: seq, View: r.Int63n(c.View), Batch: anyBatch(r, n)})
		}
		for view := max(c.View-5, 0); view < c.View; view++ {
			if r.Intn(4) == 0 {
				c.Proposed = append(c.Proposed, api.Proof{Seq: seq, View: view, Batch: anyBatch(r, n)})
			}
		}
	}
	for range r.Intn(3) {
		if r.Intn(2) == 0 {
			spoilChange(r, &c, n)
		}
	}
	return c
}

func anyBatch(r *rand.Rand, n int) []api.Entry {
	b := batchOf(n, r.Intn(1<<mostClients)&r.Intn(1<<mostClients))
	for i := range b {
		b[i].Mask = uint32(r.Intn(1 << n))
		b[i].Core.Text = strings.Repeat("t", r.Intn(3))
	}
	return b
}

// spoilChange makes something of a change another thing, that often may not be.
func spoilChange(r *rand.Rand, c *api.Change, n int) {
	by := r.Int63n(7) - 3
	rows := []*[]api.Proof{&c.Prepared, &c.Proposed}
	row := rows[r.Intn(2)]
	if len(*row) == 0 {
		*row = proofsOf(c.Low+1+r.Int63n(window), 0)
	}
	at := r.Intn(len(*row))
	switch r.Intn(9) {
	case 0:
		c.View += by
	case 1:
		c.Low += by
	case 2:
		c.Points[r.Intn(len(c.Points))].Seq += every * by
	case 3:
		c.Points[r.Intn(len(c.Points))].Seq += by
	case 4:
		(*row)[at].Seq += by
	case 5:
		(*row)[at].View += by
	case 6:
		slices.Reverse(*row)
	case 7:
		*row = slices.Insert(*row, at, (*row)[r.Intn(len(*row))])
	default:
		(*row)[at].Batch = wrongBatches(n)["twice"]
	}
}

// P18.1: whether changes are the same.

func TestSame(t *testing.T) {
	for n := 1; n <= mostN; n++ {
		all := []api.Change{{}, least(), some(n), most(n)}
		for i, a := range all {
			for j, b := range all {
				if got := change.Same(a, clone(b)); got != (i == j) {
					t.Errorf("%d, %d: %v", i, j, got)
				}
			}
		}
	}
}

// otherwise are changes in each of which one thing is another one than in some; no two are the same, though some may not be.
func otherwise(n int) []api.Change {
	all := []api.Change{some(n)}
	add := func(by func(c *api.Change)) {
		all = append(all, changed(some(n), by))
	}
	add(func(c *api.Change) { c.View++ })
	add(func(c *api.Change) { c.View += mostView })
	add(func(c *api.Change) { c.Low += every })
	add(func(c *api.Change) { c.Points = nil })
	add(func(c *api.Change) { c.Points = append(c.Points, api.Point{Seq: 24}) })
	add(func(c *api.Change) { slices.Reverse(c.Points) })
	for at := range 3 {
		add(func(c *api.Change) { c.Points = slices.Delete(c.Points, at, at+1) })
		add(func(c *api.Change) { c.Points[at].Seq += 100 })
		for i := range 32 {
			add(func(c *api.Change) { c.Points[at].Digest[i] ^= 1 << (i % 8) })
		}
	}
	for _, row := range []func(c *api.Change) *[]api.Proof{
		func(c *api.Change) *[]api.Proof { return &c.Prepared },
		func(c *api.Change) *[]api.Proof { return &c.Proposed },
	} {
		add(func(c *api.Change) { *row(c) = nil })
		add(func(c *api.Change) { slices.Reverse(*row(c)) })
		add(func(c *api.Change) { *row(c) = append(*row(c), api.Proof{Seq: 16, View: 4}) })
		for at := range 3 {
			add(func(c *api.Change) { *row(c) = slices.Delete(*row(c), at, at+1) })
			add(func(c *api.Change) { (*row(c))[at].Seq += 50 })
			add(func(c *api.Change) { (*row(c))[at].View += 50 })
			add(func(c *api.Change) { (*row(c))[at].Batch = batchOf(n, 0b111) })
			add(func(c *api.Change) { (*row(c))[at].Batch = make([]api.Entry, 1) })
			add(func(c *api.Change) {
				b := batchOf(n, 0b111)
				b[2].Mask = 0
				(*row(c))[at].Batch = b
			})
		}
	}
	add(func(c *api.Change) { c.Prepared, c.Proposed = c.Proposed, c.Prepared })
	add(func(c *api.Change) { c.Prepared, c.Proposed = slices.Concat(c.Prepared, c.Proposed), nil })
	add(func(c *api.Change) {
		c.Prepared[0].Batch, c.Prepared[1].Batch = c.Prepared[1].Batch, c.Prepared[0].Batch
	})
	return all
}

func TestSameOfEachPart(t *testing.T) {
	all := otherwise(4)
	for i, a := range all {
		for j, b := range all {
			if got := change.Same(a, clone(b)); got != (i == j) {
				t.Errorf("%v, %v: %v", a, b, got)
			}
		}
	}
}

// What is nil and what is empty are one.
func TestSameOfEmptyRows(t *testing.T) {
	a := api.Change{View: 1, Prepared: []api.Proof{{Seq: 1}}}
	b := api.Change{View: 1, Points: []api.Point{}, Prepared: []api.Proof{{Seq: 1, Batch: []api.Entry{}}}, Proposed: []api.Proof{}}
	if !change.Same(a, b) || !change.Same(b, a) {
		t.Error("nil and empty are unlike")
	}
}

// Changes that may not be are held against each other as they are, not by their bytes.
func TestSameOfWhatMayNotBe(t *testing.T) {
	for _, many := range []int{65536, 65537} {
		a := api.Change{Points: make([]api.Point, many), Prepared: make([]api.Proof, many), Proposed: make([]api.Proof, many)}
		if !change.Same(a, clone(a)) {
			t.Errorf("%d of each: not as itself", many)
		}
		for _, b := range []api.Change{
			changed(a, func(c *api.Change) { c.Points = c.Points[65536:] }),
			changed(a, func(c *api.Change) { c.Prepared = c.Prepared[65536:] }),
			changed(a, func(c *api.Change) { c.Proposed = c.Proposed[65536:] }),
			changed(a, func(c *api.Change) { c.Proposed[many-1].Batch = make([]api.Entry, 1) }),
		} {
			if change.Same(a, b) || change.Same(b, a) {
				t.Errorf("%d of each: the same as others", many)
			}
		}
	}
	a := api.Change{Prepared: []api.Proof{{Batch: []api.Entry{{Mask: 1}}}}}
	b := api.Change{Prepared: []api.Proof{{Batch: []api.Entry{{Mask: 257}}}}}
	if change.Same(a, b) || string(change.Bytes(a)) != string(change.Bytes(b)) {
		t.Error("masks that go round")
	}
}

// P18.1: what is handed in stays.
func TestMemoryOfCheckAndSame(t *testing.T) {
	for _, c := range []api.Change{some(4), most(4), otherwise(4)[7]} {
		before := clone(c)
		change.Check(c, 4)
		change.Same(c, some(4))
		change.Bytes(c)
		if !alike(c, before) {
			t.Errorf("it was changed: %v", c)
		}
	}
}
