package tally_test

import (
	"math"
	"math/rand"
	"runtime"
	"slices"
	"strconv"
	"testing"

	"bottomry/api"
	"bottomry/tally"
)

// vote is one voter's, of the second way.
type vote[K comparable] struct {
	who int
	k   K
}

// list is a tally as the chapter tells of it: each voter's vote, in any order.
type list[K comparable] []vote[K]

func (l list[K]) of(who int) (K, bool) {
	for _, v := range l {
		if v.who == who {
			return v.k, true
		}
	}
	return *new(K), false
}

func (l *list[K]) add(who int, k K) bool {
	old, ok := l.of(who)
	if !ok {
		*l = append(*l, vote[K]{who, k})
		return true
	}
	return old == k
}

func (l *list[K]) change(who int, k K) {
	*l = slices.DeleteFunc(*l, func(v vote[K]) bool { return v.who == who })
	*l = append(*l, vote[K]{who, k})
}

func (l list[K]) who(k K) []int {
	var whos []int
	for _, v := range l {
		if v.k == k {
			whos = append(whos, v.who)
		}
	}
	slices.Sort(whos)
	return whos
}

// least looks at each value's voters, and takes the value with the lowest of them.
func (l list[K]) least(at int) (K, bool) {
	var best vote[K]
	found := false
	for _, v := range l {
		whos := l.who(v.k)
		if at >= 1 && len(whos) >= at && (!found || whos[0] < best.who) {
			best, found = vote[K]{whos[0], v.k}, true
		}
	}
	return best.k, found
}

// agrees holds all answers of a tally against the second way's, for those voters and values.
func agrees[K comparable](t *testing.T, x *tally.Tally[K], l list[K], whos []int, ks []K) {
	t.Helper()
	if x.Len() != len(l) {
		t.Fatalf("Len: %v, not %v: %v", x.Len(), len(l), l)
	}
	for _, who := range whos {
		k, ok := x.Of(who)
		if want, is := l.of(who); k != want || ok != is {
			t.Fatalf("Of(%v): %v %v, not %v %v: %v", who, k, ok, want, is, l)
		}
	}
	for _, k := range ks {
		want := l.who(k)
		if x.Count(k) != len(want) || !slices.Equal(x.Who(k), want) {
			t.Fatalf("%v: %v %v, not %v: %v", k, x.Count(k), x.Who(k), want, l)
		}
	}
	for at := -2; at <= len(l)+2; at++ {
		k, ok := x.Least(at)
		if want, is := l.least(at); k != want || ok != is {
			t.Fatalf("Least(%v): %v %v, not %v %v: %v", at, k, ok, want, is, l)
		}
	}
}

// P20.1: the chapter's example, and what the calls answer one by one.
func TestCalls(t *testing.T) {
	x := tally.New[string]()
	if x == nil || x.Len() != 0 || x.Count("a") != 0 || len(x.Who("a")) != 0 || x.Count("") != 0 {
		t.Fatal("a new tally has something")
	}
	if k, ok := x.Of(1); k != "" || ok {
		t.Error("a new tally has a vote")
	}
	if k, ok := x.Least(1); k != "" || ok {
		t.Error("a new tally has a least value")
	}
	if !x.Add(1, "a") || x.Add(1, "b") || !x.Add(1, "a") {
		t.Error("Add answers wrongly")
	}
	if k, ok := x.Of(1); k != "a" || !ok {
		t.Error("Of:", k, ok)
	}
	x.Change(1, "b")
	if !x.Add(1, "b") || x.Add(1, "a") || x.Count("a") != 0 || x.Count("b") != 1 || x.Len() != 1 {
		t.Error("Change answers wrongly")
	}
	x.Change(2, "c")
	if k, ok := x.Of(2); k != "c" || !ok || x.Len() != 2 {
		t.Error("Change of one who hasn't voted:", k, ok)
	}
}

// P20.1: Add of the value that is a type's nought is a vote as any other.
func TestNoughtVote(t *testing.T) {
	x := tally.New[api.Digest]()
	if x.Count(api.Digest{}) != 0 || !x.Add(0, api.Digest{}) || x.Add(0, api.Digest{1}) || x.Len() != 1 || x.Count(api.Digest{}) != 1 {
		t.Error("the nought digest")
	}
	if d, ok := x.Least(1); d != (api.Digest{}) || !ok {
		t.Error("Least:", d, ok)
	}
	if d, ok := x.Of(0); d != (api.Digest{}) || !ok {
		t.Error("Of:", d, ok)
	}
}

// P20.1: a voter is any number.
func TestVoters(t *testing.T) {
	x, l := tally.New[int](), list[int]{}
	whos := []int{math.MaxInt, 7, 0, math.MinInt, -1, 1 << 16, 1<<32 + 7, 3}
	for i, who := range whos {
		if !x.Add(who, i%2) || !l.add(who, i%2) {
			t.Error(who)
		}
		agrees(t, x, l, whos, []int{0, 1, 2})
	}
	if !slices.Equal(x.Who(1), []int{math.MinInt, 3, 7, 1 << 16}) || !slices.Equal(x.Who(0), []int{-1, 0, 1<<32 + 7, math.MaxInt}) {
		t.Error(x.Who(0), x.Who(1))
	}
}

// P20.1: Least at the edges of what there is, and of int.
func TestLeast(t *testing.T) {
	x := tally.New[string]()
	for who, k := range []string{"d", "a", "b", "a", "b", "a", "c", "b"} {
		x.Add(who, k)
	}
	cases := []struct {
		at   int
		want string
	}{{math.MinInt, ""}, {-1, ""}, {0, ""}, {1, "d"}, {2, "a"}, {3, "a"}, {4, ""}, {math.MaxInt, ""}}
	for range 50 { // a map is gone over in another order each time
		for _, c := range cases {
			if k, ok := x.Least(c.at); k != c.want || ok != (c.want != "") {
				t.Fatal(c.at, k, ok)
			}
		}
	}
	x.Change(1, "b")
	if k, ok := x.Least(2); k != "b" || !ok {
		t.Error("the lowest voter of b is 1 now:", k, ok)
	}
	if k, ok := x.Least(4); k != "b" || !ok {
		t.Error("b has four:", k, ok)
	}
	if k, ok := x.Least(3); k != "b" || !ok {
		t.Error("b has at least three:", k, ok)
	}
}

// P20.1: all rows of up to four calls of Add and Change, by three voters, of two values, against a second way.
func TestAllRows(t *testing.T) {
	const kinds = 12 // Add or Change, of a voter, of a value
	whos, ks := []int{-1, 0, 1, 2}, []string{"", "a", "b"}
	for rows := range kinds * kinds * kinds * kinds {
		x, l := tally.New[string](), list[string]{}
		for range 4 {
			step := rows % kinds
			rows /= kinds
			who, k := step/2%3, ks[1+step%2]
			if step >= 6 {
				x.Change(who, k)
				l.change(who, k)
			} else if got, want := x.Add(who, k), l.add(who, k); got != want {
				t.Fatal(who, k, got, want, l)
			}
			agrees(t, x, l, whos, ks)
		}
	}
}

// walk does random calls to a tally, and holds it against the second way.
func walk[K comparable](t *testing.T, seed int64, ks []K) {
	t.Helper()
	r := rand.New(rand.NewSource(seed))
	for range 60 {
		x, l := tally.New[K](), list[K]{}
		whos := make([]int, 1+r.Intn(9))
		for i := range whos {
			whos[i] = r.Intn(12) - 3
		}
		for range 60 {
			who, k := whos[r.Intn(len(whos))], ks[r.Intn(len(ks))]
			if r.Intn(2) == 0 {
				x.Change(who, k)
				l.change(who, k)
			} else if got, want := x.Add(who, k), l.add(who, k); got != want {
				t.Fatal(who, k, got, want)
			}
			agrees(t, x, l, whos, ks)
		}
	}
}

// P20.1: values of many types that can be compared, at random, against a second way.
func TestTypes(t *testing.T) {
	one, other := 1, 1
	walk(t, 1, []string{"", "a", "b", "ab"})
	walk(t, 2, []api.Digest{{}, {1}, {31: 1}})
	walk(t, 3, []api.Outcome{{}, {Client: 1}, {Stamp: 1}, {Result: api.ErrArg}, {Client: 1, Stamp: 1}})
	walk(t, 4, []bool{false, true})
	walk(t, 5, []*int{nil, &one, &other})
	walk(t, 6, []any{nil, 1, "1", int64(1), api.Digest{}, 1.5})
	walk(t, 7, []float64{0, 1, math.Inf(1), math.Inf(-1)})
	walk(t, 8, []struct{}{{}})
	walk(t, 9, []struct {
		d api.Digest
		n int
	}{{}, {n: 1}, {d: api.Digest{1}}})
}

// P20.1: a nil tally has none, and takes none.
func TestNil(t *testing.T) {
	var x *tally.Tally[string]
	for range 2 {
		if x.Add(1, "a") || x.Add(1, "") || x.Len() != 0 || x.Count("a") != 0 || x.Count("") != 0 || len(x.Who("a")) != 0 {
			t.Error("a nil tally has something")
		}
		if k, ok := x.Of(1); k != "" || ok {
			t.Error("Of:", k, ok)
		}
		for _, at := range []int{math.MinInt, 0, 1, math.MaxInt} {
			if k, ok := x.Least(at); k != "" || ok {
				t.Error("Least:", at, k, ok)
			}
		}
		x.Change(1, "a")
	}
}

// P20.1, P5: a tally that New didn't make is as one that New made.
func TestUnmade(t *testing.T) {
	var x tally.Tally[string]
	agrees(t, &x, nil, []int{0, 1}, []string{"", "a"})
	if !x.Add(1, "a") || x.Add(1, "b") || x.Count("a") != 1 {
		t.Error("Add")
	}
	var y tally.Tally[string]
	y.Change(1, "a")
	agrees(t, &y, list[string]{{1, "a"}}, []int{0, 1}, []string{"", "a"})
}

// P20.1: two tallies have nothing of each other.
func TestTwo(t *testing.T) {
	x, y := tally.New[string](), tally.New[string]()
	x.Add(1, "a")
	if y.Len() != 0 || y.Count("a") != 0 || !y.Add(1, "b") || x.Count("b") != 0 {
		t.Error("two tallies share votes")
	}
}

// P20.1: an answer is the caller's own.
func TestMemory(t *testing.T) {
	x := tally.New[string]()
	x.Add(1, "a")
	x.Add(2, "a")
	whos := x.Who("a")
	whos[0], whos[1] = 9, 9
	whos = append(whos[:1], 8)
	if !slices.Equal(x.Who("a"), []int{1, 2}) || x.Count("a") != 2 || len(whos) != 2 {
		t.Error(x.Who("a"))
	}
	whos = x.Who("a")
	x.Change(1, "b")
	if !slices.Equal(whos, []int{1, 2}) {
		t.Error("an answer changed behind the call:", whos)
	}
}

// P20.1, P5: values that aren't like themselves, or can't be compared, are votes that nobody else has.
func TestUnlike(t *testing.T) {
	type pair struct {
		f float64
		a any
	}
	nan := math.NaN()
	for _, k := range []any{nan, []int{1}, map[int]int{}, func() {}, pair{nan, 1}, pair{1, []int{1}}, pair{nan, []int{1}}, [1]any{[]int{}}, any(pair{1, func() {}})} {
		x := tally.New[any]()
		for range 3 {
			if x.Add(1, k) || x.Add(2, k) || x.Count(k) != 0 || len(x.Who(k)) != 0 || x.Len() != 2 {
				t.Error("Add")
			}
			if _, ok := x.Of(1); !ok {
				t.Error("he has voted")
			}
			if k, ok := x.Least(1); k != nil || ok {
				t.Error("Least")
			}
			x.Change(1, k)
		}
		if !x.Add(3, "a") || x.Count("a") != 1 || x.Add(1, "a") {
			t.Error("Add behind it")
		}
		if k, ok := x.Least(1); k != "a" || !ok {
			t.Error("Least behind it")
		}
		x.Change(1, "a")
		x.Change(2, 1.0)
		agrees(t, x, list[any]{{1, "a"}, {2, 1.0}, {3, "a"}}, []int{0, 1, 2, 3}, []any{nil, "a", 1.0, 1})
		x.Change(3, k)
		if x.Count("a") != 1 || x.Len() != 3 {
			t.Error("Change to it")
		}
	}
}

// P20.1: both noughts are one value.
func TestNoughts(t *testing.T) {
	x := tally.New[float64]()
	below := math.Copysign(0, -1)
	if !x.Add(1, 0) || !x.Add(1, below) || !x.Add(2, below) || x.Count(0) != 2 || x.Count(below) != 2 || !slices.Equal(x.Who(0), []int{1, 2}) {
		t.Error(x.Count(0), x.Who(0))
	}
	x.Change(1, below)
	x.Change(2, 1)
	if x.Count(0) != 1 || x.Count(1) != 1 {
		t.Error(x.Count(0), x.Count(1))
	}
}

// P20.1: what nobody votes for any more isn't kept.
func TestKept(t *testing.T) {
	x := tally.New[api.Digest]()
	y := tally.New[float64]()
	var from, to runtime.MemStats
	runtime.GC()
	runtime.ReadMemStats(&from)
	for i := range 200000 {
		x.Change(i%3, api.Digest{byte(i), byte(i >> 8), byte(i >> 16)})
		y.Change(i%3, math.NaN())
	}
	runtime.GC()
	runtime.ReadMemStats(&to)
	if to.HeapAlloc > from.HeapAlloc+(1<<20) {
		t.Error("kept:", to.HeapAlloc-from.HeapAlloc)
	}
	if x.Len() != 3 || y.Len() != 3 {
		t.Error(x.Len(), y.Len())
	}
}

// P20.1: many voters, of many values, and the time it takes.
func TestMany(t *testing.T) {
	x := tally.New[string]()
	const many = 30000
	for i := range many {
		who := many - 1 - i
		if !x.Add(who, strconv.Itoa(who%1000)) {
			t.Fatal(who)
		}
	}
	whos := x.Who("7")
	if x.Len() != many || x.Count("7") != 30 || len(whos) != 30 || !slices.IsSorted(whos) || whos[0] != 7 || whos[29] != 29007 {
		t.Error(x.Len(), whos)
	}
	if k, ok := x.Least(30); k != "0" || !ok {
		t.Error(k, ok)
	}
	if _, ok := x.Least(31); ok {
		t.Error("nothing has 31 votes")
	}
}
