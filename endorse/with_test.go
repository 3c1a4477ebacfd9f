package endorse_test

import (
	"math"
	"math/rand"
	"slices"
	"testing"

	"bottomry/api"
	"bottomry/book"
	"bottomry/endorse"
)

// requestOf has endorsements of these, the tags of which tell the place.
func requestOf(orgs ...int) api.Request {
	q := api.Request{Core: coreOf(1)}
	for i, org := range orgs {
		q.Ends = append(q.Ends, api.Endorsement{Org: org, Tags: []api.Tag{{1, byte(i)}, {2, byte(i)}}})
	}
	return q
}

// placed is a request with an endorsement, a second way: all are gone through once.
func placed(q api.Request, e api.Endorsement) api.Request {
	out := api.Request{Core: q.Core}
	known := false
	for _, x := range q.Ends {
		known = known || x.Org == e.Org
	}
	put := false
	for _, x := range q.Ends {
		switch {
		case put:
		case known && x.Org == e.Org:
			x, put = e, true
		case !known && x.Org > e.Org:
			out.Ends, put = append(out.Ends, e), true
		}
		out.Ends = append(out.Ends, x)
	}
	if !put {
		out.Ends = append(out.Ends, e)
	}
	return out
}

// P13.1: an endorsement in its place.

func TestWith(t *testing.T) {
	for name, x := range map[string]struct {
		orgs []int
		org  int
		at   int   // where it stands then
		want []int // who stands there then
	}{
		"the only one":            {nil, 2, 0, []int{2}},
		"ahead":                   {[]int{1, 3}, 0, 0, []int{0, 1, 3}},
		"between":                 {[]int{1, 3}, 2, 1, []int{1, 2, 3}},
		"behind":                  {[]int{1, 3}, 4, 2, []int{1, 3, 4}},
		"instead of the first":    {[]int{0, 2, 3}, 0, 0, []int{0, 2, 3}},
		"instead of the middle":   {[]int{0, 2, 3}, 2, 1, []int{0, 2, 3}},
		"instead of the last":     {[]int{0, 2, 3}, 3, 2, []int{0, 2, 3}},
		"the first of two":        {[]int{0, 2, 2, 3}, 2, 1, []int{0, 2, 2, 3}},
		"in any order, new":       {[]int{3, 0, 2}, 1, 0, []int{1, 3, 0, 2}},
		"in any order, between":   {[]int{0, 3, 1, 5}, 2, 1, []int{0, 2, 3, 1, 5}},
		"in any order, behind":    {[]int{3, 0, 2}, 4, 3, []int{3, 0, 2, 4}},
		"in any order, known":     {[]int{3, 0, 2, 0}, 0, 1, []int{3, 0, 2, 0}},
		"known behind a greater":  {[]int{5, 1}, 1, 1, []int{5, 1}},
		"below 0":                 {[]int{0}, -1, 0, []int{-1, 0}},
		"least":                   {[]int{-1, 0}, math.MinInt, 0, []int{math.MinInt, -1, 0}},
		"most":                    {[]int{0, 255}, math.MaxInt, 2, []int{0, 255, math.MaxInt}},
		"no octet":                {[]int{1, 2}, 256, 2, []int{1, 2, 256}},
		"most instead":            {[]int{0, math.MaxInt}, math.MaxInt, 1, []int{0, math.MaxInt}},
		"least instead":           {[]int{math.MinInt, 0}, math.MinInt, 0, []int{math.MinInt, 0}},
		"between least and most":  {[]int{math.MinInt, math.MaxInt}, 0, 1, []int{math.MinInt, 0, math.MaxInt}},
		"far more than there are": {[]int{0, 1, 2, 3, 4, 5, 6, 7, 8, 9}, 10, 10, []int{0, 1, 2, 3, 4, 5, 6, 7, 8, 9, 10}},
	} {
		e := api.Endorsement{Org: x.org, Tags: []api.Tag{{9}, {8}, {7}}}
		got := endorse.With(requestOf(x.orgs...), e)
		var orgs []int
		for _, end := range got.Ends {
			orgs = append(orgs, end.Org)
		}
		if got.Core != coreOf(1) || !slices.Equal(orgs, x.want) || !alikeEnds(got.Ends[x.at], e) {
			t.Errorf("%s: %v", name, got)
		}
		if !alike(got, placed(requestOf(x.orgs...), e)) {
			t.Errorf("%s: the others are %v", name, got.Ends)
		}
	}
}

func TestWithOfNoTags(t *testing.T) {
	q := endorse.With(requestOf(0, 1), api.Endorsement{Org: 1})
	if len(q.Ends) != 2 || len(q.Ends[1].Tags) != 0 || !alikeEnds(q.Ends[0], requestOf(0).Ends[0]) {
		t.Errorf("with no tags: %v", q)
	}
	q = endorse.With(api.Request{}, api.Endorsement{})
	if q.Core != (api.Core{}) || len(q.Ends) != 1 || q.Ends[0].Org != 0 || len(q.Ends[0].Tags) != 0 {
		t.Errorf("nothing with nothing: %v", q)
	}
}

func TestWithOfManyOrders(t *testing.T) {
	r := rand.New(rand.NewSource(13))
	for range 20000 {
		var orgs []int
		for range r.Intn(8) {
			orgs = append(orgs, r.Intn(9)-1)
		}
		if r.Intn(2) == 0 {
			slices.Sort(orgs)
			orgs = slices.Compact(orgs)
		}
		e := api.Endorsement{Org: r.Intn(9) - 1, Tags: []api.Tag{{9}}}
		if got, want := endorse.With(requestOf(orgs...), e), placed(requestOf(orgs...), e); !alike(got, want) {
			t.Fatalf("%v with %d: %v, want %v", orgs, e.Org, got.Ends, want.Ends)
		}
	}
}

// P13.1: what is handed in stays, and answers are memory of their own.

func TestWithsMemory(t *testing.T) {
	for _, org := range []int{0, 1, 2, 3, 4} {
		q := requestOf(1, 3)
		q.Ends = append(make([]api.Endorsement, 0, 10), q.Ends...)
		e := api.Endorsement{Org: org, Tags: append(make([]api.Tag, 0, 10), api.Tag{9})}
		want := placed(requestOf(1, 3), api.Endorsement{Org: org, Tags: []api.Tag{{9}}})
		got := endorse.With(q, e)
		if !alike(q, requestOf(1, 3)) || !alikeEnds(e, api.Endorsement{Org: org, Tags: []api.Tag{{9}}}) {
			t.Errorf("with %d: what was handed in was changed: %v, %v", org, q, e)
		}
		for _, end := range q.Ends {
			clear(end.Tags)
		}
		clear(q.Ends[:cap(q.Ends)])
		clear(e.Tags[:cap(e.Tags)])
		if !alike(got, want) {
			t.Errorf("with %d: the answer changed with what was handed in: %v", org, got)
		}
		one, other := endorse.With(got, e), endorse.With(got, e)
		for _, end := range one.Ends {
			clear(end.Tags)
		}
		clear(one.Ends)
		if !alike(got, want) || !alike(other, placed(want, e)) {
			t.Errorf("with %d: two answers are shared", org)
		}
	}
}

// One and the same endorsement, put into a request twice over, has tags of its own each time.
func TestWithsTagsAreTheirOwn(t *testing.T) {
	tags := []api.Tag{{9}, {8}}
	q := endorse.With(endorse.With(api.Request{}, api.Endorsement{Org: 0, Tags: tags}), api.Endorsement{Org: 1, Tags: tags})
	clear(q.Ends[0].Tags)
	if !slices.Equal(q.Ends[1].Tags, tags) || tags[0] != (api.Tag{9}) {
		t.Error("two lists of tags are shared")
	}
}

func TestMasksMemory(t *testing.T) {
	k := book.New()
	q := endorsed(k, 4, coreOf(1), 3, 0, 0, 9)
	kept := copyOf(q)
	endorse.Mask(k, q, 4, 2)
	if !alike(q, kept) {
		t.Errorf("the request was changed: %v", q)
	}
}

// P13.1, P13.2: what a row of random endorsements comes to, held against who really endorsed.

func TestWhoIsInAMaskHasEndorsed(t *testing.T) {
	r := rand.New(rand.NewSource(131))
	seen := 0
	for range 400 {
		k, n := book.New(), 1+r.Intn(mostN)
		cores := []api.Core{coreOf(1), coreOf(2), {}, coreOf(1), coreOf(1)}
		cores[3].Client += 256 // of the same bytes as the first
		cores[4].Letter = "b"
		said := map[int][]string{} // by organizations: which texts they endorsed
		var pool []api.Endorsement
		for range 12 {
			org, c := r.Intn(n), cores[r.Intn(len(cores))]
			said[org] = append(said[org], string(textOf(c)))
			pool = append(pool, endorse.Sign(k, org, n, c))
		}
		for range 20 {
			q := api.Request{Core: cores[r.Intn(len(cores))]}
			for range r.Intn(8) {
				e := pool[r.Intn(len(pool))]
				if r.Intn(4) == 0 {
					e.Org = r.Intn(n) // somebody else's tags
				}
				q = endorse.With(q, e)
			}
			who := r.Intn(n)
			mask := endorse.Mask(k, q, n, who)
			for org := range 32 {
				if mask>>org&1 == 0 {
					continue
				}
				seen++
				text := textOf(q.Core)
				if !slices.Contains(said[org], string(text)) || !k.Said(org, who, text) {
					t.Fatalf("%d is in a mask for %v, and never endorsed it", org, q.Core)
				}
			}
			if want := maskOf(k, q, n, who); mask != want {
				t.Fatalf("of %d, %d sees %b, want %b of %v", n, who, mask, want, q)
			}
		}
	}
	if seen < 2000 {
		t.Errorf("just %d endorsements were seen", seen)
	}
}

// maskOf is a mask a second way: all endorsements are gone through, and the first of each counts.
func maskOf(k api.Crypto, q api.Request, n, who int) uint32 {
	mask, known := uint32(0), map[int]bool{}
	for _, e := range q.Ends {
		if e.Org < 0 || e.Org >= n || known[e.Org] {
			continue
		}
		known[e.Org] = true
		if len(e.Tags) > who && k.Check(e.Org, who, textOf(q.Core), e.Tags[who]) {
			mask += []uint32{1, 2, 4, 8, 16, 32, 64}[e.Org]
		}
	}
	return mask
}

// P5: no arguments make a call panic.

func TestNoCallPanics(t *testing.T) {
	ints := []int{0, 1, 3, 4, 7, 8, -1, 32, 64, math.MaxInt, math.MinInt}
	ks := []api.Crypto{nil, (*book.Book)(nil), &book.Book{}, book.New(), (*panicking)(nil), panicking{}}
	qs := []api.Request{{}, requestOf(0, 1), requestOf(-1, math.MaxInt, math.MinInt), {Ends: make([]api.Endorsement, 300)}}
	for _, k := range ks {
		for _, i := range ints {
			for _, j := range ints {
				for _, q := range qs {
					endorse.Mask(k, q, i, j)
				}
				endorse.Sign(k, i, j, api.Core{Client: i, Op: j})
				endorse.Enough(api.Formula{Org: i, At: j}, uint32(i), j)
			}
		}
	}
}
