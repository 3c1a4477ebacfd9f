package formula_test

import (
	"math"
	"math/bits"
	"math/rand"
	"slices"
	"testing"

	"bottomry/api"
	"bottomry/formula"
)

// org is an organization.
func org(i int) api.Formula {
	return api.Formula{Org: i}
}

// of is At of kids.
func of(at int, kids ...api.Formula) api.Formula {
	return api.Formula{At: at, Kids: kids}
}

// orgs are the organizations with these numbers.
func orgs(numbers ...int) []api.Formula {
	var all []api.Formula
	for _, i := range numbers {
		all = append(all, org(i))
	}
	return all
}

// nest is an organization under so many that have one kid alone.
func nest(f api.Formula, over int) api.Formula {
	for range over {
		f = of(1, f)
	}
	return f
}

// row is an organization so many times under one node.
func row(f api.Formula, times int) api.Formula {
	return of(1, slices.Repeat([]api.Formula{f}, times)...)
}

// clone is a policy in memory of its own.
func clone(f api.Formula) api.Formula {
	kids := make([]api.Formula, len(f.Kids))
	for i, kid := range f.Kids {
		kids[i] = clone(kid)
	}
	return api.Formula{Org: f.Org, At: f.At, Kids: kids}
}

// endless leads back to itself by each of so many kids.
func endless(kids int) api.Formula {
	f := api.Formula{At: 1, Kids: make([]api.Formula, kids)}
	for i := range f.Kids {
		f.Kids[i] = f
	}
	return f
}

// wide has few nodes in memory, and twice as many at each depth.
func wide(deep int) api.Formula {
	f := org(0)
	for range deep - 1 {
		f = of(1, f, f)
	}
	return f
}

// threeOf7 is 3 of all.
var threeOf7 = of(3, orgs(0, 1, 2, 3, 4, 5, 6)...)

// P8.1: what may be.

func TestCheck(t *testing.T) {
	for name, c := range map[string]struct {
		f    api.Formula
		n    int
		want api.Errno
	}{
		"the nought policy":              {api.Formula{}, 1, api.OK},
		"an organization":                {org(3), 4, api.OK},
		"the last organization":          {org(6), 7, api.OK},
		"empty kids":                     {api.Formula{Org: 2, Kids: []api.Formula{}}, 3, api.OK},
		"2 of 3":                         {of(2, orgs(0, 1, 2)...), 3, api.OK},
		"3 of 7":                         {threeOf7, 7, api.OK},
		"all of 3":                       {of(3, orgs(0, 1, 2)...), 3, api.OK},
		"1 of 1":                         {of(1, org(0)), 1, api.OK},
		"one organization twice":         {of(2, orgs(1, 1)...), 2, api.OK},
		"below":                          {of(2, of(1, orgs(0, 1)...), of(2, orgs(2, 3)...)), 4, api.OK},
		"n 0":                            {org(0), 0, api.ErrArg},
		"n below 0":                      {org(0), -1, api.ErrArg},
		"n 8":                            {org(0), 8, api.ErrArg},
		"n the least":                    {org(0), math.MinInt, api.ErrArg},
		"n the greatest":                 {org(0), math.MaxInt, api.ErrArg},
		"an organization that is n":      {org(4), 4, api.ErrRange},
		"an organization below 0":        {org(-1), 4, api.ErrRange},
		"an organization of 7":           {org(7), 7, api.ErrRange},
		"a greatest organization":        {org(math.MaxInt), 7, api.ErrRange},
		"a least organization":           {org(math.MinInt), 7, api.ErrRange},
		"a kid that is n":                {of(1, orgs(0, 1, 3)...), 3, api.ErrRange},
		"a kid below 0":                  {of(1, orgs(0, -1, 1)...), 3, api.ErrRange},
		"a kid's kid that is n":          {of(1, org(0), of(1, org(3))), 3, api.ErrRange},
		"0 of kids":                      {of(0, orgs(0, 1)...), 3, api.ErrRange},
		"below 0 of kids":                {of(-1, orgs(0, 1)...), 3, api.ErrRange},
		"more than all of kids":          {of(3, orgs(0, 1)...), 3, api.ErrRange},
		"the greatest of kids":           {of(math.MaxInt, orgs(0, 1)...), 3, api.ErrRange},
		"the least of kids":              {of(math.MinInt, orgs(0, 1)...), 3, api.ErrRange},
		"a kid with more than all":       {of(1, org(0), of(2, org(1))), 3, api.ErrRange},
		"a kid with 0 of its kids":       {of(1, org(0), of(0, org(1))), 3, api.ErrRange},
		"an organization with 1 of none": {api.Formula{Org: 1, At: 1}, 3, api.ErrRange},
		"an organization with an At":     {api.Formula{Org: 1, At: 1, Kids: []api.Formula{}}, 3, api.ErrRange},
		"an organization with At -1":     {api.Formula{Org: 1, At: -1}, 3, api.ErrRange},
		"a kid of none with an At":       {of(1, org(0), of(1)), 3, api.ErrRange},
		"kids with an Org":               {api.Formula{Org: 1, At: 1, Kids: orgs(0)}, 3, api.ErrRange},
		"kids with an Org below 0":       {api.Formula{Org: -1, At: 1, Kids: orgs(0)}, 3, api.ErrRange},
		"a kid with kids and an Org":     {of(1, api.Formula{Org: 1, At: 1, Kids: orgs(0)}), 3, api.ErrRange},
		"32 nodes":                       {row(org(0), 31), 1, api.OK},
		"33 nodes":                       {row(org(0), 32), 1, api.ErrMany},
		"32 nodes below":                 {of(1, row(org(0), 15), row(org(0), 14)), 1, api.OK},
		"33 nodes below":                 {of(1, row(org(0), 15), row(org(0), 15)), 1, api.ErrMany},
		"200 nodes":                      {row(org(0), 199), 1, api.ErrMany},
		"5 deep":                         {nest(org(0), 4), 1, api.OK},
		"6 deep":                         {nest(org(0), 5), 1, api.ErrLong},
		"a last kid 5 deep":              {of(1, org(0), of(1, org(0), nest(org(0), 2))), 1, api.OK},
		"a last kid 6 deep":              {of(1, org(0), of(1, org(0), nest(org(0), 3))), 1, api.ErrLong},
		"a first kid 6 deep":             {of(1, nest(org(0), 4), org(0)), 1, api.ErrLong},
		"32 deep":                        {nest(org(0), 31), 1, api.ErrLong},
		"33 deep":                        {nest(org(0), 32), 1, api.ErrMany},
		"50 deep":                        {nest(org(0), 49), 1, api.ErrMany},
		"n 0, and all else":              {nest(row(org(9), 40), 10), 0, api.ErrArg},
		"n 8, and 33 nodes":              {row(org(0), 32), 8, api.ErrArg},
		"n 0, and 6 deep":                {nest(org(0), 5), 0, api.ErrArg},
		"n 0, and an organization":       {org(3), 0, api.ErrArg},
		"33 nodes, 6 deep, out of range": {nest(row(org(-1), 30), 4), 1, api.ErrMany},
		"33 nodes, out of range":         {row(org(9), 32), 7, api.ErrMany},
		"6 deep, out of range":           {nest(org(9), 5), 7, api.ErrLong},
		"out of range, then 6 deep":      {of(1, org(9), nest(org(0), 4)), 7, api.ErrLong},
		"out of range, then 33 nodes":    {of(9, row(org(-1), 31)), 7, api.ErrMany},
	} {
		if got := formula.Check(c.f, c.n); got != c.want {
			t.Errorf("%s: %d, want %d", name, got, c.want)
		}
	}
}

// An organization may be just of those that have it.
func TestCheckOfEachN(t *testing.T) {
	for n := -3; n < 12; n++ {
		for i := -3; i < 12; i++ {
			want := api.OK
			switch {
			case n < 1 || n > 7:
				want = api.ErrArg
			case i < 0 || i >= n:
				want = api.ErrRange
			}
			if got := formula.Check(org(i), n); got != want {
				t.Errorf("the organization %d of %d: %d, want %d", i, n, got, want)
			}
			if got := formula.Check(of(1, org(0), of(1, org(i))), n); got != want {
				t.Errorf("the organization %d of %d, below: %d, want %d", i, n, got, want)
			}
		}
	}
}

// P8.1: for whom it holds.

func TestHolds(t *testing.T) {
	twoOf3 := of(2, orgs(0, 1, 2)...)
	both := of(2, org(5), of(1, orgs(0, 6)...))
	twice := of(2, orgs(1, 1, 2)...)
	for _, c := range []struct {
		f    api.Formula
		set  uint32
		want bool
	}{
		{twoOf3, 6, true}, {twoOf3, 3, true}, {twoOf3, 5, true}, {twoOf3, 7, true},
		{twoOf3, 4, false}, {twoOf3, 1, false}, {twoOf3, 0, false}, {twoOf3, 0x78, false}, {twoOf3, 0x79, false},
		{org(0), 1, true}, {org(0), 0, false}, {org(0), 0xfffffffe, false}, {org(0), math.MaxUint32, true},
		{org(6), 64, true}, {org(6), 63, false}, {org(6), math.MaxUint32 &^ 64, false},
		{both, 32 | 1, true}, {both, 32 | 64, true}, {both, 32 | 64 | 1, true}, {both, 32, false}, {both, 64 | 1, false},
		// A kid counts as often as it stands there.
		{twice, 2, true}, {twice, 4, false}, {twice, 6, true},
		{of(1, orgs(3, 4)...), 8, true}, {of(1, orgs(3, 4)...), 16, true}, {of(1, orgs(3, 4)...), 7, false},
		{of(3, orgs(0, 1, 2)...), 7, true}, {of(3, orgs(0, 1, 2)...), 6, false},
		{nest(org(2), 4), 4, true}, {nest(org(2), 4), 3, false},
		{threeOf7, 0x54, true}, {threeOf7, 0x50, false},
	} {
		if got := formula.Holds(c.f, c.set); got != c.want {
			t.Errorf("%v for %b: %v", c.f, c.set, got)
		}
	}
}

func TestNames(t *testing.T) {
	for _, c := range []struct {
		f    api.Formula
		want uint32
	}{
		{api.Formula{}, 1},
		{org(6), 64},
		{of(2, orgs(0, 1, 2)...), 7},
		{of(1, orgs(3, 3, 3)...), 8},
		{threeOf7, 127},
		{of(1, org(5), of(1, org(1), of(1, org(4)))), 2 | 16 | 32},
		// What nobody needs stands there all the same; a node with kids is no organization.
		{of(1, org(5), of(2, orgs(5, 6)...)), 32 | 64},
		{nest(org(2), 4), 4},
	} {
		if got := formula.Names(c.f); got != c.want {
			t.Errorf("the names of %v are %b, want %b", c.f, got, c.want)
		}
	}
}

func TestLeast(t *testing.T) {
	for _, c := range []struct {
		f    api.Formula
		want int
	}{
		{api.Formula{}, 1},
		{org(6), 1},
		{of(2, orgs(0, 1, 2)...), 2},
		{of(3, orgs(0, 1, 2)...), 3},
		{of(1, orgs(0, 1, 2)...), 1},
		{of(7, orgs(0, 1, 2, 3, 4, 5, 6)...), 7},
		{nest(org(2), 4), 1},
		// The same organization counts in several kids.
		{of(3, orgs(4, 4, 4)...), 1},
		{of(2, of(2, orgs(0, 1, 2)...), of(2, orgs(2, 3, 0)...)), 2},
		{of(2, of(2, orgs(0, 1)...), of(2, orgs(1, 2)...)), 3},
		// Less from each kid isn't least for all of them.
		{of(2, of(1, org(0), of(2, orgs(3, 4)...)), of(2, orgs(3, 4)...)), 2},
		{of(1, of(3, orgs(0, 1, 2)...), of(2, orgs(5, 6)...)), 2},
	} {
		if got := formula.Least(c.f); got != c.want {
			t.Errorf("the least of %v is %d, want %d", c.f, got, c.want)
		}
	}
}

func TestStops(t *testing.T) {
	twoOf3 := of(2, orgs(0, 1, 2)...)
	for _, c := range []struct {
		f    api.Formula
		set  uint32
		want bool
	}{
		{twoOf3, 3, true}, {twoOf3, 6, true}, {twoOf3, 5, true}, {twoOf3, 7, true}, {twoOf3, math.MaxUint32, true},
		{twoOf3, 1, false}, {twoOf3, 2, false}, {twoOf3, 4, false}, {twoOf3, 0, false}, {twoOf3, 0xfffffff9, false},
		{org(6), 64, true}, {org(6), 63, false}, {org(6), 0xffffffbf, false}, {org(0), 1, true},
		{threeOf7, 0x1f, true}, {threeOf7, 0x0f, false},
		{of(1, orgs(3, 4)...), 8 | 16, true}, {of(1, orgs(3, 4)...), 8, false},
		{of(2, orgs(3, 4)...), 8, true},
	} {
		if got := formula.Stops(c.f, c.set); got != c.want {
			t.Errorf("%b stops %v: %v", c.set, c.f, got)
		}
	}
}

// A policy that may be of no n holds for nobody, and has no names; nobody stops it.
func TestPoliciesThatMayNotBe(t *testing.T) {
	for name, f := range map[string]api.Formula{
		"the organization 7":        org(7),
		"the organization 32":       org(32),
		"the organization -1":       org(-1),
		"the least organization":    org(math.MinInt),
		"the greatest organization": org(math.MaxInt),
		"a kid that may not be":     of(1, org(0), org(7)),
		"0 of kids":                 of(0, orgs(0, 1)...),
		"-1 of kids":                of(-1, orgs(0, 1)...),
		"more than all":             of(3, orgs(0, 1)...),
		"1 of none":                 of(1),
		"-1 of none":                of(-1),
		"kids with an Org":          {Org: 1, At: 1, Kids: orgs(0, 1)},
		"33 nodes":                  row(org(0), 32),
		"6 deep":                    nest(org(0), 5),
		"200 nodes":                 of(1, row(org(0), 99), row(org(1), 98)),
		"50 deep":                   nest(org(0), 49),
		"no end":                    endless(1),
		"no end by many":            endless(3),
		"very many":                 wide(60),
	} {
		for _, set := range []uint32{0, 1, 2, 3, 127, 128, math.MaxUint32, 1 << 31} {
			if formula.Holds(f, set) || formula.Stops(f, set) {
				t.Errorf("%s: it holds, or is stopped, for %b", name, set)
			}
		}
		if formula.Names(f) != 0 || formula.Least(f) != 0 {
			t.Errorf("%s: names %b, least %d", name, formula.Names(f), formula.Least(f))
		}
	}
}

// P8.1: the same ones.

func TestSame(t *testing.T) {
	base := of(2, org(0), of(1, orgs(1, 2)...), org(3))
	for name, c := range map[string]struct {
		f, g api.Formula
		want bool
	}{
		"itself":                         {base, base, true},
		"in other memory":                {base, clone(base), true},
		"nought ones":                    {api.Formula{}, api.Formula{}, true},
		"nil and empty kids":             {org(3), api.Formula{Org: 3, Kids: []api.Formula{}}, true},
		"empty kids below":               {of(1, org(3)), of(1, api.Formula{Org: 3, Kids: []api.Formula{}}), true},
		"the same though it may not be":  {api.Formula{Org: -9, At: 77, Kids: orgs(50)}, api.Formula{Org: -9, At: 77, Kids: orgs(50)}, true},
		"organizations":                  {org(1), org(2), false},
		"organizations modulo 2^8":       {org(1), org(257), false},
		"organizations modulo 2^32":      {org(1), org(1 + 1<<32), false},
		"At of none":                     {org(1), api.Formula{Org: 1, At: 1}, false},
		"At of kids":                     {of(1, orgs(0, 1)...), of(2, orgs(0, 1)...), false},
		"an Org beside kids":             {of(1, org(0)), api.Formula{Org: 1, At: 1, Kids: orgs(0)}, false},
		"an order":                       {of(1, orgs(0, 1)...), of(1, orgs(1, 0)...), false},
		"more":                           {of(1, orgs(0, 1)...), of(1, orgs(0, 1, 2)...), false},
		"fewer":                          {of(1, orgs(0, 1)...), of(1, org(0)), false},
		"none":                           {of(1, org(0)), of(1), false},
		"a first kid":                    {base, of(2, org(4), of(1, orgs(1, 2)...), org(3)), false},
		"a last kid":                     {base, of(2, org(0), of(1, orgs(1, 2)...), org(4)), false},
		"a kid's At":                     {base, of(2, org(0), of(2, orgs(1, 2)...), org(3)), false},
		"a kid's kid":                    {base, of(2, org(0), of(1, orgs(1, 4)...), org(3)), false},
		"a kid's kids":                   {base, of(2, org(0), of(1, org(1)), org(3)), false},
		"what holds for the same sets":   {org(0), of(1, org(0)), false},
		"deeper":                         {nest(org(0), 3), nest(org(0), 4), false},
		"50 deep":                        {nest(org(0), 49), nest(org(0), 49), true},
		"50 deep, another organization":  {nest(org(0), 49), nest(org(1), 49), false},
		"200 nodes":                      {row(org(2), 199), row(org(2), 199), true},
		"200 nodes, another last one":    {row(org(2), 199), of(1, append(slices.Repeat(orgs(2), 198), org(3))...), false},
		"20000 nodes, far beyond limits": {of(1, slices.Repeat([]api.Formula{row(org(2), 199)}, 100)...), of(1, slices.Repeat([]api.Formula{row(org(2), 199)}, 100)...), true},
		"no end, and an end":             {endless(1), nest(org(0), 49), false},
	} {
		if formula.Same(c.f, c.g) != c.want || formula.Same(c.g, c.f) != c.want {
			t.Errorf("%s: not %v", name, c.want)
		}
	}
}

// P5: what has no end, or very many nodes, is gone through all the same.
func TestCallsEnd(t *testing.T) {
	for _, f := range []api.Formula{endless(1), endless(2), endless(40), of(2, org(0), endless(2)), wide(40), wide(2000)} {
		if got := formula.Check(f, 7); got != api.ErrMany {
			t.Errorf("it may be: %d", got)
		}
		if got := formula.Check(f, 8); got != api.ErrArg {
			t.Errorf("of 8: %d", got)
		}
		formula.Same(f, f)
		for _, g := range []api.Formula{endless(1), endless(2), wide(40), wide(2000)} {
			formula.Same(f, g)
		}
	}
}

// What the chapter's words say, put another way: by a list of all nodes, and by all sets of 7 at once.

// node is a node, and how deep it is.
type node struct {
	api.Formula
	deep int
}

// listed are all nodes, level by level.
func listed(f api.Formula) []node {
	all := []node{{f, 1}}
	for i := 0; i < len(all); i++ {
		for _, kid := range all[i].Kids {
			all = append(all, node{kid, all[i].deep + 1})
		}
	}
	return all
}

// mayBe is what Check should answer.
func mayBe(f api.Formula, n int) api.Errno {
	all := listed(f)
	long := slices.ContainsFunc(all, func(x node) bool { return x.deep > 5 })
	wrong := slices.ContainsFunc(all, func(x node) bool {
		if len(x.Kids) > 0 {
			return x.Org != 0 || x.At < 1 || x.At > len(x.Kids)
		}
		return x.At != 0 || x.Org < 0 || x.Org > n-1
	})
	switch {
	case n < 1, n > 7:
		return api.ErrArg
	case len(all) > 32:
		return api.ErrMany
	case long:
		return api.ErrLong
	case wrong:
		return api.ErrRange
	}
	return api.OK
}

// truths are for which of the sets of 7 a policy that may be holds.
func truths(f api.Formula) [128]bool {
	var counts [128]int
	var all [128]bool
	for _, kid := range f.Kids {
		for set, holds := range truths(kid) {
			if holds {
				counts[set]++
			}
		}
	}
	for set := range all {
		if len(f.Kids) == 0 {
			all[set] = slices.Contains([]int{0, 1, 2, 3, 4, 5, 6}, f.Org) && set/(1<<f.Org)%2 == 1
		} else {
			all[set] = counts[set] >= f.At
		}
	}
	return all
}

// compare holds all calls on a policy against the chapter's words.
func compare(t *testing.T, f api.Formula) {
	t.Helper()
	for n := -1; n < 10; n++ {
		if got, want := formula.Check(f, n), mayBe(f, n); got != want {
			t.Errorf("Check(%v, %d) = %d, want %d", f, n, got, want)
		}
	}
	var all [128]bool
	names, least := uint32(0), 0
	may := mayBe(f, 7) == api.OK
	if may {
		all = truths(f)
		for _, x := range listed(f) {
			if len(x.Kids) == 0 {
				names |= 1 << x.Org
			}
		}
		least = 7
		for set, holds := range all {
			if holds {
				least = min(least, bits.OnesCount(uint(set)))
			}
		}
	}
	if got := formula.Names(f); got != names {
		t.Errorf("Names(%v) = %b, want %b", f, got, names)
	}
	if got := formula.Least(f); got != least {
		t.Errorf("Least(%v) = %d, want %d", f, got, least)
	}
	for set := range uint32(128) {
		stops := may
		for other, holds := range all {
			stops = stops && (!holds || uint32(other)&set != 0)
		}
		for _, more := range []uint32{0, 128, 1 << 31, math.MaxUint32 &^ 127} {
			if got := formula.Holds(f, set|more); got != all[set] {
				t.Errorf("Holds(%v, %b) = %v", f, set|more, got)
			}
			if got := formula.Stops(f, set|more); got != stops {
				t.Errorf("Stops(%v, %b) = %v", f, set|more, got)
			}
		}
	}
}

// grow makes a policy of at most so many nodes, at most so deep; what may not be comes one time in so many.
func grow(r *rand.Rand, nodes *int, deep, wrong int) api.Formula {
	*nodes--
	f := org(r.Intn(7))
	if deep > 1 && r.Intn(4) > 0 {
		f = of(0)
		for range 1 + r.Intn(5) {
			if *nodes > 0 {
				f.Kids = append(f.Kids, grow(r, nodes, deep-1, wrong))
			}
		}
		if len(f.Kids) > 0 {
			f.At = 1 + r.Intn(len(f.Kids))
		}
	}
	if r.Intn(wrong) == 0 {
		f.Org += r.Intn(9) - 4
	}
	if r.Intn(wrong) == 0 {
		f.At += r.Intn(5) - 2
	}
	return f
}

func TestManyPolicies(t *testing.T) {
	r := rand.New(rand.NewSource(8))
	seen := map[api.Errno]int{}
	for i := range 3000 {
		nodes, deep, wrong := 1+r.Intn(33), 1+r.Intn(5), 1000
		switch i % 10 {
		case 0:
			nodes, deep = 1+r.Intn(200), 1+r.Intn(50)
		case 1, 2:
			deep = 7
		case 3, 4:
			wrong = 30
		}
		f := grow(r, &nodes, deep, wrong)
		seen[mayBe(f, 7)]++
		compare(t, f)
		if t.Failed() {
			return
		}
	}
	for _, e := range []api.Errno{api.OK, api.ErrMany, api.ErrLong, api.ErrRange} {
		if seen[e] < 50 {
			t.Errorf("only %d policies with the error %d", seen[e], e)
		}
	}
}

// P8.1: two policies are the same just if they have the same nodes, whatever they may be.
func TestSameOfMany(t *testing.T) {
	r := rand.New(rand.NewSource(9))
	for range 2000 {
		nodes, deep := 1+r.Intn(200), 1+r.Intn(50)
		f := grow(r, &nodes, deep, 10)
		g := clone(f)
		if !formula.Same(f, g) || !formula.Same(g, f) {
			t.Fatalf("%v isn't the same as itself", f)
		}
		var all []*api.Formula
		var collect func(x *api.Formula)
		collect = func(x *api.Formula) {
			all = append(all, x)
			for i := range x.Kids {
				collect(&x.Kids[i])
			}
		}
		collect(&g)
		x := all[r.Intn(len(all))]
		switch r.Intn(3) {
		case 0:
			x.Org++
		case 1:
			x.At--
		case 2:
			x.Kids = append(x.Kids, org(0))
		}
		if formula.Same(f, g) || formula.Same(g, f) {
			t.Fatalf("%v is the same as %v", f, g)
		}
	}
}

// P8.2: what holds for a set holds for each greater one.
func TestMoreHoldAsWell(t *testing.T) {
	r := rand.New(rand.NewSource(10))
	held := 0
	for range 1000 {
		nodes := 1 + r.Intn(33)
		f := grow(r, &nodes, 1+r.Intn(5), 100)
		for set := range uint32(128) {
			if !formula.Holds(f, set) {
				continue
			}
			held++
			for i := range 32 {
				if !formula.Holds(f, set|1<<i) {
					t.Fatalf("%v holds for %b, and with %d it doesn't", f, set, i)
				}
			}
		}
	}
	if held == 0 {
		t.Error("no policy held")
	}
}

// What is handed in isn't changed.
func TestPolicyStays(t *testing.T) {
	f := of(2, org(0), of(1, orgs(1, 2)...), org(3))
	g := clone(f)
	before := clone(f)
	formula.Check(f, 4)
	formula.Holds(f, 5)
	formula.Names(f)
	formula.Least(f)
	formula.Stops(f, 5)
	formula.Same(f, g)
	if !formula.Same(f, before) || !formula.Same(g, before) {
		t.Error("what was handed in was changed")
	}
}
