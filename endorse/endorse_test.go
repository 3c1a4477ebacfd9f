package endorse_test

import (
	"math"
	"slices"
	"strings"
	"testing"

	"bottomry/api"
	"bottomry/book"
	"bottomry/endorse"
	"bottomry/keys"
	"bottomry/request"
)

const mostN = 7 // as a number: a change of api's constant is seen too

func coreOf(stamp int64) api.Core {
	return api.Core{Client: 4, Stamp: stamp, Op: 2, Letter: "a", A: 5, B: -1, Text: "0"}
}

// cryptos are both of the program's own.
func cryptos() map[string]api.Crypto {
	return map[string]api.Crypto{"book": book.New(), "keys": keys.New([]byte("seed"))}
}

// textOf is an endorsement's text a second way.
func textOf(c api.Core) []byte {
	return append([]byte{100}, request.CoreBytes(c)...)
}

// endorsed is a request for a core that these endorse, in this order, of n.
func endorsed(k api.Crypto, n int, c api.Core, orgs ...int) api.Request {
	q := api.Request{Core: c}
	for _, org := range orgs {
		q.Ends = append(q.Ends, endorse.Sign(k, org, n, c))
	}
	return q
}

func copyOf(q api.Request) api.Request {
	q.Ends = slices.Clone(q.Ends)
	for i := range q.Ends {
		q.Ends[i].Tags = slices.Clone(q.Ends[i].Tags)
	}
	return q
}

func alike(a, b api.Request) bool {
	return a.Core == b.Core && slices.EqualFunc(a.Ends, b.Ends, alikeEnds)
}

func alikeEnds(x, y api.Endorsement) bool {
	return x.Org == y.Org && slices.Equal(x.Tags, y.Tags)
}

// panicking is a Crypto that fails for some of those who tag.
type panicking struct {
	api.Crypto
	at func(from int) bool
}

func (p panicking) Tag(from, to int, text []byte) api.Tag {
	if p.at(from) {
		panic("no tag")
	}
	return p.Crypto.Tag(from, to, text)
}

func (p panicking) Check(from, to int, text []byte, t api.Tag) bool {
	if p.at(from) {
		panic("no check")
	}
	return p.Crypto.Check(from, to, text, t)
}

// P13.1: an endorsement's text.

func TestText(t *testing.T) {
	none := "\x00\x00\x00\x00\x00\x00\x00\x00"
	for name, x := range map[string]struct {
		core api.Core
		want string
	}{
		"nothing": {api.Core{}, "d\x00" + none + "\x00\x00\x00\x00\x00" + none + none + "\x00\x00\x00\x00"},
		"letter":  {api.Core{Client: 4, Stamp: 1, Op: 2, Letter: "a"}, "d\x04\x00\x00\x00\x00\x00\x00\x00\x01\x02\x00\x00\x00\x01a" + none + none + "\x00\x00\x00\x00"},
		"round":   {api.Core{Client: 260, Stamp: 1, Op: 258, Letter: "a"}, "d\x04\x00\x00\x00\x00\x00\x00\x00\x01\x02\x00\x00\x00\x01a" + none + none + "\x00\x00\x00\x00"},
		"long":    {api.Core{Letter: "No name", Text: strings.Repeat("t", 300)}, "d\x00" + none + "\x00\x00\x00\x00\x07No name" + none + none + "\x00\x00\x01\x2c" + strings.Repeat("t", 300)},
	} {
		if got := string(endorse.Text(x.core)); got != x.want {
			t.Errorf("%s: %q, want %q", name, got, x.want)
		}
	}
	one, other := endorse.Text(coreOf(1)), endorse.Text(coreOf(1))
	clear(one)
	if !slices.Equal(other, textOf(coreOf(1))) {
		t.Error("a text is shared")
	}
}

// P13.1: an organization's endorsement: a tag from it to each replica, in order.

func TestSign(t *testing.T) {
	for name, k := range cryptos() {
		for n := 1; n <= mostN; n++ {
			for _, org := range []int{0, 1, 3, 6, 7, -1, 63, 65536 + 2, math.MaxInt, math.MinInt} {
				e := endorse.Sign(k, org, n, coreOf(1))
				if e.Org != org || len(e.Tags) != n {
					t.Errorf("%s: %d signs for %d as %v", name, org, n, e)
					continue
				}
				for who, tag := range e.Tags {
					if tag != k.Tag(org, who, textOf(coreOf(1))) {
						t.Errorf("%s: %d's tag at %d isn't the one to it", name, org, who)
					}
				}
			}
		}
	}
}

func TestSignForNobody(t *testing.T) {
	b := book.New()
	for _, n := range []int{0, -1, -4, mostN + 1, 100, 256 + 4, math.MaxInt, math.MinInt} {
		if e := endorse.Sign(b, 2, n, coreOf(1)); e.Org != 2 || len(e.Tags) != 0 {
			t.Errorf("of %d: %v", n, e)
		}
	}
	if digests, tags := b.Sizes(); digests != 0 || tags != 0 {
		t.Errorf("%d digests, %d tags were made for nobody", digests, tags)
	}
	all := panicking{b, func(int) bool { return true }}
	for name, k := range map[string]api.Crypto{"nil": nil, "panicking": all} {
		if e := endorse.Sign(k, 2, 4, coreOf(1)); e.Org != 2 || len(e.Tags) != 0 {
			t.Errorf("%s: %v", name, e)
		}
	}
}

// The tags are made in order, and no others are, by whoever signs and asks.
func TestSignMakesNoMore(t *testing.T) {
	b := book.New()
	q := endorsed(b, 3, coreOf(1), 5, 0)
	want := []api.Tag{{0: 255, 31: 1}, {0: 255, 31: 2}, {0: 255, 31: 3}, {0: 255, 31: 4}, {0: 255, 31: 5}, {0: 255, 31: 6}}
	if got := slices.Concat(q.Ends[0].Tags, q.Ends[1].Tags); !slices.Equal(got, want) {
		t.Errorf("the tags are %v", got)
	}
	endorse.Mask(b, q, 7, 1)
	endorse.With(q, q.Ends[0])
	if digests, tags := b.Sizes(); digests != 0 || tags != 6 {
		t.Errorf("%d digests, %d tags were made", digests, tags)
	}
}

// P13.1: the mask.

func TestMaskOfTheExample(t *testing.T) {
	for name, k := range cryptos() {
		for who := range 4 {
			if mask := endorse.Mask(k, endorsed(k, 4, coreOf(1), 0, 2), 4, who); mask != 5 {
				t.Errorf("%s: %d sees %b", name, who, mask)
			}
		}
	}
}

// Each set of organizations is seen by each replica, whatever their order.
func TestMaskOfEachSet(t *testing.T) {
	for name, k := range cryptos() {
		for n := 1; n <= mostN; n++ {
			for set := range uint32(1) << n {
				var orgs []int
				for org := range n {
					if set>>org&1 == 1 {
						orgs = append(orgs, org)
					}
				}
				q := endorsed(k, n, coreOf(1), orgs...)
				for who := range n {
					if mask := endorse.Mask(k, q, n, who); mask != set {
						t.Errorf("%s: of %d, %d sees %b of %b", name, n, who, mask, set)
					}
					slices.Reverse(q.Ends)
				}
			}
		}
	}
}

func TestMaskOfWhatDoesNotHold(t *testing.T) {
	for name, k := range cryptos() {
		other := keys.New([]byte("another seed"))
		for name2, x := range map[string]struct {
			spoil func(q *api.Request)
			want  uint32
		}{
			"nothing":            {func(q *api.Request) {}, 0b1111},
			"no endorsements":    {func(q *api.Request) { q.Ends = nil }, 0},
			"empty":              {func(q *api.Request) { q.Ends = []api.Endorsement{} }, 0},
			"no tags":            {func(q *api.Request) { q.Ends[1].Tags = nil }, 0b1101},
			"too few tags":       {func(q *api.Request) { q.Ends[1].Tags = q.Ends[1].Tags[:2] }, 0b1101},
			"just enough tags":   {func(q *api.Request) { q.Ends[1].Tags = q.Ends[1].Tags[:3] }, 0b1111},
			"nought here":        {func(q *api.Request) { q.Ends[3].Tags[2] = api.Tag{} }, 0b0111},
			"nought elsewhere":   {func(q *api.Request) { q.Ends[3].Tags[1] = api.Tag{} }, 0b1111},
			"nought for all":     {func(q *api.Request) { q.Ends[0].Tags = make([]api.Tag, 4) }, 0b1110},
			"one bit":            {func(q *api.Request) { q.Ends[0].Tags[2][31] ^= 1 }, 0b1110},
			"another's place":    {func(q *api.Request) { slices.Reverse(q.Ends[0].Tags) }, 0b1110},
			"another's tags":     {func(q *api.Request) { q.Ends[0].Tags, q.Ends[1].Tags = q.Ends[1].Tags, q.Ends[0].Tags }, 0b1100},
			"another's name":     {func(q *api.Request) { q.Ends[2].Org = 3; q.Ends = q.Ends[:3] }, 0b0011},
			"another core":       {func(q *api.Request) { q.Core.A++ }, 0},
			"another stamp":      {func(q *api.Request) { q.Core.Stamp++ }, 0},
			"another client":     {func(q *api.Request) { q.Core.Client++ }, 0},
			"another step":       {func(q *api.Request) { q.Core.Op++ }, 0},
			"another letter":     {func(q *api.Request) { q.Core.Letter = "b" }, 0},
			"another B":          {func(q *api.Request) { q.Core.B-- }, 0},
			"another text":       {func(q *api.Request) { q.Core.Text = "1" }, 0},
			"of the same bytes":  {func(q *api.Request) { q.Core.Client += 256; q.Core.Op -= 512 }, 0b1111},
			"one for another":    {func(q *api.Request) { q.Ends[1] = endorse.Sign(k, 1, 4, coreOf(2)) }, 0b1101},
			"by another seed":    {func(q *api.Request) { q.Ends[1] = endorse.Sign(other, 1, 4, coreOf(1)) }, 0b1101},
			"of more":            {func(q *api.Request) { q.Ends[1] = endorse.Sign(k, 1, 7, coreOf(1)) }, 0b1111},
			"a message's tag":    {func(q *api.Request) { q.Ends[0].Tags[2] = k.Tag(0, 2, request.CoreBytes(coreOf(1))) }, 0b1110},
			"another kind's":     {func(q *api.Request) { q.Ends[0].Tags[2] = k.Tag(0, 2, append([]byte{101}, textOf(coreOf(1))[1:]...)) }, 0b1110},
			"from and to":        {func(q *api.Request) { q.Ends[0].Tags[2] = k.Tag(2, 0, textOf(coreOf(1))) }, 0b1110},
			"the first counts":   {func(q *api.Request) { q.Ends = append(endorsed(k, 4, coreOf(2), 1).Ends, q.Ends...) }, 0b1101},
			"the first is empty": {func(q *api.Request) { q.Ends = append([]api.Endorsement{{Org: 2}}, q.Ends...) }, 0b1011},
			"the second doesn't": {func(q *api.Request) { q.Ends = append(q.Ends, endorsed(k, 4, coreOf(2), 1, 2).Ends...) }, 0b1111},
			"the same twice":     {func(q *api.Request) { q.Ends = append(q.Ends, q.Ends...) }, 0b1111},
		} {
			q := copyOf(endorsed(k, 4, coreOf(1), 0, 1, 2, 3))
			x.spoil(&q)
			if mask := endorse.Mask(k, q, 4, 2); mask != x.want {
				t.Errorf("%s: %s: %04b, want %04b", name, name2, mask, x.want)
			}
		}
	}
}

// Organizations beyond the n count for nothing, whatever they tag, also where shifts would go round.
func TestMaskOfOrganizationsBeyond(t *testing.T) {
	far := []int{4, 5, 6, 7, 8, 31, 32, 33, 63, 64, 256, 257, 1 << 32, math.MaxInt, -1, -2, -31, -32, -256, math.MinInt}
	for name, k := range cryptos() {
		q := endorsed(k, 4, coreOf(1), append(far, 2)...)
		for who := range 4 {
			if mask := endorse.Mask(k, q, 4, who); mask != 4 {
				t.Errorf("%s: %d sees %b", name, who, mask)
			}
		}
	}
	k := book.New()
	all := endorsed(k, mostN, coreOf(1), 0, 1, 2, 3, 4, 5, 6)
	for n := 1; n <= mostN; n++ {
		if mask := endorse.Mask(k, all, n, 0); mask != 1<<n-1 {
			t.Errorf("of %d: %b", n, mask)
		}
	}
}

func TestMaskOfNobody(t *testing.T) {
	for name, k := range cryptos() {
		q := endorsed(k, 4, coreOf(1), 0, 1, 2, 3)
		for _, n := range []int{0, -1, mostN + 1, 32, 256 + 4, math.MaxInt, math.MinInt} {
			if mask := endorse.Mask(k, q, n, 0); mask != 0 {
				t.Errorf("%s: of %d: %b", name, n, mask)
			}
		}
		for _, who := range []int{-1, 4, 5, 6, 7, 100, math.MaxInt, math.MinInt} {
			if mask := endorse.Mask(k, q, 4, who); mask != 0 {
				t.Errorf("%s: %d sees %b", name, who, mask)
			}
		}
		if mask := endorse.Mask(nil, q, 4, 0); mask != 0 {
			t.Errorf("%s: by nobody: %b", name, mask)
		}
		if mask := endorse.Mask((*book.Book)(nil), q, 4, 0); mask != 0 {
			t.Errorf("%s: by a nil book: %b", name, mask)
		}
		if mask := endorse.Mask(book.New(), q, 4, 0); mask != 0 {
			t.Errorf("%s: by another book: %b", name, mask)
		}
		if mask := endorse.Mask(k, api.Request{}, 4, 0); mask != 0 {
			t.Errorf("%s: of nothing: %b", name, mask)
		}
	}
}

// P5: a Crypto that panics holds no tag of that organization; the others count.
func TestMaskByAPanickingCrypto(t *testing.T) {
	b := book.New()
	q := endorsed(b, 4, coreOf(1), 0, 1, 2, 3)
	for set := range uint32(16) {
		k := panicking{b, func(from int) bool { return set>>from&1 == 1 }}
		if mask := endorse.Mask(k, q, 4, 1); mask != 15&^set {
			t.Errorf("panics for %b: %b", set, mask)
		}
	}
	if mask := endorse.Mask((*panicking)(nil), q, 4, 1); mask != 0 {
		t.Errorf("by a nil pointer: %b", mask)
	}
}

// P13.1: whether a policy holds for a mask.

func TestEnough(t *testing.T) {
	org := func(i int) api.Formula { return api.Formula{Org: i} }
	at := func(i int, kids ...api.Formula) api.Formula { return api.Formula{At: i, Kids: kids} }
	two := at(2, org(0), org(1), org(2))
	for name, x := range map[string]struct {
		f    api.Formula
		mask uint32
		n    int
		want bool
	}{
		"one":                   {org(2), 5, 4, true},
		"one that isn't there":  {org(1), 5, 4, false},
		"nobody":                {org(0), 0, 4, false},
		"two":                   {two, 5, 4, true},
		"two of others":         {two, 9, 4, false},
		"all":                   {two, 7, 4, true},
		"bits beyond":           {two, 0xfffffff8, 4, false},
		"all bits":              {two, math.MaxUint32, 4, true},
		"in it":                 {at(2, org(3), at(1, org(0), org(1))), 10, 4, true},
		"not in it":             {at(2, org(3), at(1, org(0), org(1))), 3, 4, false},
		"an Org beyond":         {at(1, org(0), org(4)), 1, 4, false},
		"an Org within more":    {at(1, org(0), org(4)), 1, 5, true},
		"the last Org":          {org(3), 8, 4, true},
		"just beyond":           {org(4), 16, 4, false},
		"of 1":                  {org(0), 1, 1, true},
		"of 7":                  {org(6), 64, 7, true},
		"an Org below 0":        {org(-1), math.MaxUint32, 4, false},
		"At 0":                  {at(0, org(0)), 1, 4, false},
		"At beyond":             {at(2, org(0)), 1, 4, false},
		"an Org beside Kids":    {api.Formula{Org: 1, At: 1, Kids: []api.Formula{org(0)}}, 3, 4, false},
		"as many nodes as go":   {at(1, slices.Repeat([]api.Formula{org(0)}, 31)...), 1, 4, true},
		"too many nodes":        {at(1, slices.Repeat([]api.Formula{org(0)}, 32)...), 1, 4, false},
		"as deep as it goes":    {at(1, at(1, at(1, at(1, org(0))))), 1, 4, true},
		"too deep":              {at(1, at(1, at(1, at(1, at(1, org(0)))))), 1, 4, false},
		"of none":               {org(0), 1, 0, false},
		"of 8":                  {org(0), 1, 8, false},
		"of fewer than none":    {org(0), 1, -1, false},
		"of most":               {org(0), 1, math.MaxInt, false},
		"of least":              {org(0), 1, math.MinInt, false},
		"nothing is Org 0":      {api.Formula{}, 1, 4, true},
		"nothing is Org 0 here": {api.Formula{}, 2, 4, false},
	} {
		if got := endorse.Enough(x.f, x.mask, x.n); got != x.want {
			t.Errorf("%s: %v", name, got)
		}
	}
}
