package contract_test

import (
	"math"
	"slices"
	"strings"
	"testing"

	"bottomry/api"
	"bottomry/contract"
)

// The chapters' limits, as numbers: a change of api's constants is seen too.
const (
	mostN       = 7
	mostClients = 4
	mostStamp   = 1 << 40
	mostAmount  = 1 << 40
	mostText    = 200
	mostLetters = 16
	mostSeq     = 1 << 20
)

// rule is a policy's text: of how many organizations it may be at least, and which sets are just enough for it.
type rule struct {
	text   string
	of     int
	enough []uint32
}

var rules = []rule{
	{"0", 1, []uint32{0b1}},
	{" 0 ", 1, []uint32{0b1}},
	{"all(0)", 1, []uint32{0b1}},
	{"1", 2, []uint32{0b10}},
	{"all(0,1)", 2, []uint32{0b11}},
	{"any(0,1)", 2, []uint32{0b1, 0b10}},
	{"2of(0,1,2)", 3, []uint32{0b11, 0b101, 0b110}},
	{"2 of (0, all(1, 2), 3)", 4, []uint32{0b111, 0b1001, 0b1110}},
	{"3", 4, []uint32{0b1000}},
	{"3of(0,1,2,3,4,5)", 6, []uint32{7, 11, 13, 14, 19, 21, 22, 25, 26, 28, 35, 37, 38, 41, 42, 44, 49, 50, 52, 56}},
	{"6", 7, []uint32{0b1000000}},
	{"all(0,1,2,3,4,5,6)", 7, []uint32{0b1111111}},
}

// noRules are texts that are no policy's, of whatever error of layer 9.
var noRules = []string{
	"", " ", "x", "-1", "00", "0 0", "0,1", "7", "99", "10000", "all()", "any(0", "2of(0)", "0of(0)", "All(0)", "all(0,7)", "\x00", "é",
	"all(all(all(all(all(0)))))", "all(all(all(all(all(all(all(all(all(all(0))))))))))",
	"any(" + strings.Repeat("0,", 40) + "0)", strings.Repeat("0", 200), strings.Repeat(" ", 200) + "0",
}

// asked tells whether a text is a policy's, of n, and whether a mask is enough for it.
func asked(text string, mask uint32, n int) (is, met bool) {
	for _, r := range rules {
		if r.text == text && n >= r.of {
			return true, slices.ContainsFunc(r.enough, func(set uint32) bool { return set&mask == set })
		}
	}
	return false, false
}

// letterOf is a letter in a state, for which 0 and 1 have to be asked.
func letterOf(name string, state int) api.Letter {
	return api.Letter{Name: name, State: state, Amount: 100, Due: 7, Policy: "all(0,1)", Papers: "bill"}
}

// ledgerOf has a letter "a" in a state, with one ahead and one behind, and outcomes of others.
func ledgerOf(state int) api.Ledger {
	return api.Ledger{
		Seq:     9,
		Total:   1000,
		Letters: []api.Letter{letterOf("-", 4), letterOf("a", state), letterOf("b", 4)},
		Last:    []api.Outcome{{Client: 4, Stamp: 3, Result: api.ErrName}, {Client: 6, Stamp: 8}},
	}
}

// coreOf is what the client 5 asks for, of the letter "a", with the least that the step needs.
func coreOf(op int) api.Core {
	c := api.Core{Client: 5, Stamp: 2, Op: op, Letter: "a"}
	switch op {
	case api.OpApply:
		c.A, c.B, c.Text = 50, 30, "any(0,1)"
	case api.OpAmend:
		c.A, c.B = -10, 8
	case api.OpPresent:
		c.Text = "papers"
	case api.OpExpire:
		c.A = 7
	}
	return c
}

func entryOf(op int) api.Entry {
	return api.Entry{Core: coreOf(op), Mask: 0b11}
}

func same(a, b api.Ledger) bool {
	return a.Seq == b.Seq && a.Total == b.Total && slices.Equal(a.Letters, b.Letters) && slices.Equal(a.Last, b.Last)
}

func copyOf(l api.Ledger) api.Ledger {
	l.Letters, l.Last = slices.Clone(l.Letters), slices.Clone(l.Last)
	return l
}

// P14.1: what is stale.

func TestStale(t *testing.T) {
	l := api.Ledger{Letters: []api.Letter{letterOf("a", 2)}, Last: []api.Outcome{{Client: 4, Stamp: 3, Result: api.ErrName}, {Client: 6, Stamp: 8}}}
	for name, x := range map[string]struct {
		client int
		stamp  int64
		want   bool
	}{
		"the one that was done":          {4, 3, true},
		"the one ahead of it":            {4, 2, true},
		"the first of all":               {4, 1, true},
		"the next one":                   {4, 4, false},
		"one far beyond":                 {4, mostStamp, false},
		"one of no stamp":                {4, 0, true},
		"one below all":                  {4, math.MinInt64, true},
		"one above all":                  {4, math.MaxInt64, false},
		"another client's":               {6, 8, true},
		"another client's, behind ours":  {6, 4, true},
		"another client's next":          {6, 9, false},
		"of one who was told nothing":    {5, 1, false},
		"of one ahead of all":            {0, 1, false},
		"of one behind all":              {7, 1, false},
		"of one below 0":                 {-1, 1, false},
		"of one with the same low bytes": {4 + 256, 3, false},
		"of the least":                   {math.MinInt, math.MinInt64, false},
		"of the greatest":                {math.MaxInt, 1, false},
	} {
		// Nothing but the client and the stamp counts.
		for _, op := range []int{0, api.OpApply, api.OpPay, 99} {
			for _, letter := range []string{"a", "", "A"} {
				if got := contract.Stale(l, api.Core{Client: x.client, Stamp: x.stamp, Op: op, Letter: letter}); got != x.want {
					t.Errorf("%s: %v", name, got)
				}
			}
		}
	}
	if contract.Stale(api.Ledger{}, api.Core{}) || contract.Stale(api.Ledger{}, coreOf(1)) {
		t.Error("stale in an empty ledger")
	}
}

func TestStaleOfEachStamp(t *testing.T) {
	stamps := []int64{math.MinInt64, math.MinInt64 + 1, -1, 0, 1, 2, 255, 256, 1 << 32, mostStamp - 1, mostStamp, mostStamp + 1, math.MaxInt64 - 1, math.MaxInt64}
	for _, told := range stamps {
		for _, stamp := range stamps {
			l := api.Ledger{Last: []api.Outcome{{Client: 5, Stamp: told}}}
			if got := contract.Stale(l, api.Core{Client: 5, Stamp: stamp}); got != (stamp <= told) {
				t.Errorf("%d behind %d: %v", stamp, told, got)
			}
		}
	}
}

// A ledger that may not be has outcomes in any order, and a client's first one counts.
func TestStaleOfAnyOrder(t *testing.T) {
	l := api.Ledger{}
	for i := range 64 {
		l.Last = append(l.Last, api.Outcome{Client: (i*37 + 11) % 32, Stamp: int64(100 - i)})
	}
	for client := range 32 {
		i := slices.IndexFunc(l.Last, func(o api.Outcome) bool { return o.Client == client })
		for stamp := range int64(110) {
			if got := contract.Stale(l, api.Core{Client: client, Stamp: stamp}); got != (stamp <= l.Last[i].Stamp) {
				t.Errorf("%d of %d: %v", stamp, client, got)
			}
		}
	}
}

// P14.1: what each step does.

func TestExample(t *testing.T) {
	l, e := contract.Do(api.Ledger{}, api.Entry{Core: api.Core{Client: 4, Stamp: 1, Op: api.OpApply, Letter: "a", A: 5, Text: "0"}, Mask: 1}, 4)
	want := api.Ledger{
		Letters: []api.Letter{{Name: "a", State: api.Applied, Amount: 5, Policy: "0"}},
		Last:    []api.Outcome{{Client: 4, Stamp: 1}},
	}
	if e != api.OK || !same(l, want) {
		t.Error(l, e)
	}
}

// behind is the ledger that a step leaves, which came to a result.
func behind(state int, result api.Errno, change func(x *api.Letter)) api.Ledger {
	l := ledgerOf(state)
	if change != nil {
		change(&l.Letters[1])
	}
	l.Last = slices.Insert(l.Last, 1, api.Outcome{Client: 5, Stamp: 2, Result: result})
	return l
}

func TestEachStep(t *testing.T) {
	for op, x := range map[int]struct {
		from, to int
		change   func(x *api.Letter)
	}{
		api.OpIssue:   {1, 2, nil},
		api.OpAmend:   {2, 2, func(x *api.Letter) { x.Amount, x.Due = 90, 8 }},
		api.OpPresent: {2, 3, func(x *api.Letter) { x.Papers = "papers" }},
		api.OpAccept:  {3, 4, nil},
		api.OpReject:  {3, 2, func(x *api.Letter) { x.Papers = "" }},
		api.OpPay:     {4, 5, nil},
		api.OpExpire:  {3, 6, nil},
		api.OpCancel:  {2, 7, nil},
	} {
		got, e := contract.Do(ledgerOf(x.from), entryOf(op), 4)
		want := behind(x.to, api.OK, x.change)
		if op == api.OpPay {
			want.Total = 1100
		}
		if e != api.OK || !same(got, want) {
			t.Errorf("step %d: %v, %d, want %v", op, got, e, want)
		}
	}
}

// Each step from each state: just those that lead from there change anything, and what is refused is told.
func TestEachStepFromEachState(t *testing.T) {
	from := map[int][]int{1: {}, 2: {1}, 3: {2}, 4: {2}, 5: {3}, 6: {3}, 7: {4}, 8: {1, 2, 3}, 9: {1, 2}}
	for state := 1; state <= 7; state++ {
		for op := 1; op <= 9; op++ {
			want := api.ErrState
			if slices.Contains(from[op], state) {
				want = api.OK
			}
			got, e := contract.Do(ledgerOf(state), entryOf(op), 4)
			if e != want || want != api.OK && !same(got, behind(state, want, nil)) {
				t.Errorf("step %d from %d: %v, %d, want %d", op, state, got, e, want)
			}
		}
	}
}

func TestApply(t *testing.T) {
	none := api.Ledger{Seq: 9, Total: 1000, Last: ledgerOf(1).Last}
	for name, x := range map[string]struct {
		names []string
		at    int
	}{
		"into nothing": {nil, 0},
		"ahead":        {[]string{"b", "c"}, 0},
		"between":      {[]string{"-", "b"}, 1},
		"behind":       {[]string{"-", "0"}, 2},
		"the last one": {[]string{"0", "1", "2", "3", "4", "5", "6", "7", "8", "9", "b", "c", "d", "e", "f"}, 10},
	} {
		l := copyOf(none)
		for _, s := range x.names {
			l.Letters = append(l.Letters, letterOf(s, 2))
		}
		want := copyOf(l)
		want.Letters = slices.Insert(want.Letters, x.at, api.Letter{Name: "a", State: 1, Amount: 50, Due: 30, Policy: "any(0,1)"})
		want.Last = slices.Insert(want.Last, 1, api.Outcome{Client: 5, Stamp: 2})
		if got, e := contract.Do(l, entryOf(api.OpApply), 4); e != api.OK || !same(got, want) {
			t.Errorf("%s: %v, %d, want %v", name, got, e, want)
		}
	}
}

// The core's own policy is asked of who applies, and the letter's of all others: not the one that the text tells.
func TestWhosePolicy(t *testing.T) {
	apply := entryOf(api.OpApply)
	apply.Core.Letter, apply.Core.Text, apply.Mask = "c", "3", 0b1000
	if l, e := contract.Do(ledgerOf(1), apply, 4); e != api.OK || len(l.Letters) != 4 || l.Letters[3].Policy != "3" {
		t.Error("by the core's own policy:", l, e)
	}
	issue := entryOf(api.OpIssue)
	issue.Core.Text, issue.Mask = "3", 0b1000
	if l, e := contract.Do(ledgerOf(1), issue, 4); e != api.ErrPolicy || !same(l, behind(1, api.ErrPolicy, nil)) {
		t.Error("by the text of another step:", l, e)
	}
	present := entryOf(api.OpPresent)
	present.Core.Text = "no policy"
	if _, e := contract.Do(ledgerOf(2), present, 4); e != api.OK {
		t.Error("papers aren't a policy:", e)
	}
	// Who applies for what is there is asked by his own policy, and refused for the state.
	again := entryOf(api.OpApply)
	again.Core.Text, again.Mask = "3", 0b1000
	if l, e := contract.Do(ledgerOf(2), again, 4); e != api.ErrState || !same(l, behind(2, api.ErrState, nil)) {
		t.Error("what is there:", l, e)
	}
	again.Mask = 0b111
	if _, e := contract.Do(ledgerOf(2), again, 4); e != api.ErrPolicy {
		t.Error("what is there, by too few:", e)
	}
}

// P14.1, P14.2: each policy, of each number of organizations, by each mask.
func TestEachMask(t *testing.T) {
	texts := slices.Clone(noRules)
	for _, r := range rules {
		texts = append(texts, r.text)
	}
	seen := map[api.Errno]int{}
	for n := 1; n <= mostN; n++ {
		for _, text := range texts {
			for mask := range uint32(256) {
				for _, high := range []uint32{0, 1 << 8, 1 << 31, 0xffffff80} {
					seen[wantAsked(t, n, text, mask|high)]++
				}
			}
		}
	}
	for _, e := range []api.Errno{api.OK, api.ErrForm, api.ErrPolicy} {
		if seen[e] < 1000 {
			t.Errorf("%d times %d", seen[e], e)
		}
	}
}

// wantAsked wants a policy to be asked of a letter that is issued, and of one that is applied for.
func wantAsked(t *testing.T, n int, text string, mask uint32) api.Errno {
	t.Helper()
	is, met := asked(text, mask, n)
	want := api.OK
	switch {
	case !is:
		want = api.ErrForm
	case !met:
		want = api.ErrPolicy
	}
	l := api.Ledger{Total: 3, Letters: []api.Letter{{Name: "b", State: 1, Amount: 5, Policy: text}}}
	issue := api.Core{Client: n, Stamp: 1, Op: api.OpIssue, Letter: "b"}
	got, e := contract.Do(l, api.Entry{Core: issue, Mask: mask}, n)
	if e != want || (got.Letters[0].State == 2) != (want == api.OK) || got.Last[0] != (api.Outcome{Client: n, Stamp: 1, Result: want}) {
		t.Fatalf("of %d, %q, by %b: %v, %d, want %d", n, text, mask, got, e, want)
	}
	if len(text) > mostText {
		return want
	}
	apply := api.Core{Client: n, Stamp: 1, Op: api.OpApply, Letter: "a", A: 1, Text: text}
	got, e = contract.Do(l, api.Entry{Core: apply, Mask: mask}, n)
	if e != want || (len(got.Letters) == 2) != (want == api.OK) || got.Last[0] != (api.Outcome{Client: n, Stamp: 1, Result: want}) {
		t.Fatalf("of %d, %q, by %b: %v, %d, want %d", n, text, mask, got, e, want)
	}
	return want
}

// P14.1: what is paid in all.

func TestPay(t *testing.T) {
	for name, x := range map[string]struct {
		total, amount int64
		over          bool
	}{
		"the first":                      {0, 1, false},
		"more":                           {1000, 100, false},
		"up to the most":                 {mostAmount - 100, 100, false},
		"the most at once":               {0, mostAmount, false},
		"one too much":                   {mostAmount - 99, 100, true},
		"far too much":                   {mostAmount, mostAmount, true},
		"a total below 0":                {-1, 100, true},
		"a total beyond the most":        {mostAmount + 1, 1, true},
		"a total that would go round":    {math.MaxInt64, 100, true},
		"the least total":                {math.MinInt64, 100, true},
		"an amount below 0":              {1000, -1, true},
		"an amount beyond the most":      {0, mostAmount + 1, true},
		"an amount that would go round":  {math.MaxInt64, math.MaxInt64, true},
		"an amount of 0, which is one":   {1000, 0, false},
		"the least amount and the least": {math.MinInt64, math.MinInt64, true},
	} {
		l := ledgerOf(4)
		l.Total, l.Letters[1].Amount = x.total, x.amount
		want := behind(4, api.ErrOver, nil)
		result := api.ErrOver
		if !x.over {
			want, result = behind(5, api.OK, nil), api.OK
		}
		want.Total, want.Letters[1].Amount = x.total, x.amount
		if !x.over {
			want.Total += x.amount
		}
		if got, e := contract.Do(l, entryOf(api.OpPay), 4); e != result || !same(got, want) {
			t.Errorf("%s: %v, %d, want %v", name, got, e, want)
		}
	}
}

// No other step asks what was paid in all, or changes it.
func TestTotalOfOtherSteps(t *testing.T) {
	for _, total := range []int64{math.MinInt64, -1, 0, 5, mostAmount, mostAmount + 1, math.MaxInt64} {
		for op, state := range map[int]int{2: 1, 3: 2, 4: 2, 5: 3, 6: 3, 8: 3, 9: 2} {
			l := ledgerOf(state)
			l.Total = total
			if got, e := contract.Do(l, entryOf(op), 4); e != api.OK || got.Total != total {
				t.Errorf("step %d of %d: %v, %d", op, total, got, e)
			}
		}
	}
}

// P14.1: errors, one by one.

func TestErrors(t *testing.T) {
	sixteen := func(l *api.Ledger) {
		l.Letters = nil
		for i := range mostLetters {
			l.Letters = append(l.Letters, letterOf("b"+string(rune('a'+i)), 2))
		}
	}
	for name, x := range map[string]struct {
		op, state int
		change    func(l *api.Ledger, e *api.Entry)
		want      api.Errno
	}{
		"issue what isn't there":             {2, 1, func(l *api.Ledger, e *api.Entry) { e.Core.Letter = "aa" }, api.ErrName},
		"pay what isn't there":               {7, 4, func(l *api.Ledger, e *api.Entry) { l.Letters = nil }, api.ErrName},
		"apply without a policy":             {1, 1, func(l *api.Ledger, e *api.Entry) { e.Core.Text = "" }, api.ErrForm},
		"apply with a policy beyond all":     {1, 1, func(l *api.Ledger, e *api.Entry) { e.Core.Text = "4" }, api.ErrForm},
		"apply with a policy too deep":       {1, 1, func(l *api.Ledger, e *api.Entry) { e.Core.Text = "all(all(all(all(all(0)))))" }, api.ErrForm},
		"a letter without a policy":          {2, 1, func(l *api.Ledger, e *api.Entry) { l.Letters[1].Policy = "" }, api.ErrForm},
		"a letter with too long a policy":    {2, 1, func(l *api.Ledger, e *api.Entry) { l.Letters[1].Policy = strings.Repeat(" ", mostText) + "0" }, api.ErrForm},
		"by nobody":                          {2, 1, func(l *api.Ledger, e *api.Entry) { e.Mask = 0 }, api.ErrPolicy},
		"by too few":                         {2, 1, func(l *api.Ledger, e *api.Entry) { e.Mask = 0b1 }, api.ErrPolicy},
		"by others":                          {2, 1, func(l *api.Ledger, e *api.Entry) { e.Mask = 0b11111100 }, api.ErrPolicy},
		"apply for 0":                        {1, 1, func(l *api.Ledger, e *api.Entry) { e.Core.Letter, e.Core.A = "c", 0 }, api.ErrRange},
		"apply for too much":                 {1, 1, func(l *api.Ledger, e *api.Entry) { e.Core.Letter, e.Core.A = "c", mostAmount+1 }, api.ErrOver},
		"apply for no day":                   {1, 1, func(l *api.Ledger, e *api.Entry) { e.Core.Letter, e.Core.B = "c", -1 }, api.ErrRange},
		"amend to 0":                         {3, 2, func(l *api.Ledger, e *api.Entry) { e.Core.A = -100 }, api.ErrRange},
		"amend to less than 0":               {3, 2, func(l *api.Ledger, e *api.Entry) { e.Core.A = -101 }, api.ErrOver},
		"amend to no day":                    {3, 2, func(l *api.Ledger, e *api.Entry) { e.Core.B = mostStamp + 1 }, api.ErrRange},
		"expire early":                       {8, 2, func(l *api.Ledger, e *api.Entry) { e.Core.A = 6 }, api.ErrState},
		"expire on no day":                   {8, 2, func(l *api.Ledger, e *api.Entry) { e.Core.A = -1 }, api.ErrRange},
		"apply for the 17th":                 {1, 1, func(l *api.Ledger, e *api.Entry) { sixteen(l) }, api.ErrFull},
		"issue one of 17":                    {2, 1, func(l *api.Ledger, e *api.Entry) { sixteen(l); l.Letters = append(l.Letters[:16:16], letterOf("a", 1)) }, api.ErrFull},
		"a letter whose state is none, paid": {7, 0, func(l *api.Ledger, e *api.Entry) {}, api.ErrState},
		"a state behind all":                 {2, 8, func(l *api.Ledger, e *api.Entry) {}, api.ErrState},
	} {
		l, e := ledgerOf(x.state), entryOf(x.op)
		x.change(&l, &e)
		want := copyOf(l)
		want.Last = slices.Insert(want.Last, 1, api.Outcome{Client: 5, Stamp: 2, Result: x.want})
		if got, result := contract.Do(l, e, 4); result != x.want || !same(got, want) {
			t.Errorf("%s: %v, %d, want %v, %d", name, got, result, want, x.want)
		}
	}
}

// What no client may ask for leaves everything as it was: not even its client is told.
func TestCoresThatMayNotBe(t *testing.T) {
	for name, x := range map[string]struct {
		n      int
		change func(c *api.Core)
		want   api.Errno
	}{
		"of none":              {0, func(c *api.Core) {}, api.ErrArg},
		"of too many":          {8, func(c *api.Core) { c.Client = 8 }, api.ErrArg},
		"of less than none":    {math.MinInt, func(c *api.Core) {}, api.ErrArg},
		"of far too many":      {math.MaxInt, func(c *api.Core) { c.Client = math.MaxInt }, api.ErrArg},
		"a replica asks":       {4, func(c *api.Core) { c.Client = 3 }, api.ErrWho},
		"one beyond asks":      {4, func(c *api.Core) { c.Client = 8 }, api.ErrWho},
		"a replica of 7 asks":  {7, func(c *api.Core) {}, api.ErrWho},
		"one beyond 1 asks":    {1, func(c *api.Core) {}, api.ErrWho},
		"stamp 0":              {4, func(c *api.Core) { c.Stamp = 0 }, api.ErrRange},
		"a stamp beyond":       {4, func(c *api.Core) { c.Stamp = mostStamp + 1 }, api.ErrRange},
		"step 0":               {4, func(c *api.Core) { c.Op = 0 }, api.ErrRange},
		"step 10":              {4, func(c *api.Core) { c.Op = 10 }, api.ErrRange},
		"no name":              {4, func(c *api.Core) { c.Letter = "" }, api.ErrName},
		"a name of 17":         {4, func(c *api.Core) { c.Letter = strings.Repeat("a", 17) }, api.ErrName},
		"a great letter":       {4, func(c *api.Core) { c.Letter = "A" }, api.ErrName},
		"a text of 201":        {4, func(c *api.Core) { c.Text = strings.Repeat("0", mostText+1) }, api.ErrLong},
		"a text of 201, blank": {4, func(c *api.Core) { c.Text = strings.Repeat(" ", mostText) + "0" }, api.ErrLong},
	} {
		for op := 1; op <= 9; op++ {
			e := entryOf(op)
			x.change(&e.Core)
			for state := 1; state <= 7; state++ {
				if got, result := contract.Do(ledgerOf(state), e, x.n); result != x.want || !same(got, ledgerOf(state)) {
					t.Errorf("%s: step %d: %v, %d, want %d", name, op, got, result, x.want)
				}
			}
		}
	}
}

// The edges that a core may have are taken, of each number of organizations.
func TestCoresAtTheEdges(t *testing.T) {
	for n := 1; n <= mostN; n++ {
		for client := n; client < n+mostClients; client++ {
			for _, stamp := range []int64{1, mostStamp} {
				c := api.Core{Client: client, Stamp: stamp, Op: 1, Letter: strings.Repeat("z", 16), A: mostAmount, B: mostStamp, Text: strings.Repeat(" ", mostText-1) + "0"}
				l, e := contract.Do(api.Ledger{}, api.Entry{Core: c, Mask: 1}, n)
				want := api.Letter{Name: c.Letter, State: 1, Amount: mostAmount, Due: mostStamp, Policy: c.Text}
				if e != api.OK || len(l.Letters) != 1 || l.Letters[0] != want || !slices.Equal(l.Last, []api.Outcome{{Client: client, Stamp: stamp}}) {
					t.Errorf("of %d: %v, %d", n, l, e)
				}
			}
		}
	}
}

// P14.1: several errors at once. Each fault is one thing that is wrong; the first one that applies is told.

type fault struct {
	want  api.Errno
	kept  bool // whether the outcome is kept
	spoil func(l *api.Ledger, e *api.Entry, n *int)
}

// commonFaults are those that each step may have, in order, ahead of what the step itself asks.
func commonFaults() []fault {
	return []fault{
		{api.ErrStale, false, func(l *api.Ledger, e *api.Entry, n *int) {
			l.Last = append(l.Last, api.Outcome{Client: e.Core.Client, Stamp: e.Core.Stamp})
		}},
		{api.ErrArg, false, func(l *api.Ledger, e *api.Entry, n *int) { *n = 0 }},
		{api.ErrWho, false, func(l *api.Ledger, e *api.Entry, n *int) { e.Core.Client = 3 }},
		{api.ErrRange, false, func(l *api.Ledger, e *api.Entry, n *int) { e.Core.Stamp = 0 }},
		{api.ErrName, false, func(l *api.Ledger, e *api.Entry, n *int) { e.Core.Letter = "A" }},
		{api.ErrLong, false, func(l *api.Ledger, e *api.Entry, n *int) { e.Core.Text = strings.Repeat("x", mostText+1) }},
	}
}

func noMask(l *api.Ledger, e *api.Entry, n *int) { e.Mask = 0 }

func noPolicy(l *api.Ledger, e *api.Entry, n *int) { l.Letters[0].Policy = "none" }

func seventeen(l *api.Ledger, e *api.Entry, n *int) {
	for i := range mostLetters {
		l.Letters = append(l.Letters, letterOf("b"+string(rune('a'+i)), 2))
	}
}

// wantFirst tries all sets of faults of a step from a letter's state.
func wantFirst(t *testing.T, op, state int, faults []fault) {
	t.Helper()
	for set := range 1 << len(faults) {
		l, e, n := api.Ledger{Seq: 3, Total: 10}, entryOf(op), 4
		l.Letters = []api.Letter{letterOf("a", state)}
		if op == api.OpApply {
			l.Letters[0].Name = "0"
		}
		want, kept := api.OK, true
		// The stamp and the client have to stand ahead of the outcome that makes them stale.
		for i := len(faults) - 1; i >= 0; i-- {
			if set>>i&1 == 1 {
				faults[i].spoil(&l, &e, &n)
				want, kept = faults[i].want, faults[i].kept
			}
		}
		before := copyOf(l)
		got, result := contract.Do(l, e, n)
		last := before.Last
		if kept {
			last = append(last, api.Outcome{Client: e.Core.Client, Stamp: e.Core.Stamp, Result: want})
		}
		if result != want || !slices.Equal(got.Last, last) {
			t.Fatalf("step %d with the faults %b: %v, %d, want %d", op, set, got, result, want)
		}
		if want != api.OK && (!slices.Equal(got.Letters, before.Letters) || got.Total != before.Total) {
			t.Fatalf("step %d with the faults %b: %v", op, set, got)
		}
	}
}

func TestWhichErrorComesFirst(t *testing.T) {
	wantFirst(t, api.OpPay, 4, append(commonFaults(),
		fault{api.ErrForm, true, noPolicy},
		fault{api.ErrPolicy, true, noMask},
		fault{api.ErrState, true, func(l *api.Ledger, e *api.Entry, n *int) { l.Letters[0].State = 3 }},
		fault{api.ErrFull, true, seventeen},
		fault{api.ErrOver, true, func(l *api.Ledger, e *api.Entry, n *int) { l.Total = mostAmount }},
	))
	wantFirst(t, api.OpAmend, 2, append(commonFaults(),
		fault{api.ErrForm, true, noPolicy},
		fault{api.ErrPolicy, true, noMask},
		fault{api.ErrState, true, func(l *api.Ledger, e *api.Entry, n *int) { l.Letters[0].State = 5 }},
		fault{api.ErrOver, true, func(l *api.Ledger, e *api.Entry, n *int) { e.Core.A = -101 }},
		fault{api.ErrRange, true, func(l *api.Ledger, e *api.Entry, n *int) { e.Core.B = -1 }},
		fault{api.ErrFull, true, seventeen},
	))
	wantFirst(t, api.OpIssue, 1, append(commonFaults(),
		fault{api.ErrName, true, func(l *api.Ledger, e *api.Entry, n *int) { l.Letters[0].Name = "0" }},
		fault{api.ErrPolicy, true, noMask},
	))
	wantFirst(t, api.OpApply, 1, append(commonFaults(),
		fault{api.ErrForm, true, func(l *api.Ledger, e *api.Entry, n *int) { e.Core.Text = "all()" }},
		fault{api.ErrPolicy, true, noMask},
		fault{api.ErrState, true, func(l *api.Ledger, e *api.Entry, n *int) { l.Letters[0].Name = "a" }},
		fault{api.ErrRange, true, func(l *api.Ledger, e *api.Entry, n *int) { e.Core.A = 0 }},
		fault{api.ErrFull, true, seventeen},
	))
}
