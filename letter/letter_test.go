package letter_test

import (
	"math"
	"math/rand"
	"slices"
	"strings"
	"testing"

	"bottomry/api"
	"bottomry/letter"
)

// way is a step, as the chapter tells it: from these states to that one.
type way struct {
	op   int
	from []int
	to   int
}

// ways are all steps, by the numbers that api's limits tell: a change of api's constants is seen too.
var ways = []way{
	{1, []int{0}, 1},       // Apply
	{2, []int{1}, 2},       // Issue
	{3, []int{2}, 2},       // Amend
	{4, []int{2}, 3},       // Present
	{5, []int{3}, 4},       // Accept
	{6, []int{3}, 2},       // Reject
	{7, []int{4}, 5},       // Pay
	{8, []int{1, 2, 3}, 6}, // Expire
	{9, []int{1, 2}, 7},    // Cancel
}

// Numbers of which some are steps or states: around all of them, where a number's low bytes are one, and the least and the greatest.
var numbers = slices.Concat(span(-20, 40), []int{
	math.MinInt, math.MinInt + 1, math.MinInt + 2, math.MinInt32, -256, -255, -254, 255, 256, 257, 258, 259, 260, 1<<16 + 1, 1<<32 + 1, 1<<32 + 2, 1<<40 + 2, math.MaxInt - 1, math.MaxInt,
})

// Numbers around which the answers change, and the least and greatest of their kind.
var edges = []int64{
	math.MinInt64, math.MinInt64 + 1, -1<<41 - 1, -1 << 41, -1<<40 - 1, -1 << 40, -1<<40 + 1, -101, -100, -99, -8, -7, -6, -2, -1,
	0, 1, 2, 6, 7, 8, 99, 100, 101, 1<<40 - 100, 1<<40 - 99, 1<<40 - 8, 1<<40 - 7, 1<<40 - 6, 1<<40 - 1, 1 << 40, 1<<40 + 1, 1 << 41, math.MaxInt64 - 1, math.MaxInt64,
}

// Texts around the limit, in bytes.
var texts = []string{"", "x", "2of(0,1,2)", strings.Repeat("x", 199), strings.Repeat("x", 200), strings.Repeat("x", 201), strings.Repeat("é", 100), strings.Repeat("é", 101), strings.Repeat("x", 1<<16), "\x00\xff"}

func span(low, high int) []int {
	var all []int
	for i := low; i <= high; i++ {
		all = append(all, i)
	}
	return all
}

// leads is where a step leads by the ways.
func leads(state, op int) int {
	for _, w := range ways {
		if w.op == op && slices.Contains(w.from, state) {
			return w.to
		}
	}
	return 0
}

// full is a letter in a state in which each field tells something.
func full(state int) api.Letter {
	return api.Letter{Name: "a-1", State: state, Amount: 100, Due: 7, Policy: "all(0,1)", Papers: "bill"}
}

// P10.1: where steps lead.

func TestNext(t *testing.T) {
	count := 0
	for _, state := range numbers {
		for _, op := range numbers {
			want := leads(state, op)
			if got := letter.Next(state, op); got != want {
				t.Errorf("Next(%d, %d) = %d, want %d", state, op, got, want)
			}
			if got := letter.Can(state, op); got != (want != 0) {
				t.Errorf("Can(%d, %d) = %v", state, op, got)
			}
			if want != 0 {
				count++
			}
		}
	}
	if count != 12 {
		t.Errorf("%d pairs of a state and a step lead anywhere, want 12", count)
	}
}

func TestSomeNext(t *testing.T) {
	for name, c := range map[string]struct{ state, op, want int }{
		"a letter is applied for":          {0, api.OpApply, api.Applied},
		"it is issued":                     {api.Applied, api.OpIssue, api.Issued},
		"it is amended":                    {api.Issued, api.OpAmend, api.Issued},
		"papers are presented":             {api.Issued, api.OpPresent, api.Presented},
		"papers are accepted":              {api.Presented, api.OpAccept, api.Accepted},
		"papers are rejected":              {api.Presented, api.OpReject, api.Issued},
		"it is paid":                       {api.Accepted, api.OpPay, api.Paid},
		"it expires, applied for":          {api.Applied, api.OpExpire, api.Expired},
		"it expires, issued":               {api.Issued, api.OpExpire, api.Expired},
		"it expires, presented":            {api.Presented, api.OpExpire, api.Expired},
		"it is cancelled, applied for":     {api.Applied, api.OpCancel, api.Cancelled},
		"it is cancelled, issued":          {api.Issued, api.OpCancel, api.Cancelled},
		"none is issued":                   {0, api.OpIssue, 0},
		"one is applied for twice":         {api.Applied, api.OpApply, 0},
		"what is accepted doesn't expire":  {api.Accepted, api.OpExpire, 0},
		"what is presented isn't canceled": {api.Presented, api.OpCancel, 0},
		"what is paid isn't paid again":    {api.Paid, api.OpPay, 0},
		"what is expired isn't begun anew": {api.Expired, api.OpApply, 0},
		"what is cancelled isn't issued":   {api.Cancelled, api.OpIssue, 0},
	} {
		if got := letter.Next(c.state, c.op); got != c.want {
			t.Errorf("%s: %d, want %d", name, got, c.want)
		}
		if got := letter.Can(c.state, c.op); got != (c.want != 0) {
			t.Errorf("%s: Can answers %v", name, got)
		}
	}
}

// P10.1: which states are over.
func TestOver(t *testing.T) {
	over := []int{5, 6, 7}
	for _, state := range numbers {
		if got := letter.Over(state); got != slices.Contains(over, state) {
			t.Errorf("Over(%d) = %v", state, got)
		}
	}
}

// P10.1: what each step does.
func TestStep(t *testing.T) {
	long := strings.Repeat("x", 200)
	with := func(state int, change func(l *api.Letter)) api.Letter {
		l := full(state)
		if change != nil {
			change(&l)
		}
		return l
	}
	for name, c := range map[string]struct {
		from api.Letter
		op   int
		a, b int64
		text string
		want api.Letter
	}{
		"apply":                       {api.Letter{Name: "x"}, 1, 5, 3, "0", api.Letter{Name: "x", State: 1, Amount: 5, Due: 3, Policy: "0"}},
		"apply with no name":          {api.Letter{}, 1, 5, 3, "0", api.Letter{State: 1, Amount: 5, Due: 3, Policy: "0"}},
		"apply, leaving old things":   {full(0), 1, 5, 3, "0", api.Letter{Name: "a-1", State: 1, Amount: 5, Due: 3, Policy: "0"}},
		"apply with no policy":        {full(0), 1, 5, 3, "", api.Letter{Name: "a-1", State: 1, Amount: 5, Due: 3}},
		"apply for the least":         {full(0), 1, 1, 0, "0", api.Letter{Name: "a-1", State: 1, Amount: 1, Policy: "0"}},
		"apply for the most":          {full(0), 1, 1 << 40, 1 << 40, long, api.Letter{Name: "a-1", State: 1, Amount: 1 << 40, Due: 1 << 40, Policy: long}},
		"apply with no policy's text": {full(0), 1, 5, 3, "no policy", api.Letter{Name: "a-1", State: 1, Amount: 5, Due: 3, Policy: "no policy"}},
		"issue":                       {full(1), 2, 9, 9, "y", full(2)},
		"amend up":                    {full(2), 3, 5, 0, "y", with(2, func(l *api.Letter) { l.Amount = 105 })},
		"amend down":                  {full(2), 3, -99, 0, "y", with(2, func(l *api.Letter) { l.Amount = 1 })},
		"amend to the most":           {full(2), 3, 1<<40 - 100, 0, "", with(2, func(l *api.Letter) { l.Amount = 1 << 40 })},
		"amend the day alone":         {full(2), 3, 0, 9, "", with(2, func(l *api.Letter) { l.Due = 9 })},
		"amend to an earlier day":     {full(2), 3, 0, 1, "", with(2, func(l *api.Letter) { l.Due = 1 })},
		"amend to the last day":       {full(2), 3, 1, 1 << 40, "", with(2, func(l *api.Letter) { l.Amount, l.Due = 101, 1<<40 })},
		"amend nothing":               {full(2), 3, 0, 0, "", full(2)},
		"amend from 0":                {api.Letter{State: 2}, 3, 1, 0, "", api.Letter{State: 2, Amount: 1}},
		"present":                     {full(2), 4, -1, -1, "papers", with(3, func(l *api.Letter) { l.Papers = "papers" })},
		"present nothing":             {full(2), 4, 0, 0, "", with(3, func(l *api.Letter) { l.Papers = "" })},
		"present the most":            {full(2), 4, 0, 0, long, with(3, func(l *api.Letter) { l.Papers = long })},
		"accept":                      {full(3), 5, 9, 9, "y", full(4)},
		"reject":                      {full(3), 6, 9, 9, "y", with(2, func(l *api.Letter) { l.Papers = "" })},
		"pay":                         {full(4), 7, 9, 9, "y", full(5)},
		"expire, applied for":         {full(1), 8, 7, 0, "y", full(6)},
		"expire, issued":              {full(2), 8, 8, -1, "y", full(6)},
		"expire, presented":           {full(3), 8, 1 << 40, 0, "y", full(6)},
		"expire on day 0":             {with(1, func(l *api.Letter) { l.Due = 0 }), 8, 0, 0, "", with(6, func(l *api.Letter) { l.Due = 0 })},
		"cancel, applied for":         {full(1), 9, 9, 9, "y", full(7)},
		"cancel, issued":              {full(2), 9, 9, 9, "y", full(7)},
	} {
		before := c.from
		got, e := letter.Step(c.from, c.op, c.a, c.b, c.text)
		if e != api.OK || got != c.want {
			t.Errorf("%s: %v, %d, want %v", name, got, e, c.want)
		}
		if c.from != before {
			t.Errorf("%s: what was handed in was changed", name)
		}
	}
}

// P10.1: which errors there are, and which comes first.
func TestErrors(t *testing.T) {
	long := strings.Repeat("x", 201)
	amount := func(a int64) api.Letter { return api.Letter{Name: "x", State: 2, Amount: a, Due: 7} }
	due := func(d int64) api.Letter { return api.Letter{Name: "x", State: 1, Amount: 5, Due: d} }
	for name, c := range map[string]struct {
		from api.Letter
		op   int
		a, b int64
		text string
		want api.Errno
	}{
		"no step":                                {full(1), 0, 0, 0, "", api.ErrArg},
		"a step behind the last one":             {full(1), 10, 0, 0, "", api.ErrArg},
		"a step below 0":                         {full(1), -1, 0, 0, "", api.ErrArg},
		"no step, of a letter that is over":      {full(5), 10, 0, 0, long, api.ErrArg},
		"no step, from no state":                 {full(-1), 0, -1, -1, long, api.ErrArg},
		"a step that doesn't lead from there":    {full(1), 1, 5, 3, "0", api.ErrState},
		"a step that doesn't, and a long text":   {full(1), 1, 0, -1, long, api.ErrState},
		"a step from no state":                   {full(8), 2, 0, 0, "", api.ErrState},
		"a step from a state below 0":            {full(-1), 2, 0, 0, "", api.ErrState},
		"apply, long":                            {full(0), 1, 5, 3, long, api.ErrLong},
		"apply, long, of no amount and no day":   {full(0), 1, 0, -1, long, api.ErrLong},
		"apply for 0":                            {full(0), 1, 0, 3, "0", api.ErrRange},
		"apply for less than 0":                  {full(0), 1, -1, 3, "0", api.ErrRange},
		"apply for the least number":             {full(0), 1, math.MinInt64, 3, "0", api.ErrRange},
		"apply for too much":                     {full(0), 1, 1<<40 + 1, 3, "0", api.ErrOver},
		"apply for the greatest number":          {full(0), 1, math.MaxInt64, 3, "0", api.ErrOver},
		"apply for too much, and no day":         {full(0), 1, 1<<40 + 1, -1, "0", api.ErrOver},
		"apply for a day below 0":                {full(0), 1, 5, -1, "0", api.ErrRange},
		"apply for a day behind the last":        {full(0), 1, 5, 1<<40 + 1, "0", api.ErrRange},
		"amend to 0":                             {full(2), 3, -100, 0, "", api.ErrRange},
		"amend to less than 0":                   {full(2), 3, -101, 0, "", api.ErrOver},
		"amend to less than 0, and no day":       {full(2), 3, -101, -1, "", api.ErrOver},
		"amend to too much":                      {full(2), 3, 1<<40 - 99, 0, "", api.ErrOver},
		"amend to too much, and no day":          {full(2), 3, 1<<40 - 99, 1<<40 + 1, "", api.ErrOver},
		"amend by too much":                      {full(2), 3, 1<<40 + 1, 0, "", api.ErrRange},
		"amend by too little":                    {full(2), 3, -1<<40 - 1, 0, "", api.ErrRange},
		"amend by the least":                     {full(2), 3, math.MinInt64, 0, "", api.ErrRange},
		"amend by the greatest":                  {full(2), 3, math.MaxInt64, 0, "", api.ErrRange},
		"amend by the least that may be":         {full(2), 3, -1 << 40, 0, "", api.ErrOver},
		"amend to a day below 0":                 {full(2), 3, 1, -1, "", api.ErrRange},
		"amend to a day behind the last":         {full(2), 3, 1, 1<<40 + 1, "", api.ErrRange},
		"amend what is no amount":                {amount(-1), 3, 5, 0, "", api.ErrRange},
		"amend what is too much":                 {amount(1<<40 + 1), 3, -5, 0, "", api.ErrRange},
		"amend 0 by 0":                           {amount(0), 3, 0, 0, "", api.ErrRange},
		"present, long":                          {full(2), 4, 0, 0, long, api.ErrLong},
		"expire a day early":                     {full(1), 8, 6, 0, "", api.ErrState},
		"expire on day 0":                        {full(1), 8, 0, 0, "", api.ErrState},
		"expire on a day below 0":                {full(1), 8, -1, 0, "", api.ErrRange},
		"expire behind the last day":             {full(1), 8, 1<<40 + 1, 0, "", api.ErrRange},
		"expire below 0, and due even below":     {due(-5), 8, -1, 0, "", api.ErrRange},
		"expire what is due behind the last day": {due(1<<40 + 1), 8, 1 << 40, 0, "", api.ErrState},
	} {
		got, e := letter.Step(c.from, c.op, c.a, c.b, c.text)
		if e != c.want || got != (api.Letter{}) {
			t.Errorf("%s: %v, %d, want %d", name, got, e, c.want)
		}
	}
}

// told is what the chapter says of a step, sentence by sentence.
func told(l api.Letter, op int, a, b int64, text string) (api.Letter, api.Errno) {
	day := func(d int64) bool { return 0 <= d && d <= 1<<40 }
	var errors []api.Errno
	add := func(holds bool, e api.Errno) {
		if holds {
			errors = append(errors, e)
		}
	}
	add(op < 1 || op > 9, api.ErrArg)
	add(leads(l.State, op) == 0, api.ErrState)
	add((op == 1 || op == 4) && len(text) > 200, api.ErrLong)
	m := l
	m.State = leads(l.State, op)
	switch op {
	case 1:
		add(a < 1, api.ErrRange)
		add(a > 1<<40, api.ErrOver)
		add(!day(b), api.ErrRange)
		m.Amount, m.Due, m.Policy, m.Papers = a, b, text, ""
	case 3:
		add(l.Amount < 0 || l.Amount > 1<<40 || a < -1<<40 || a > 1<<40, api.ErrRange)
		m.Amount = l.Amount + a
		add(m.Amount < 0 || m.Amount > 1<<40, api.ErrOver)
		add(m.Amount == 0, api.ErrRange)
		add(b != 0 && !day(b), api.ErrRange)
		if b != 0 {
			m.Due = b
		}
	case 4:
		m.Papers = text
	case 6:
		m.Papers = ""
	case 8:
		add(!day(a), api.ErrRange)
		add(a < l.Due, api.ErrState)
	}
	if len(errors) > 0 {
		return api.Letter{}, errors[0]
	}
	return m, api.OK
}

// P10.1: the edges of all numbers with each other.
func TestEdges(t *testing.T) {
	seen := map[api.Errno]int{}
	try := func(l api.Letter, op int, a, b int64, text string) {
		got, e := letter.Step(l, op, a, b, text)
		want, f := told(l, op, a, b, text)
		if got != want || e != f {
			t.Fatalf("Step(%v, %d, %d, %d, %q) = %v, %d, want %v, %d", l, op, a, b, text, got, e, want, f)
		}
		seen[e]++
	}
	for state := -1; state <= 8; state++ {
		for op := -1; op <= 11; op++ {
			for _, a := range edges {
				for _, b := range edges {
					for _, text := range texts[:6] {
						try(full(state), op, a, b, text)
					}
					// What was there may be no amount and no day either.
					for _, c := range edges {
						l := full(state)
						l.Amount, l.Due = c, b
						try(l, op, a, 0, "")
					}
				}
			}
		}
	}
	for _, state := range numbers {
		for _, op := range numbers {
			for _, text := range texts {
				try(full(state), op, 7, 7, text)
			}
		}
	}
	for _, e := range []api.Errno{api.OK, api.ErrArg, api.ErrState, api.ErrLong, api.ErrRange, api.ErrOver} {
		if seen[e] < 100 {
			t.Errorf("only %d steps with the error %d", seen[e], e)
		}
	}
}

// P10.2: a letter that is over stays as it is.
func TestOverStays(t *testing.T) {
	for _, state := range []int{api.Paid, api.Expired, api.Cancelled} {
		for op := api.OpApply; op <= api.OpCancel; op++ {
			for _, a := range edges {
				for _, b := range edges {
					l := full(state)
					got, e := letter.Step(l, op, a, b, "text")
					if e != api.ErrState || got != (api.Letter{}) || l != full(state) {
						t.Fatalf("Step %d, %d, %d of a letter that is over: %v, %d", op, a, b, got, e)
					}
				}
			}
		}
	}
}

// P10.2: behind whatever steps, an amount is an amount above 0, and what is over stays over.
func TestWalks(t *testing.T) {
	r := rand.New(rand.NewSource(10))
	ended := map[int]int{}
	most := int64(0)
	for range 3000 {
		l := api.Letter{Name: "walk"}
		for range 60 {
			op := r.Intn(11)
			if r.Intn(2) == 0 {
				op = api.OpAmend
			}
			a, b := edges[r.Intn(len(edges))], edges[r.Intn(len(edges))]
			if r.Intn(2) == 0 {
				a, b = 1+r.Int63n(1<<40), r.Int63n(1<<20)
			}
			text := texts[r.Intn(len(texts))]
			m, e := letter.Step(l, op, a, b, text)
			if e != api.OK {
				continue
			}
			if letter.Over(l.State) {
				t.Fatalf("%v was over, and a step led to %v", l, m)
			}
			if m.Amount < 1 || m.Amount > 1<<40 || m.Due < 0 || m.Due > 1<<40 || len(m.Policy) > 200 || len(m.Papers) > 200 || m.Name != "walk" {
				t.Fatalf("Step(%v, %d, %d, %d, %q) = %v", l, op, a, b, text, m)
			}
			most = max(most, m.Amount)
			l = m
		}
		ended[l.State]++
	}
	for _, state := range []int{api.Paid, api.Expired, api.Cancelled} {
		if ended[state] < 10 {
			t.Errorf("only %d walks ended in the state %d", ended[state], state)
		}
	}
	if most < 1<<39 {
		t.Errorf("no walk came above %d", most)
	}
}
