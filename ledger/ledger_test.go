package ledger_test

import (
	"math"
	"math/rand"
	"slices"
	"strings"
	"testing"

	"bottomry/api"
	"bottomry/ledger"
)

// The chapter's limits, as numbers: a change of api's constants is seen too.
const (
	mostSeq     = 1 << 20
	mostAmount  = 1 << 40
	mostStamp   = 1 << 40
	mostName    = 16
	mostText    = 200
	mostLetters = 16
	mostTold    = 4
)

// letterOf is a letter that may stand.
func letterOf(name string) api.Letter {
	return api.Letter{Name: name, State: 2, Amount: 5, Due: 30, Policy: "2of(0,1,2)", Papers: "bill"}
}

func outcomeOf(client int) api.Outcome {
	return api.Outcome{Client: client, Stamp: 7, Result: 9}
}

func lettersOf(names ...string) []api.Letter {
	var all []api.Letter
	for i, name := range names {
		x := letterOf(name)
		x.Amount = int64(i + 1) // tells apart those of one name
		all = append(all, x)
	}
	return all
}

func outcomesOf(clients ...int) []api.Outcome {
	var all []api.Outcome
	for i, client := range clients {
		all = append(all, api.Outcome{Client: client, Stamp: int64(i + 1)})
	}
	return all
}

// full is a ledger that may be, with three letters and two outcomes.
func full() api.Ledger {
	return api.Ledger{Seq: 9, Total: 77, Letters: lettersOf("-", "a-1", "b"), Last: outcomesOf(4, 6)}
}

func copyOf(l api.Ledger) api.Ledger {
	l.Letters, l.Last = slices.Clone(l.Letters), slices.Clone(l.Last)
	return l
}

func alike(a, b api.Ledger) bool {
	return a.Seq == b.Seq && a.Total == b.Total && slices.Equal(a.Letters, b.Letters) && slices.Equal(a.Last, b.Last)
}

// isNothing tells whether a ledger is the zero value, or empty.
func isNothing(l api.Ledger) bool {
	return l.Seq == 0 && l.Total == 0 && len(l.Letters) == 0 && len(l.Last) == 0
}

// P11.1: what is a name.

func TestIsName(t *testing.T) {
	for s, want := range map[string]bool{
		"a": true, "z": true, "0": true, "9": true, "-": true, "a-1": true, "--": true, "-a-": true, "m5": true,
		"abcdefghijklmnop": true, "qrstuvwxyz012345": true, "6789------------": true, strings.Repeat("z", 16): true,
		"": false, strings.Repeat("a", 17): false, strings.Repeat("a", 1<<20): false,
		"A": false, "Z": false, "aB": false, "a b": false, " a": false, "a ": false, "a\n": false, "a_b": false, "a.b": false,
		"é": false, "aé": false, "ａ": false, "٣": false, "–": false, "ß": false, "\x00": false, "a\x00": false,
		"\xff": false, "a\xe1": false, "a\x80": false, "\xed\xa0\x80": false, "\ufffd": false, "\U0001d51e": false,
		"ab" + strings.Repeat("é", 7): false, strings.Repeat("é", 8): false, strings.Repeat("é", 16): false,
	} {
		if got := ledger.IsName(s); got != want {
			t.Errorf("IsName(%q) = %v", s, got)
		}
	}
}

func TestEachByteOfAName(t *testing.T) {
	for c := range 256 {
		b := byte(c)
		want := strings.IndexByte("abcdefghijklmnopqrstuvwxyz0123456789-", b) >= 0
		for _, s := range [][]byte{{b}, {b, 'a'}, {'a', b}, {'a', b, 'a'}, append([]byte(strings.Repeat("a", 15)), b)} {
			if got := ledger.IsName(string(s)); got != want {
				t.Errorf("IsName(%q) = %v", s, got)
			}
		}
	}
}

func TestEachRuneOfAName(t *testing.T) {
	for r := rune(128); r < 0x30000; r++ {
		if ledger.IsName(string(r)) {
			t.Errorf("%q is a name", string(r))
		}
	}
}

// P11.1: which ledgers may be.

func TestCheckOfLedgersThatMayBe(t *testing.T) {
	for name, l := range ledgersThatMayBe() {
		if got := ledger.Check(l); got != api.OK {
			t.Errorf("%s: %d", name, got)
		}
	}
}

func TestCheckOfLedgersThatMayNotBe(t *testing.T) {
	for name, l := range ledgersThatMayNotBe() {
		if got := ledger.Check(l); got != api.ErrForm {
			t.Errorf("%s: %d, want %d", name, got, api.ErrForm)
		}
	}
}

// ledgersThatMayBe are around the edges, on the side that may be.
func ledgersThatMayBe() map[string]api.Ledger {
	all := map[string]api.Ledger{
		"none":                {},
		"empty lists":         {Letters: []api.Letter{}, Last: []api.Outcome{}},
		"full":                full(),
		"as many letters":     {Letters: lettersOf(names(mostLetters)...)},
		"as many outcomes":    {Last: outcomesOf(0, 1, 2, 63)},
		"outcomes alone":      {Last: outcomesOf(63)},
		"each byte of a name": {Letters: lettersOf("-", "0", "00", "1", "9", "a", "aa", "ab", "az", "b", "z", "zz")},
		"a longer name ahead": {Letters: lettersOf("aaaaaaaaaaaaaaaa", "b")},
	}
	for name, change := range map[string]func(l *api.Ledger){
		"Seq 0":         func(l *api.Ledger) { l.Seq = 0 },
		"Seq most":      func(l *api.Ledger) { l.Seq = mostSeq },
		"Total 0":       func(l *api.Ledger) { l.Total = 0 },
		"Total most":    func(l *api.Ledger) { l.Total = mostAmount },
		"name of 16":    func(l *api.Ledger) { l.Letters[1].Name = strings.Repeat("a", mostName) },
		"State 1":       func(l *api.Ledger) { l.Letters[1].State = 1 },
		"State 7":       func(l *api.Ledger) { l.Letters[1].State = 7 },
		"Amount 1":      func(l *api.Ledger) { l.Letters[1].Amount = 1 },
		"Amount most":   func(l *api.Ledger) { l.Letters[1].Amount = mostAmount },
		"Due 0":         func(l *api.Ledger) { l.Letters[1].Due = 0 },
		"Due most":      func(l *api.Ledger) { l.Letters[1].Due = mostStamp },
		"Policy none":   func(l *api.Ledger) { l.Letters[1].Policy = "" },
		"Policy long":   func(l *api.Ledger) { l.Letters[1].Policy = strings.Repeat("p", mostText) },
		"Policy beyond": func(l *api.Ledger) { l.Letters[1].Policy = "no policy's text\xff" },
		"Papers none":   func(l *api.Ledger) { l.Letters[1].Papers = "" },
		"Papers long":   func(l *api.Ledger) { l.Letters[1].Papers = strings.Repeat("é", mostText/2) },
		"Client 0":      func(l *api.Ledger) { l.Last[0].Client = 0 },
		"Client 63":     func(l *api.Ledger) { l.Last[1].Client = 63 },
		"Stamp 1":       func(l *api.Ledger) { l.Last[1].Stamp = 1 },
		"Stamp most":    func(l *api.Ledger) { l.Last[1].Stamp = mostStamp },
		"Result 0":      func(l *api.Ledger) { l.Last[1].Result = 0 },
		"Result 99":     func(l *api.Ledger) { l.Last[1].Result = 99 },
	} {
		l := full()
		change(&l)
		all[name] = l
	}
	return all
}

// ledgersThatMayNotBe differ in one thing from one that may be.
func ledgersThatMayNotBe() map[string]api.Ledger {
	all := map[string]api.Ledger{
		"a letter too many":      {Letters: lettersOf(names(mostLetters + 1)...)},
		"letters far too many":   {Letters: lettersOf(names(1 << 12)...)},
		"an outcome too many":    {Last: outcomesOf(0, 1, 2, 3, 4)},
		"outcomes far too many":  {Last: outcomesOf(numbers(0, 63)...)},
		"the same name twice":    {Letters: lettersOf("a", "a")},
		"twice at the end":       {Letters: lettersOf("a", "b", "c", "c")},
		"names that fall":        {Letters: lettersOf("b", "a")},
		"names that fall behind": {Letters: lettersOf("a", "b", "d", "c")},
		"a prefix behind":        {Letters: lettersOf("aa", "a")},
		"a digit behind":         {Letters: lettersOf("a", "1")},
		"a dash behind":          {Letters: lettersOf("0", "-")},
		"the same client twice":  {Last: outcomesOf(4, 4)},
		"clients that fall":      {Last: outcomesOf(5, 4)},
		"clients fall behind":    {Last: outcomesOf(4, 5, 7, 6)},
	}
	far := []int64{math.MinInt64, math.MinInt64 + 1, -1 << 40, -1 << 32, -256, -1, 1 << 41, 1 << 62, math.MaxInt64}
	for _, v := range far {
		name := "far number "
		add(all, name+"Seq", v, func(l *api.Ledger) { l.Seq = v })
		add(all, name+"Total", v, func(l *api.Ledger) { l.Total = v })
		add(all, name+"State", v, func(l *api.Ledger) { l.Letters[2].State = int(v) })
		add(all, name+"Amount", v, func(l *api.Ledger) { l.Letters[2].Amount = v })
		add(all, name+"Due", v, func(l *api.Ledger) { l.Letters[2].Due = v })
		add(all, name+"Stamp", v, func(l *api.Ledger) { l.Last[1].Stamp = v })
		add(all, name+"Client", v, func(l *api.Ledger) { l.Last = outcomesOf(int(v)) })
		add(all, name+"Result", v, func(l *api.Ledger) { l.Last[1].Result = api.Errno(v) })
	}
	add(all, "Seq", mostSeq+1, func(l *api.Ledger) { l.Seq = mostSeq + 1 })
	add(all, "Total", mostAmount+1, func(l *api.Ledger) { l.Total = mostAmount + 1 })
	for i := range 3 {
		for _, state := range []int{0, 8, 255, 256 + 1, 1<<32 + 1} {
			add(all, "State", int64(state+i<<40), func(l *api.Ledger) { l.Letters[i].State = state })
		}
		for _, amount := range []int64{0, mostAmount + 1} {
			add(all, "Amount", amount+int64(i), func(l *api.Ledger) { l.Letters[i].Amount = amount })
		}
		add(all, "Due", int64(i), func(l *api.Ledger) { l.Letters[i].Due = mostStamp + 1 })
		add(all, "Policy", int64(i), func(l *api.Ledger) { l.Letters[i].Policy = strings.Repeat("p", mostText+1) })
		add(all, "Papers", int64(i), func(l *api.Ledger) { l.Letters[i].Papers = strings.Repeat("é", mostText/2) + "p" })
	}
	// These rise, as texts, but have what a name may not have.
	for i, three := range [][]string{{"", "a", "b"}, {"-", "A", "b"}, {"a", "a_", "b"}, {"a", "b", "é"}, {"a", "b", strings.Repeat("c", 17)}, {"\x00", "a", "b"}} {
		add(all, "names", int64(i), func(l *api.Ledger) { l.Letters = lettersOf(three...) })
	}
	for i := range 2 {
		add(all, "Stamp", int64(i), func(l *api.Ledger) { l.Last[i].Stamp = 0 })
		add(all, "Stamp beyond", int64(i), func(l *api.Ledger) { l.Last[i].Stamp = mostStamp + 1 })
		add(all, "Result", int64(i), func(l *api.Ledger) { l.Last[i].Result = 100 })
		add(all, "Result below", int64(i), func(l *api.Ledger) { l.Last[i].Result = -1 })
	}
	add(all, "Client", -1, func(l *api.Ledger) { l.Last[0].Client = -1 })
	add(all, "Client", 64, func(l *api.Ledger) { l.Last[1].Client = 64 })
	return all
}

func add(all map[string]api.Ledger, name string, v int64, change func(l *api.Ledger)) {
	l := full()
	change(&l)
	all[name+" "+text(v)] = l
}

func text(v int64) string {
	var b []byte
	for u := uint64(v); u > 0 || len(b) == 0; u /= 10 {
		b = append(b, byte('0'+u%10))
	}
	slices.Reverse(b)
	return string(b)
}

// names are n names that rise.
func names(n int) []string {
	var all []string
	for i := range n {
		all = append(all, "n"+text(int64(100000 + i))[1:])
	}
	return all
}

func numbers(low, high int) []int {
	var all []int
	for i := low; i <= high; i++ {
		all = append(all, i)
	}
	return all
}

// P11.1: a letter by its name, an outcome by its client.

// find is the second way: one letter after the other.
func find(l api.Ledger, name string) (api.Letter, bool) {
	for _, x := range l.Letters {
		if x.Name == name {
			return x, true
		}
	}
	return api.Letter{}, false
}

func last(l api.Ledger, client int) (api.Outcome, bool) {
	for _, o := range l.Last {
		if o.Client == client {
			return o, true
		}
	}
	return api.Outcome{}, false
}

func TestFind(t *testing.T) {
	for name, c := range map[string]struct {
		in     []string
		name   string
		amount int64 // which one, from 1 on; 0: none
	}{
		"of nothing":               {nil, "a", 0},
		"the one":                  {[]string{"a"}, "a", 1},
		"ahead of the one":         {[]string{"b"}, "a", 0},
		"behind the one":           {[]string{"b"}, "c", 0},
		"the first":                {[]string{"a", "b", "c"}, "a", 1},
		"the middle":               {[]string{"a", "b", "c"}, "b", 2},
		"the last":                 {[]string{"a", "b", "c"}, "c", 3},
		"between":                  {[]string{"a", "c"}, "b", 0},
		"a prefix":                 {[]string{"a", "ab", "abc"}, "ab", 2},
		"no prefix of what is":     {[]string{"abc"}, "ab", 0},
		"nor longer":               {[]string{"ab"}, "abc", 0},
		"no name of none":          {[]string{"a"}, "", 0},
		"no name, which is there":  {[]string{"", "a"}, "", 1},
		"a great letter":           {[]string{"A", "a"}, "A", 1},
		"the first of two":         {[]string{"a", "b", "b", "c"}, "b", 2},
		"the first of many":        {[]string{"b", "b", "b", "b", "b"}, "b", 1},
		"the first, apart":         {[]string{"b", "a", "b"}, "b", 1},
		"the first, apart behind":  {[]string{"c", "b", "a", "b"}, "b", 2},
		"the first of what falls":  {[]string{"e", "d", "c", "b", "a"}, "e", 1},
		"the last of what falls":   {[]string{"e", "d", "c", "b", "a"}, "a", 5},
		"none of what falls":       {[]string{"e", "c", "a"}, "b", 0},
		"one alone out of order":   {[]string{"a", "b", "c", "d", "0"}, "0", 5},
		"the first out of order":   {[]string{"z", "b", "c", "d", "e"}, "z", 1},
		"in order, others are not": {[]string{"b", "a", "c", "d", "e", "f"}, "f", 6},
	} {
		l := api.Ledger{Letters: lettersOf(c.in...), Last: outcomesOf(1)}
		got, ok := ledger.Find(l, c.name)
		if ok != (c.amount != 0) || got.Amount != c.amount || ok && got.Name != c.name || !ok && got != (api.Letter{}) {
			t.Errorf("%s: %v, %v", name, got, ok)
		}
	}
}

func TestLast(t *testing.T) {
	for name, c := range map[string]struct {
		in     []int
		client int
		stamp  int64 // which one, from 1 on; 0: none
	}{
		"of nothing":            {nil, 0, 0},
		"the one":               {[]int{4}, 4, 1},
		"client 0":              {[]int{0}, 0, 1},
		"no client 0":           {[]int{1}, 0, 0},
		"ahead of the one":      {[]int{4}, 3, 0},
		"behind the one":        {[]int{4}, 5, 0},
		"the first":             {[]int{4, 5, 7}, 4, 1},
		"the middle":            {[]int{4, 5, 7}, 5, 2},
		"the last":              {[]int{4, 5, 7}, 7, 3},
		"between":               {[]int{4, 5, 7}, 6, 0},
		"the first of two":      {[]int{4, 5, 5, 7}, 5, 2},
		"the first, apart":      {[]int{5, 4, 5}, 5, 1},
		"of what falls":         {[]int{7, 5, 4}, 7, 1},
		"the last that falls":   {[]int{7, 5, 4}, 4, 3},
		"beyond what may be":    {[]int{math.MinInt, -1, 64, math.MaxInt}, -1, 2},
		"the least":             {[]int{math.MinInt, -1, 64, math.MaxInt}, math.MinInt, 1},
		"the greatest":          {[]int{math.MinInt, -1, 64, math.MaxInt}, math.MaxInt, 4},
		"the low bytes alone":   {[]int{4}, 256 + 4, 0},
		"the low 32 bits alone": {[]int{4}, 1<<32 + 4, 0},
	} {
		got, ok := ledger.Last(api.Ledger{Last: outcomesOf(c.in...), Letters: lettersOf("a")}, c.client)
		if ok != (c.stamp != 0) || got.Stamp != c.stamp || ok && got.Client != c.client || !ok && got != (api.Outcome{}) {
			t.Errorf("%s: %v, %v", name, got, ok)
		}
	}
}

// A letter and an outcome are found whole.
func TestWhatIsFoundIsWhole(t *testing.T) {
	l := full()
	for _, x := range l.Letters {
		if got, ok := ledger.Find(l, x.Name); !ok || got != x {
			t.Error(got, ok)
		}
	}
	for _, o := range l.Last {
		if got, ok := ledger.Last(l, o.Client); !ok || got != o {
			t.Error(got, ok)
		}
	}
}

// P11.1: With and Told.

// with is the second way: the sentences of the chapter one by one.
func with(l api.Ledger, x api.Letter) (api.Ledger, api.Errno) {
	if !ledger.IsName(x.Name) {
		return api.Ledger{}, api.ErrName
	}
	out := copyOf(l)
	at, there := len(l.Letters), false
	for i := len(l.Letters) - 1; i >= 0; i-- {
		if l.Letters[i].Name > x.Name {
			at = i
		}
	}
	for i := len(l.Letters) - 1; i >= 0; i-- {
		if l.Letters[i].Name == x.Name {
			at, there = i, true
		}
	}
	if there {
		out.Letters[at] = x
	} else {
		out.Letters = slices.Insert(out.Letters, at, x)
	}
	if len(out.Letters) > mostLetters {
		return api.Ledger{}, api.ErrFull
	}
	return out, api.OK
}

func told(l api.Ledger, o api.Outcome) api.Ledger {
	out := copyOf(l)
	for i := range out.Last {
		if out.Last[i].Client == o.Client {
			out.Last[i] = o
			return out
		}
	}
	for i := range out.Last {
		if out.Last[i].Client > o.Client {
			out.Last = slices.Insert(out.Last, i, o)
			return out
		}
	}
	out.Last = append(out.Last, o)
	return out
}

func namesOf(l api.Ledger) string {
	var all []string
	for _, x := range l.Letters {
		name := x.Name
		if x.Amount == 99 {
			name += "!" // the new one
		}
		all = append(all, name)
	}
	return strings.Join(all, " ")
}

func TestWith(t *testing.T) {
	many := strings.Join(names(mostLetters), " ")
	first, middle := names(1)[0], names(mostLetters)[7]
	for name, c := range map[string]struct {
		in, name, want string
		err            api.Errno
	}{
		"to nothing":                {"", "a", "a!", api.OK},
		"ahead":                     {"b c", "a", "a! b c", api.OK},
		"between":                   {"a c", "b", "a b! c", api.OK},
		"behind":                    {"a b", "c", "a b c!", api.OK},
		"in the place of the first": {"a b c", "a", "a! b c", api.OK},
		"in the place of another":   {"a b c", "b", "a b! c", api.OK},
		"in the place of the last":  {"a b c", "c", "a b c!", api.OK},
		"in place of the only one":  {"a", "a", "a!", api.OK},
		"behind a prefix":           {"a b", "aa", "a aa! b", api.OK},
		"ahead of what is longer":   {"aa", "a", "a! aa", api.OK},
		"a dash, a digit, a letter": {"- a", "0", "- 0! a", api.OK},
		"the first of two":          {"a b b c", "b", "a b! b c", api.OK},
		"the first, apart":          {"c a b a", "a", "c a! b a", api.OK},
		"its place, not its order":  {"d a", "a", "d a!", api.OK},
		"ahead of the first above":  {"d a c", "b", "b! d a c", api.OK},
		"above all in no order":     {"d a c", "e", "d a c e!", api.OK},
		"above one alone":           {"b a d c", "c1", "b a c1! d c", api.OK},
		"the sixteenth":             {strings.Join(names(mostLetters)[1:], " "), first, strings.Replace(many, first, first+"!", 1), api.OK},
		"in place, of sixteen":      {many, middle, strings.Replace(many, middle, middle+"!", 1), api.OK},
		"the seventeenth ahead":     {many, "a", "", api.ErrFull},
		"the seventeenth between":   {many, first + "-", "", api.ErrFull},
		"the seventeenth behind":    {many, "z", "", api.ErrFull},
		"of seventeen, in place":    {many + " z", "z", "", api.ErrFull},
		"of seventeen":              {many + " z", "a", "", api.ErrFull},
		"of 64":                     {strings.Join(names(64), " "), first, "", api.ErrFull},
		"no name":                   {"a", "", "", api.ErrName},
		"a great letter":            {"a", "A", "", api.ErrName},
		"seventeen bytes":           {"a", strings.Repeat("a", 17), "", api.ErrName},
		"no name, and full":         {many, "a_", "", api.ErrName},
		"what is there is no name":  {"A a", "A", "", api.ErrName},
		"others are no names":       {"A \xff", "a", "A a! \xff", api.OK},
	} {
		l := api.Ledger{Seq: 9, Total: 77, Letters: lettersOf(strings.Fields(c.in)...), Last: outcomesOf(6, 4)}
		before, x := copyOf(l), api.Letter{Name: c.name, Amount: 99, State: 3, Due: 8, Policy: "p", Papers: "q"}
		got, e := ledger.With(l, x)
		if e != c.err || namesOf(got) != c.want {
			t.Errorf("%s: %q, %d", name, namesOf(got), e)
		}
		if e != api.OK && !isNothing(got) {
			t.Errorf("%s: something stands beside an error: %v", name, got)
		}
		if e == api.OK {
			at := slices.Index(strings.Fields(c.want), c.name+"!")
			if got.Letters[at] != x || got.Seq != 9 || got.Total != 77 || !slices.Equal(got.Last, before.Last) {
				t.Errorf("%s: %v", name, got)
			}
		}
		if !alike(l, before) {
			t.Errorf("%s: what was handed in is changed", name)
		}
	}
}

// With asks for a name alone: a letter that may not stand is taken as it is.
func TestWithOfALetterThatMayNotStand(t *testing.T) {
	for _, x := range []api.Letter{{Name: "a"}, {Name: "a", State: -1, Amount: math.MinInt64, Due: math.MaxInt64, Policy: strings.Repeat("p", 201), Papers: strings.Repeat("p", 999)}} {
		got, e := ledger.With(full(), x)
		if e != api.OK || len(got.Letters) != 4 || got.Letters[1] != x {
			t.Error(got, e)
		}
		l := full()
		l.Seq, l.Total, l.Last[0].Stamp = -5, math.MaxInt64, -8
		if got, e := ledger.With(l, x); e != api.OK || got.Seq != -5 || got.Total != math.MaxInt64 || got.Last[0].Stamp != -8 {
			t.Error(got, e)
		}
	}
}

func TestTold(t *testing.T) {
	for name, c := range map[string]struct {
		in     []int
		client int
		want   []int64 // stamps: 1 and on those of the old ones, 99 the new one's
	}{
		"to nothing":                {nil, 4, []int64{99}},
		"ahead":                     {[]int{4, 5}, 3, []int64{99, 1, 2}},
		"between":                   {[]int{4, 6}, 5, []int64{1, 99, 2}},
		"behind":                    {[]int{4, 6}, 7, []int64{1, 2, 99}},
		"in the place of the first": {[]int{4, 5, 6}, 4, []int64{99, 2, 3}},
		"in the place of another":   {[]int{4, 5, 6}, 5, []int64{1, 99, 3}},
		"in the place of the last":  {[]int{4, 5, 6}, 6, []int64{1, 2, 99}},
		"the first of two":          {[]int{4, 5, 5, 6}, 5, []int64{1, 99, 3, 4}},
		"the first, apart":          {[]int{6, 4, 5, 4}, 4, []int64{1, 99, 3, 4}},
		"ahead of the first above":  {[]int{7, 4, 6}, 5, []int64{99, 1, 2, 3}},
		"above all in no order":     {[]int{7, 4, 6}, 8, []int64{1, 2, 3, 99}},
		"above one alone":           {[]int{5, 4, 8, 7}, 6, []int64{1, 2, 99, 3, 4}},
		"one too many":              {[]int{4, 5, 6, 7}, 8, []int64{1, 2, 3, 4, 99}},
		"far too many":              {numbers(1, 64), 0, append([]int64{99}, stamps(64)...)},
		"a client that may not be":  {[]int{0, 63}, 64, []int64{1, 2, 99}},
		"a client below 0":          {[]int{0, 63}, -1, []int64{99, 1, 2}},
		"the least":                 {[]int{0, 63}, math.MinInt, []int64{99, 1, 2}},
		"the greatest":              {[]int{0, 63}, math.MaxInt, []int64{1, 2, 99}},
	} {
		l := api.Ledger{Seq: 9, Total: 77, Letters: lettersOf("b", "a"), Last: outcomesOf(c.in...)}
		before, o := copyOf(l), api.Outcome{Client: c.client, Stamp: 99, Result: 5}
		got := ledger.Told(l, o)
		var have []int64
		for _, x := range got.Last {
			have = append(have, x.Stamp)
		}
		if !slices.Equal(have, c.want) || !slices.Contains(got.Last, o) {
			t.Errorf("%s: %v", name, got.Last)
		}
		if got.Seq != 9 || got.Total != 77 || !slices.Equal(got.Letters, before.Letters) {
			t.Errorf("%s: %v", name, got)
		}
		if !alike(l, before) {
			t.Errorf("%s: what was handed in is changed", name)
		}
	}
}

func stamps(n int) []int64 {
	var all []int64
	for i := range n {
		all = append(all, int64(i+1))
	}
	return all
}

// Told asks for nothing: an outcome that may not be is taken as it is.
func TestToldOfAnOutcomeThatMayNotBe(t *testing.T) {
	for _, o := range []api.Outcome{{}, {Client: -1, Stamp: math.MinInt64, Result: -1}, {Client: 99, Stamp: math.MaxInt64, Result: math.MaxInt}} {
		if got := ledger.Told(full(), o); !slices.Contains(got.Last, o) || len(got.Last) != 3 {
			t.Error(got)
		}
	}
}

// anyLedger has up to 64 letters and outcomes, of few names and clients, in any order or rising.
func anyLedger(rnd *rand.Rand) api.Ledger {
	l := api.Ledger{Seq: rnd.Int63() - rnd.Int63(), Total: rnd.Int63() - rnd.Int63()}
	kinds := 1 + rnd.Intn(40)
	most := []int{3, 15, 18, 65}[rnd.Intn(4)]
	for i := range rnd.Intn(most) {
		x := letterOf(anyName(rnd, kinds))
		x.Amount = int64(i)
		l.Letters = append(l.Letters, x)
	}
	for i := range rnd.Intn(most) {
		l.Last = append(l.Last, api.Outcome{Client: rnd.Intn(kinds), Stamp: int64(i)})
	}
	byName := func(a, b api.Letter) int { return strings.Compare(a.Name, b.Name) }
	byClient := func(a, b api.Outcome) int { return a.Client - b.Client }
	switch rnd.Intn(3) {
	case 0:
		slices.SortStableFunc(l.Letters, byName)
		slices.SortStableFunc(l.Last, byClient)
	case 1:
		slices.SortStableFunc(l.Letters, byName)
		slices.SortStableFunc(l.Last, byClient)
		l.Letters = slices.CompactFunc(l.Letters, func(a, b api.Letter) bool { return a.Name == b.Name })
		l.Last = slices.CompactFunc(l.Last, func(a, b api.Outcome) bool { return a.Client == b.Client })
	}
	return l
}

func anyName(rnd *rand.Rand, kinds int) string {
	return []string{"", "a", "A", "-", "b0", "b", "é", "z"}[rnd.Intn(8)] + strings.Repeat("c", rnd.Intn(kinds)/2)
}

func TestManyCallsAgainstTheSecondWay(t *testing.T) {
	rnd := rand.New(rand.NewSource(8))
	done := map[api.Errno]int{}
	for range 30000 {
		l := anyLedger(rnd)
		before := copyOf(l)
		name, client := anyName(rnd, 40), rnd.Intn(42)-1
		x, ok := ledger.Find(l, name)
		if want, there := find(l, name); x != want || ok != there {
			t.Fatalf("Find(%v, %q) = %v, %v", l, name, x, ok)
		}
		o, ok := ledger.Last(l, client)
		if want, there := last(l, client); o != want || ok != there {
			t.Fatalf("Last(%v, %d) = %v, %v", l, client, o, ok)
		}
		got, e := ledger.With(l, api.Letter{Name: name, Amount: -1})
		if want, err := with(l, api.Letter{Name: name, Amount: -1}); e != err || !alike(got, want) {
			t.Fatalf("With(%v, %q) = %v, %d", l, name, got, e)
		}
		done[e]++
		if got, want := ledger.Told(l, api.Outcome{Client: client, Stamp: -1}), told(l, api.Outcome{Client: client, Stamp: -1}); !alike(got, want) {
			t.Fatalf("Told(%v, %d) = %v", l, client, got)
		}
		if !alike(l, before) {
			t.Fatal("what was handed in is changed")
		}
	}
	if done[api.OK] < 1000 || done[api.ErrName] < 1000 || done[api.ErrFull] < 1000 || len(done) != 3 {
		t.Error("too few of some kind:", done)
	}
}

// P11.1: whether ledgers are the same.

func TestSame(t *testing.T) {
	if !ledger.Same(api.Ledger{}, api.Ledger{Letters: []api.Letter{}, Last: []api.Outcome{}}) || !ledger.Same(api.Ledger{Letters: []api.Letter{}}, api.Ledger{}) {
		t.Error("nil and empty are one")
	}
	if !ledger.Same(full(), full()) {
		t.Error("a ledger isn't the same as itself")
	}
	for name, change := range map[string]func(l *api.Ledger){
		"Seq":              func(l *api.Ledger) { l.Seq++ },
		"Total":            func(l *api.Ledger) { l.Total-- },
		"Total, far":       func(l *api.Ledger) { l.Total += 1 << 32 },
		"Name":             func(l *api.Ledger) { l.Letters[2].Name = "b0" },
		"State":            func(l *api.Ledger) { l.Letters[2].State++ },
		"Amount":           func(l *api.Ledger) { l.Letters[2].Amount++ },
		"Due":              func(l *api.Ledger) { l.Letters[2].Due++ },
		"Policy":           func(l *api.Ledger) { l.Letters[2].Policy += " " },
		"Papers":           func(l *api.Ledger) { l.Letters[2].Papers = "" },
		"the first letter": func(l *api.Ledger) { l.Letters[0].Due++ },
		"no last letter":   func(l *api.Ledger) { l.Letters = l.Letters[:2] },
		"no first letter":  func(l *api.Ledger) { l.Letters = l.Letters[1:] },
		"no letters":       func(l *api.Ledger) { l.Letters = nil },
		"one more letter":  func(l *api.Ledger) { l.Letters = append(l.Letters, api.Letter{}) },
		"other order":      func(l *api.Ledger) { slices.Reverse(l.Letters) },
		"Client":           func(l *api.Ledger) { l.Last[1].Client++ },
		"Stamp":            func(l *api.Ledger) { l.Last[1].Stamp++ },
		"Result":           func(l *api.Ledger) { l.Last[1].Result++ },
		"first outcome":    func(l *api.Ledger) { l.Last[0].Stamp++ },
		"no last outcome":  func(l *api.Ledger) { l.Last = l.Last[:1] },
		"no outcomes":      func(l *api.Ledger) { l.Last = nil },
		"one more outcome": func(l *api.Ledger) { l.Last = append(l.Last, api.Outcome{}) },
		"outcomes turned":  func(l *api.Ledger) { slices.Reverse(l.Last) },
	} {
		l := full()
		change(&l)
		if ledger.Same(full(), l) || ledger.Same(l, full()) {
			t.Errorf("%s: the same", name)
		}
		if !ledger.Same(l, copyOf(l)) {
			t.Errorf("%s: not the same as itself", name)
		}
	}
	for name, l := range ledgersThatMayNotBe() {
		if !ledger.Same(l, copyOf(l)) || ledger.Same(l, full()) || ledger.Same(full(), l) {
			t.Errorf("%s: of a ledger that may not be", name)
		}
	}
}

// Answers share no memory with what was handed in, nor with one another.

func TestAnswersHaveMemoryOfTheirOwn(t *testing.T) {
	roomy := func() api.Ledger {
		l := full()
		l.Letters, l.Last = append(make([]api.Letter, 0, 20), l.Letters...), append(make([]api.Outcome, 0, 20), l.Last...)
		return l
	}
	for name, call := range map[string]func(l api.Ledger) api.Ledger{
		"With, behind":   func(l api.Ledger) api.Ledger { return must(ledger.With(l, letterOf("z"))) },
		"With, ahead":    func(l api.Ledger) api.Ledger { return must(ledger.With(l, letterOf("--"))) },
		"With, in place": func(l api.Ledger) api.Ledger { return must(ledger.With(l, letterOf("b"))) },
		"Told, behind":   func(l api.Ledger) api.Ledger { return ledger.Told(l, outcomeOf(9)) },
		"Told, ahead":    func(l api.Ledger) api.Ledger { return ledger.Told(l, outcomeOf(0)) },
		"Told, in place": func(l api.Ledger) api.Ledger { return ledger.Told(l, outcomeOf(4)) },
	} {
		l := roomy()
		got := call(l)
		want := copyOf(got)
		scribble(l)
		if !alike(got, want) {
			t.Errorf("%s: a change to what was handed in is seen in the answer", name)
		}
		l = roomy()
		scribble(call(l))
		if !alike(l, full()) {
			t.Errorf("%s: a change to the answer is seen in what was handed in", name)
		}
		one, two := call(l), call(l)
		scribble(one)
		if !alike(two, want) {
			t.Errorf("%s: two answers share memory", name)
		}
	}
}

func must(l api.Ledger, e api.Errno) api.Ledger {
	if e != api.OK {
		panic(e)
	}
	return l
}

// scribble writes over all of a ledger's memory, behind its ends too.
func scribble(l api.Ledger) {
	letters, outcomes := l.Letters[:cap(l.Letters)], l.Last[:cap(l.Last)]
	for i := range letters {
		letters[i] = api.Letter{Name: "###"}
	}
	for i := range outcomes {
		outcomes[i] = api.Outcome{Client: -3}
	}
}

// P5: every call ends and none panics.

func TestNoArgumentPanics(t *testing.T) {
	all := []api.Ledger{{}, full(), {Letters: make([]api.Letter, 1000), Last: make([]api.Outcome, 1000)}, {Letters: lettersOf(names(1 << 14)...), Last: outcomesOf(numbers(-1<<14, 1<<14)...)}}
	for _, l := range ledgersThatMayNotBe() {
		all = append(all, l)
	}
	for _, l := range all {
		for _, name := range []string{"", "a", "b", "\xff", "n00000", "n16383", strings.Repeat("a", 1<<12)} {
			ledger.Find(l, name)
			ledger.With(l, api.Letter{Name: name})
		}
		for _, client := range []int{math.MinInt, -1 << 14, -1, 0, 4, 63, 64, 1 << 14, math.MaxInt} {
			ledger.Last(l, client)
			ledger.Told(l, api.Outcome{Client: client})
		}
		ledger.Check(l)
		ledger.Bytes(l)
		ledger.Same(l, l)
		ledger.Parse(nil)
	}
}
