package terms_test

import (
	"math"
	"math/rand"
	"regexp"
	"slices"
	"strconv"
	"strings"
	"testing"

	"bottomry/api"
	"bottomry/formula"
	"bottomry/terms"
)

// org is an organization.
func org(i int) api.Formula {
	return api.Formula{Org: i}
}

// of is At of kids.
func of(at int, kids ...api.Formula) api.Formula {
	return api.Formula{At: at, Kids: kids}
}

// orgs are the organizations with these numbers.
func orgs(numbers ...int) []api.Formula {
	var all []api.Formula
	for _, i := range numbers {
		all = append(all, org(i))
	}
	return all
}

// isZero asks whether nothing is told beside an error.
func isZero(f api.Formula) bool {
	return f.Org == 0 && f.At == 0 && len(f.Kids) == 0
}

// nested is a text so deep: an organization under words with one policy each.
func nested(word string, deep int) string {
	return strings.Repeat(word+"(", deep-1) + "0" + strings.Repeat(")", deep-1)
}

// nest is an organization under so many that have one kid alone.
func nest(f api.Formula, over int) api.Formula {
	for range over {
		f = of(1, f)
	}
	return f
}

// wide is a text with an organization so many times under one word.
func wide(times int) string {
	return "any(" + strings.Repeat("0,", times-1) + "0)"
}

// clone is a policy in memory of its own.
func clone(f api.Formula) api.Formula {
	g := f
	g.Kids = nil
	for _, kid := range f.Kids {
		g.Kids = append(g.Kids, clone(kid))
	}
	return g
}

// P9.1: texts that are policies.

func TestParse(t *testing.T) {
	for _, c := range []struct {
		text string
		n    int
		want api.Formula
	}{
		{"0", 1, org(0)},
		{"0", 7, org(0)},
		{"3", 4, org(3)},
		{"6", 7, org(6)},
		{"all(0)", 1, of(1, org(0))},
		{"any(0)", 1, of(1, org(0))},
		{"1of(0)", 1, of(1, org(0))},
		{"all(0,1)", 2, of(2, orgs(0, 1)...)},
		{"any(0,1)", 2, of(1, orgs(0, 1)...)},
		{"1of(0,1)", 2, of(1, orgs(0, 1)...)},
		{"2of(0,1)", 2, of(2, orgs(0, 1)...)},
		{"all(0,1,2,3,4,5,6)", 7, of(7, orgs(0, 1, 2, 3, 4, 5, 6)...)},
		{"any(6,5,4,3,2,1,0)", 7, of(1, orgs(6, 5, 4, 3, 2, 1, 0)...)},
		{"2of(0,1,2)", 3, of(2, orgs(0, 1, 2)...)},
		{"2of(1,1,1)", 2, of(2, orgs(1, 1, 1)...)},
		{"10of(0,0,0,0,0,0,0,0,0,0,0)", 1, of(10, orgs(0, 0, 0, 0, 0, 0, 0, 0, 0, 0, 0)...)},
		{"31of(" + strings.Repeat("0,", 30) + "0)", 1, of(31, slices.Repeat(orgs(0), 31)...)},
		{"all(any(0,1),2of(1,2,3),4)", 5, of(3, of(1, orgs(0, 1)...), of(2, orgs(1, 2, 3)...), org(4))},
		{"any(4,all(0,any(1,2)),3)", 5, of(1, org(4), of(2, org(0), of(1, orgs(1, 2)...)), org(3))},
		{"any(any(any(any(0))))", 1, nest(org(0), 4)},
		{"all(all(all(all(6))))", 7, nest(org(6), 4)},
	} {
		got, e := terms.Parse(c.text, c.n)
		if e != api.OK || !formula.Same(got, c.want) {
			t.Errorf("Parse(%q, %d) = %v, %d, want %v", c.text, c.n, got, e, c.want)
		}
	}
}

// P9.1: blanks stand around numbers, words and signs, and nowhere else.
func TestBlanks(t *testing.T) {
	twoOf3, both := of(2, orgs(0, 1, 2)...), of(2, org(1), of(1, orgs(0, 2)...))
	for text, want := range map[string]api.Formula{
		" 0":                             org(0),
		"0 ":                             org(0),
		"   2   ":                        org(2),
		"2 of (0,1, 2)":                  twoOf3,
		"2of(0,1,2)":                     twoOf3,
		" 2of(0,1,2)":                    twoOf3,
		"2 of(0,1,2)":                    twoOf3,
		"2of (0,1,2)":                    twoOf3,
		"2of( 0,1,2)":                    twoOf3,
		"2of(0 ,1,2)":                    twoOf3,
		"2of(0, 1,2)":                    twoOf3,
		"2of(0,1,2 )":                    twoOf3,
		"2of(0,1,2) ":                    twoOf3,
		"  2  of  (  0  ,  1  ,  2  )  ": twoOf3,
		" all ( 1 , any ( 0 , 2 ) ) ":    both,
		"all(1,any(0,2))":                both,
		"all(1,any(0,2) )":               both,
		"all(1,any(0,2)  )  ":            both,
		"all(any(0) , 1)":                of(2, of(1, org(0)), org(1)),
	} {
		if got, e := terms.Parse(text, 3); e != api.OK || !formula.Same(got, want) {
			t.Errorf("Parse(%q, 3) = %v, %d, want %v", text, got, e, want)
		}
	}
	for _, text := range []string{
		"0 0", "1 2", "a ll(0)", "al l(0)", "a ny(0)", "an y(0)", "2o f(0,1)", "2 o f(0,1)", "1 0of(0)", "al\tl(0)",
		// Nothing else is a blank.
		"\t0", "0\n", "any(\t0)", "any(0)\r\n", "any(0,\v1)", "any(0\f,1)", "2\u00a0of(0,1)", "\u20030", "\ufeff0", "0\x00",
	} {
		if got, e := terms.Parse(text, 3); e != api.ErrForm || !isZero(got) {
			t.Errorf("Parse(%q, 3) = %v, %d, want ErrForm", text, got, e)
		}
	}
}

// P9.1: texts that are none.
func TestForm(t *testing.T) {
	for _, text := range []string{
		"", " ", "          ", strings.Repeat(" ", api.MaxText),
		// Numbers.
		"00", "01", "007", "0000", "-0", "-1", "+1", "0x1", "1.", "1.0", "1e1", "1_0", "12345", "10000", "00000", "99999999999999999999", "١", "１", "²",
		"any(00)", "any(01)", "any(12345)", "any(0,10000)", "any(-1)",
		// Words.
		"a", "all", "any", "of", "2of", "2 of", "none", "x(0)", "ALL(0)", "Any(0)", "2OF(0,1)", "some(0)", "alll(0)", "al(0)", "anyy(0)", "an(0)", "o(0)", "1o(0)", "1off(0)", "1 0 of(0)",
		"of(0)", " of (0)", "1all(0)", "1any(0)", "1 all (0)", "1 any (0)", "allof(0)", "anyof(0)", "all of(0)", "all any(0)", "2of2of(0)", "all1(0)", "all 1(0)", "of 1(0)",
		"any 0", "all 0", "all 0)", "all 0,1", "2of 0", "ańy(0)", "аny(0)",
		// The number ahead of "of".
		"0of(0)", "00of(0)", "01of(0)", "001of(0)", "100of(0)", "101of(0)", "999of(0)", "1000of(0)", "9999of(0)", "10000of(0)", "12345of(0)", "099of(0)", "-1of(0)", "0 of (0)", "18446744073709551617of(0)",
		// Brackets and commas.
		"(", ")", ",", "()", "(0)", "((0))", "0)", "(0", "0,", ",0", "0,1", "0(", "0()", "0(1)", "2(0,1)",
		"any(", "any)", "any()", "all()", "1of()", "0of()", "any( )", "any(()", "any(,)", "any(0", "any(0,", "any(0,)", "any(,0)", "any(0,,1)", "any(0,1,)", "any(0 1)", "any(0))", "any(0)0", "any(0),", "any(0),1", "any(0)any(1)", "any(0)(1)", "any(0) 1", "any((0))", "any((0),1)",
		"2of(0", "2of(0,1", "any(any(0)", "any(any(0)))", "any(all()", "any(all())", "any(0,any)", "any(0,all(,))", "any(0;1)", "any[0]", "any{0}", "any(0|1)", "all(0&1)",
		// Bytes.
		"\x00", "\xff", "0\xff", "\xff0", "any(\xff0)", "any(0\x80)", "\xed\xa0\x80", "日本", "any(0)\u0000", "a\u0301ny(0)",
	} {
		for _, n := range []int{1, 4, 7, 0, -1, 8, math.MinInt, math.MaxInt} {
			if got, e := terms.Parse(text, n); e != api.ErrForm || !isZero(got) {
				t.Errorf("Parse(%q, %d) = %v, %d, want ErrForm", text, n, got, e)
			}
		}
	}
}

// P9.1: numbers of up to four digits are told; of these the policy's check answers.
func TestNumbers(t *testing.T) {
	for i := range 20000 {
		want := api.ErrRange
		switch {
		case i < 7:
			want = api.OK
		case i > 9999:
			want = api.ErrForm
		}
		digits := strconv.Itoa(i)
		if got, e := terms.Parse(digits, 7); e != want || got.Org != i && e == api.OK || !isZero(got) && e != api.OK {
			t.Errorf("the organization %d: %v, %d, want %d", i, got, e, want)
		}
		if _, e := terms.Parse("0"+digits, 7); e != api.ErrForm {
			t.Errorf("0 and %d: %d, want ErrForm", i, e)
		}
		// Of kids there are 20 here.
		want = api.ErrRange
		switch {
		case i < 1 || i > 99:
			want = api.ErrForm
		case i <= 20:
			want = api.OK
		}
		kids := "of(" + strings.Repeat("0,", 19) + "0)"
		if got, e := terms.Parse(digits+kids, 7); e != want || got.At != i && e == api.OK || !isZero(got) && e != api.OK {
			t.Errorf("%d of 20: %v, %d, want %d", i, got, e, want)
		}
		if _, e := terms.Parse("0"+digits+kids, 7); e != api.ErrForm {
			t.Errorf("0%d of 20: %d, want ErrForm", i, e)
		}
	}
}

// P9.1: how long and how deep a text is, ahead of what the policy's check answers.
func TestErrors(t *testing.T) {
	full := "any(0)" + strings.Repeat(" ", api.MaxText-6)
	for name, c := range map[string]struct {
		text string
		n    int
		want api.Errno
	}{
		"as long as may be":                   {full, 1, api.OK},
		"as long as may be, no policy":        {strings.Repeat("x", api.MaxText), 1, api.ErrForm},
		"longer by a blank behind":            {full + " ", 1, api.ErrLong},
		"longer by a blank ahead":             {" " + full, 1, api.ErrLong},
		"longer, and no policy":               {strings.Repeat("x", api.MaxText+1), 1, api.ErrLong},
		"longer, and n 0":                     {full + " ", 0, api.ErrLong},
		"longer, by blanks alone":             {strings.Repeat(" ", api.MaxText+1), 1, api.ErrLong},
		"bytes count, not letters":            {strings.Repeat("é", api.MaxText/2+1), 1, api.ErrLong},
		"as many letters, no policy":          {strings.Repeat("é", api.MaxText/2), 1, api.ErrForm},
		"very long":                           {strings.Repeat("any(", 1<<18), 1, api.ErrLong},
		"longer, and 11 deep":                 {nested("any", 11) + strings.Repeat(" ", api.MaxText), 1, api.ErrLong},
		"longer, and 33 nodes":                {wide(32) + strings.Repeat(" ", api.MaxText), 1, api.ErrLong},
		"5 deep":                              {nested("any", 5), 1, api.OK},
		"6 deep":                              {nested("any", 6), 1, api.ErrLong},
		"10 deep":                             {nested("any", 10), 1, api.ErrLong},
		"10 deep by all":                      {nested("all", 10), 1, api.ErrLong},
		"10 deep by 1 of":                     {nested("1of", 10), 1, api.ErrLong},
		"11 deep":                             {nested("any", 11), 1, api.ErrForm},
		"11 deep by all":                      {nested("all", 11), 1, api.ErrForm},
		"11 deep by 1 of":                     {nested("1of", 11), 1, api.ErrForm},
		"12 deep":                             {nested("any", 12), 1, api.ErrForm},
		"40 deep":                             {nested("any", 40), 1, api.ErrForm},
		"10 deep, n 0":                        {nested("any", 10), 0, api.ErrArg},
		"11 deep, n 0":                        {nested("any", 11), 0, api.ErrForm},
		"a last one 10 deep":                  {"any(0,all(0)," + nested("any", 9) + ")", 1, api.ErrLong},
		"a last one 11 deep":                  {"any(0,all(0)," + nested("any", 10) + ")", 1, api.ErrForm},
		"a first one 11 deep":                 {"any(" + nested("any", 10) + ",0)", 1, api.ErrForm},
		"10 deep twice":                       {"any(" + nested("any", 9) + "," + nested("all", 9) + ")", 1, api.ErrLong},
		"32 nodes":                            {wide(31), 1, api.OK},
		"33 nodes":                            {wide(32), 1, api.ErrMany},
		"98 nodes":                            {wide(97), 1, api.ErrMany},
		"33 nodes, n 0":                       {wide(32), 0, api.ErrArg},
		"33 nodes, then no policy":            {wide(32) + ")", 1, api.ErrForm},
		"33 nodes, 6 deep, and out of range":  {"99of(" + wide(32) + "," + nested("any", 6) + ",9)", 1, api.ErrMany},
		"6 deep, and out of range":            {"9of(" + nested("any", 5) + ",9)", 1, api.ErrLong},
		"6 deep, n 8":                         {nested("any", 6), 8, api.ErrArg},
		"n 0":                                 {"0", 0, api.ErrArg},
		"n below 0":                           {"0", -1, api.ErrArg},
		"n 8":                                 {"0", 8, api.ErrArg},
		"n the least":                         {"all(0,1)", math.MinInt, api.ErrArg},
		"n the greatest":                      {"all(0,1)", math.MaxInt, api.ErrArg},
		"n 0, and out of range":               {"9", 0, api.ErrArg},
		"the organization n":                  {"4", 4, api.ErrRange},
		"the organization 7":                  {"7", 7, api.ErrRange},
		"the organization 9999":               {"9999", 7, api.ErrRange},
		"the organization 9999, n 0":          {"9999", 0, api.ErrArg},
		"the organization 10000, n 0":         {"10000", 0, api.ErrForm},
		"a kid that is n":                     {"any(0,3)", 3, api.ErrRange},
		"a kid that is less":                  {"any(0,2)", 3, api.OK},
		"a kid's kid that is n":               {"any(0,all(1,3))", 3, api.ErrRange},
		"more than all":                       {"3of(0,1)", 4, api.ErrRange},
		"more than all, below":                {"any(0,2of(1))", 4, api.ErrRange},
		"99 of 2":                             {"99of(0,1)", 4, api.ErrRange},
		"100 of 2":                            {"100of(0,1)", 4, api.ErrForm},
		"out of range, then no policy behind": {"any(9,x)", 4, api.ErrForm},
	} {
		got, e := terms.Parse(c.text, c.n)
		if e != c.want || e != api.OK && !isZero(got) {
			t.Errorf("%s: %v, %d, want %d", name, got, e, c.want)
		}
	}
}

// P9.1: what is printed.

func TestPrint(t *testing.T) {
	for _, c := range []struct {
		f    api.Formula
		want string
	}{
		{api.Formula{}, "0"},
		{org(6), "6"},
		{api.Formula{Org: 2, Kids: []api.Formula{}}, "2"},
		{of(1, org(0)), "all(0)"},
		{of(2, orgs(0, 1)...), "all(0,1)"},
		{of(1, orgs(0, 1)...), "any(0,1)"},
		{of(2, orgs(0, 1, 2)...), "2of(0,1,2)"},
		{of(3, orgs(0, 1, 2)...), "all(0,1,2)"},
		{of(1, orgs(2, 1, 0)...), "any(2,1,0)"},
		{of(2, orgs(1, 1, 1)...), "2of(1,1,1)"},
		{of(6, orgs(0, 1, 2, 3, 4, 5, 6)...), "6of(0,1,2,3,4,5,6)"},
		{of(10, slices.Repeat(orgs(0), 11)...), "10of(" + strings.Repeat("0,", 10) + "0)"},
		{of(30, slices.Repeat(orgs(5), 31)...), "30of(" + strings.Repeat("5,", 30) + "5)"},
		{of(31, slices.Repeat(orgs(5), 31)...), "all(" + strings.Repeat("5,", 30) + "5)"},
		{of(2, of(1, orgs(3, 4)...), org(5), of(2, orgs(6, 0, 1)...)), "2of(any(3,4),5,2of(6,0,1))"},
		{nest(org(3), 4), "all(all(all(all(3))))"},
	} {
		if got := terms.Print(c.f); got != c.want {
			t.Errorf("Print(%v) = %q, want %q", c.f, got, c.want)
		}
	}
}

// P9.1: of a policy that may not be of any n nothing is printed.
func TestPrintOfNone(t *testing.T) {
	endless := api.Formula{At: 1, Kids: make([]api.Formula, 2)}
	endless.Kids[0], endless.Kids[1] = endless, endless
	for name, f := range map[string]api.Formula{
		"the organization 7":        org(7),
		"the organization -1":       org(-1),
		"the least organization":    org(math.MinInt),
		"the greatest organization": org(math.MaxInt),
		"a kid that may not be":     of(1, org(0), org(7)),
		"0 of kids":                 of(0, orgs(0, 1)...),
		"-1 of kids":                of(-1, orgs(0, 1)...),
		"more than all":             of(3, orgs(0, 1)...),
		"1 of none":                 of(1),
		"-1 of none":                of(-1),
		"kids with an Org":          {Org: 1, At: 1, Kids: orgs(0, 1)},
		"a kid of none with an At":  of(1, org(0), of(1)),
		"33 nodes":                  of(1, slices.Repeat(orgs(0), 32)...),
		"6 deep":                    nest(org(0), 5),
		"50 deep":                   nest(org(0), 49),
		"no end":                    endless,
	} {
		if got := terms.Print(f); got != "" {
			t.Errorf("%s: %q", name, got)
		}
	}
}

// What the chapter's words say, put another way: bits of text are put together, and what has only policies in its brackets is made a policy, round by round.

var (
	bits  = regexp.MustCompile(`[0-9]+|[a-z]+| +|(?s:.)`)
	inner = regexp.MustCompile(`w\(p(,p)*\)`)
	alone = regexp.MustCompile(`^(0|[1-9][0-9]{0,3})$`)
	ahead = regexp.MustCompile(`^[1-9][0-9]?$`)
)

// deepOf is how deep a policy's text is; 0, if it is none.
func deepOf(text string) int {
	var all []string
	for _, x := range bits.FindAllString(text, -1) {
		if strings.Trim(x, " ") != "" {
			all = append(all, x)
		}
	}
	b := ""
	for i, x := range all {
		switch {
		case ahead.MatchString(x) && i+1 < len(all) && all[i+1] == "of":
			// It belongs to the word behind it.
		case x == "of" && i > 0 && ahead.MatchString(all[i-1]), x == "all", x == "any":
			b += "w"
		case alone.MatchString(x):
			b += "p"
		case x == "(" || x == ")" || x == ",":
			b += x
		default:
			return 0
		}
	}
	deep := 1
	for b != "p" {
		next := inner.ReplaceAllString(b, "p")
		if next == b {
			return 0
		}
		b = next
		deep++
	}
	return deep
}

// compare holds what is parsed against the chapter's words.
func compare(t *testing.T, text string, n int) api.Errno {
	t.Helper()
	f, e := terms.Parse(text, n)
	deep := deepOf(text)
	form := deep > 0 && deep <= 10
	switch {
	case len(text) > 200:
		if e != api.ErrLong {
			t.Errorf("Parse(%q, %d) = %d: it is long", text, n, e)
		}
	case form == (e == api.ErrForm):
		t.Errorf("Parse(%q, %d) = %d: its form holds: %v", text, n, e, form)
	case e == api.OK && formula.Check(f, n) != api.OK:
		t.Errorf("Parse(%q, %d) = %v, which may not be", text, n, f)
	case form && (n < 1 || n > 7) && e != api.ErrArg:
		t.Errorf("Parse(%q, %d) = %d: of no n", text, n, e)
	}
	if e != api.OK && !isZero(f) {
		t.Errorf("Parse(%q, %d) = %v beside an error", text, n, f)
	}
	return e
}

// P9.1: all texts of a few bits.
func TestShortTexts(t *testing.T) {
	bits := []string{"0", "1", "12", "all", "of", "(", ")", ",", " "}
	count := 0
	var tell func(text string, left int)
	tell = func(text string, left int) {
		if compare(t, text, 4) == api.OK {
			count++
		}
		if left == 0 {
			return
		}
		for _, x := range bits {
			tell(text+x, left-1)
		}
	}
	tell("", 6)
	if count < 100 {
		t.Errorf("only %d policies", count)
	}
}

// grow makes a policy of at most so many nodes, at most so deep.
func grow(r *rand.Rand, nodes *int, deep int) api.Formula {
	*nodes--
	f := org(r.Intn(7))
	if deep > 1 && r.Intn(4) > 0 && *nodes > 0 {
		f = of(0)
		for range 1 + r.Intn(8) {
			if *nodes > 0 {
				f.Kids = append(f.Kids, grow(r, nodes, deep-1))
			}
		}
		f.At = 1 + r.Intn(len(f.Kids))
	}
	return f
}

// written is a policy's text in one of its ways, bit by bit.
func written(r *rand.Rand, f api.Formula) []string {
	if len(f.Kids) == 0 {
		return []string{strconv.Itoa(f.Org)}
	}
	b := []string{strconv.Itoa(f.At), "of"}
	switch way := r.Intn(3); {
	case f.At == 1 && way == 0:
		b = []string{"any"}
	case f.At == len(f.Kids) && way == 1:
		b = []string{"all"}
	}
	b = append(b, "(")
	for i, kid := range f.Kids {
		if i > 0 {
			b = append(b, ",")
		}
		b = append(b, written(r, kid)...)
	}
	return append(b, ")")
}

// spaced puts blanks between bits of text, so many at most, and at both ends.
func spaced(r *rand.Rand, all []string, most int) string {
	text := strings.Repeat(" ", r.Intn(most+1))
	for _, x := range all {
		text += x + strings.Repeat(" ", r.Intn(most+1))
	}
	return text
}

// P9.1: each policy is parsed from each of its texts.
func TestManyTexts(t *testing.T) {
	r := rand.New(rand.NewSource(9))
	for range 5000 {
		nodes := 1 + r.Intn(32)
		f := grow(r, &nodes, 1+r.Intn(5))
		for most := range 4 {
			text := spaced(r, written(r, f), most)
			got, e := terms.Parse(text, 7)
			if len(text) > 200 && (e != api.ErrLong || !isZero(got)) {
				t.Fatalf("Parse(%q, 7) = %v, %d: it is long", text, got, e)
			}
			if len(text) <= 200 && (e != api.OK || !formula.Same(got, f)) {
				t.Fatalf("Parse(%q, 7) = %v, %d, want %v", text, got, e, f)
			}
		}
	}
}

// P9.1: texts in which something was put, left out, or put elsewhere.
func TestSpoiltTexts(t *testing.T) {
	r := rand.New(rand.NewSource(10))
	more := []string{"0", "1", "9", "01", "99", "100", "1234", "12345", "all", "any", "of", "al", "(", ")", ",", " ", "any(", "all(0)", "\t", "é", "\xff"}
	seen := map[api.Errno]int{}
	for range 20000 {
		nodes := 1 + r.Intn(40)
		all := written(r, grow(r, &nodes, 1+r.Intn(12)))
		for range 1 + r.Intn(2) {
			i := r.Intn(len(all))
			switch r.Intn(4) {
			case 0:
				all[i] = more[r.Intn(len(more))]
			case 1:
				all[i] = ""
			case 2:
				all = slices.Insert(all, i, more[r.Intn(len(more))])
			case 3:
				j := r.Intn(len(all))
				all[i], all[j] = all[j], all[i]
			}
		}
		seen[compare(t, spaced(r, all, r.Intn(3)), r.Intn(9))]++
		if t.Failed() {
			return
		}
	}
	for _, e := range []api.Errno{api.OK, api.ErrArg, api.ErrForm, api.ErrLong, api.ErrMany, api.ErrRange} {
		if seen[e] < 50 {
			t.Errorf("only %d texts with the error %d", seen[e], e)
		}
	}
}

// P9.2: what is printed of a policy is parsed to it.
func TestPrintedIsParsed(t *testing.T) {
	r := rand.New(rand.NewSource(11))
	for range 20000 {
		nodes := 1 + r.Intn(32)
		f := grow(r, &nodes, 1+r.Intn(5))
		text := terms.Print(f)
		if len(text) > api.MaxText || strings.Contains(text, " ") {
			t.Fatalf("Print(%v) = %q", f, text)
		}
		for n := 1; n <= 7; n++ {
			want := formula.Check(f, n)
			got, e := terms.Parse(text, n)
			if e != want || e == api.OK && !formula.Same(got, f) {
				t.Fatalf("Parse(%q, %d) = %v, %d, want %v, %d", text, n, got, e, f, want)
			}
			if e == api.OK && terms.Print(got) != text {
				t.Fatalf("%q is printed as %q", text, terms.Print(got))
			}
		}
	}
}

// What is handed in isn't changed, and answers share nothing.
func TestAnswersAreNew(t *testing.T) {
	f := of(2, org(0), of(1, orgs(1, 2)...), org(3))
	before := clone(f)
	text := terms.Print(f)
	if !formula.Same(f, before) {
		t.Error("what was handed in was changed")
	}
	g, _ := terms.Parse(text, 4)
	h, _ := terms.Parse(text, 4)
	g.Kids[0].Org, g.Kids[1].At, g.Kids[1].Kids[0].Org = 9, 9, 9
	_ = append(h.Kids[1].Kids, org(6))
	_ = append(h.Kids, org(6))
	if !formula.Same(h, before) || terms.Print(f) != text {
		t.Error("two answers share memory")
	}
}
