package contract_test

import (
	"math"
	"math/rand"
	"slices"
	"strings"
	"testing"

	"bottomry/api"
	"bottomry/contract"
	"bottomry/ledger"
	"bottomry/letter"
)

// done is an entry that is done a second way: all errors that apply are listed, sentence by sentence, and the first one is told.
func done(l api.Ledger, e api.Entry, n int) (api.Ledger, api.Errno) {
	l = copyOf(l)
	c := e.Core
	who := slices.IndexFunc(l.Last, func(o api.Outcome) bool { return o.Client == c.Client })
	if who >= 0 && l.Last[who].Stamp >= c.Stamp {
		return l, api.ErrStale
	}
	errors := wrongs(c, n)
	if len(errors) > 0 {
		return l, errors[0]
	}
	at := slices.IndexFunc(l.Letters, func(x api.Letter) bool { return x.Name == c.Letter })
	made, errors := tried(l, at, e, n)
	o := api.Outcome{Client: c.Client, Stamp: c.Stamp}
	if len(errors) > 0 {
		o.Result = errors[0]
	} else {
		if c.Op == 7 {
			l.Total += made.Amount
		}
		l.Letters = placed(l.Letters, made, at, func(x api.Letter) bool { return x.Name > made.Name })
	}
	l.Last = placed(l.Last, o, who, func(x api.Outcome) bool { return x.Client > o.Client })
	return l, o.Result
}

// wrongs are the errors of a core that may not be.
func wrongs(c api.Core, n int) []api.Errno {
	var errors []api.Errno
	add := adder(&errors)
	add(n < 1 || n > 7, api.ErrArg)
	add(c.Client < n || c.Client-n > 3, api.ErrWho)
	add(c.Stamp < 1 || c.Stamp > 1<<40 || c.Op < 1 || c.Op > 9, api.ErrRange)
	odd := strings.Trim(c.Letter, "abcdefghijklmnopqrstuvwxyz0123456789-") != ""
	add(odd || c.Letter == "" || len(c.Letter) > 16, api.ErrName)
	add(len(c.Text) > 200, api.ErrLong)
	return errors
}

// tried is the letter that a step makes of the one at a place (below 0: of none), and the errors of it.
func tried(l api.Ledger, at int, e api.Entry, n int) (api.Letter, []api.Errno) {
	var errors []api.Errno
	add := adder(&errors)
	c := e.Core
	x, many := api.Letter{}, len(l.Letters)
	if at >= 0 {
		x = l.Letters[at]
	} else {
		many++
	}
	add(c.Op != 1 && at < 0, api.ErrName)
	policy := x.Policy
	if c.Op == 1 {
		policy = c.Text
	}
	is, met := asked(policy, e.Mask, n)
	add(!is, api.ErrForm)
	add(!met, api.ErrPolicy)
	made, stepError := letter.Step(x, c.Op, c.A, c.B, c.Text)
	made.Name = c.Letter
	add(stepError != 0, stepError)
	add(many > 16, api.ErrFull)
	wrong := func(a int64) bool { return a < 0 || a > 1<<40 }
	add(c.Op == 7 && (wrong(l.Total) || wrong(x.Amount) || wrong(l.Total+x.Amount)), api.ErrOver)
	return made, errors
}

func adder(errors *[]api.Errno) func(holds bool, e api.Errno) {
	return func(holds bool, e api.Errno) {
		if holds {
			*errors = append(*errors, e)
		}
	}
}

// placed is a list with x instead of the one at a place, or (below 0) ahead of the first that is greater.
func placed[T any](list []T, x T, at int, greater func(T) bool) []T {
	if at >= 0 {
		list[at] = x
		return list
	}
	at = slices.IndexFunc(list, greater)
	if at < 0 {
		at = len(list)
	}
	return slices.Insert(list, at, x)
}

func pick[T any](r *rand.Rand, from ...T) T {
	return from[r.Intn(len(from))]
}

func someText(r *rand.Rand) string {
	if r.Intn(8) == 0 {
		return pick(r, noRules...)
	}
	return pick(r, rules...).text
}

func someMask(r *rand.Rand) uint32 {
	if r.Intn(4) == 0 {
		return r.Uint32()
	}
	return pick(r, 0b1111111, 0b1111, 0b11, 1, r.Uint32()&127)
}

func someName(r *rand.Rand) string {
	if r.Intn(40) == 0 {
		return pick(r, "", "A", "é", "a b", "\xff", strings.Repeat("a", 17))
	}
	return pick(r, "-", "0", "a", "a-1", "b", strings.Repeat("z", 16))
}

func someEntry(r *rand.Rand, n int) api.Entry {
	c := api.Core{Client: n + r.Intn(4), Stamp: 1 + r.Int63n(40), Op: 1 + r.Intn(9), Letter: someName(r)}
	c.A = pick[int64](r, 0, 1, 5, 30, 100, -1, -5, mostAmount, mostAmount+1, math.MinInt64, math.MaxInt64, r.Int63n(mostAmount))
	c.B = pick[int64](r, 0, 1, 5, 30, 100, -1, mostStamp, mostStamp+1, math.MinInt64, math.MaxInt64, r.Int63n(mostStamp))
	c.Text = someText(r)
	switch r.Intn(40) {
	case 0:
		c.Client = pick(r, n-1, n+4, -1, 0, n+256, math.MinInt, math.MaxInt)
	case 1:
		c.Stamp = pick[int64](r, 0, -1, mostStamp, mostStamp+1, math.MinInt64, math.MaxInt64)
	case 2:
		c.Op = pick(r, 0, 10, -1, 257, math.MinInt, math.MaxInt)
	}
	return api.Entry{Core: c, Mask: someMask(r)}
}

// someLedger is any, most often one that may be; else of up to 64 letters and outcomes in any order, some names and clients twice.
func someLedger(r *rand.Rand, n int) api.Ledger {
	l := api.Ledger{Seq: r.Int63n(mostSeq), Total: pick(r, 0, 7, r.Int63n(mostAmount), mostAmount)}
	wild := r.Intn(3) == 0
	letters, clients := r.Intn(18), r.Intn(5)
	if wild {
		letters, clients = pick(r, 3, 16, 17, 64), pick(r, 4, 8, 64)
		l.Total = pick(r, l.Total, -1, mostAmount+1, math.MinInt64, math.MaxInt64)
	}
	for i := range letters {
		name := pick(r, someName(r), "m"+string(rune('a'+i%26)))
		x := api.Letter{Name: name, State: 1 + r.Intn(7), Amount: 1 + r.Int63n(200), Due: r.Int63n(40), Policy: someText(r), Papers: pick(r, "", "bill")}
		if wild && r.Intn(4) == 0 {
			x.State = pick(r, 0, -1, 8, math.MaxInt)
			x.Amount, x.Due = pick[int64](r, 0, -1, mostAmount, math.MaxInt64), pick[int64](r, -1, mostStamp+1)
		}
		l.Letters = append(l.Letters, x)
	}
	for range clients {
		l.Last = append(l.Last, api.Outcome{Client: n + r.Intn(6) - 1, Stamp: r.Int63n(40), Result: api.Errno(r.Intn(18))})
	}
	if !wild {
		l = tidy(l)
	}
	return l
}

// tidy is a ledger in order, without names or clients that stand twice.
func tidy(l api.Ledger) api.Ledger {
	slices.SortStableFunc(l.Letters, func(a, b api.Letter) int { return strings.Compare(a.Name, b.Name) })
	l.Letters = slices.CompactFunc(l.Letters, func(a, b api.Letter) bool { return a.Name == b.Name })
	slices.SortStableFunc(l.Last, func(a, b api.Outcome) int { return a.Client - b.Client })
	l.Last = slices.CompactFunc(l.Last, func(a, b api.Outcome) bool { return a.Client == b.Client })
	return l
}

// P14.1: many entries, done to many ledgers, held against the second way.
func TestManyEntries(t *testing.T) {
	r := rand.New(rand.NewSource(14))
	seen := map[api.Errno]int{}
	for range 60000 {
		n := 1 + r.Intn(mostN)
		l, e := someLedger(r, n), someEntry(r, n)
		if r.Intn(100) == 0 {
			n = pick(r, 0, -1, 8, 260, math.MinInt, math.MaxInt)
		}
		before := copyOf(l)
		got, result := contract.Do(l, e, n)
		want, told := done(l, e, n)
		if result != told || !same(got, want) {
			t.Fatalf("Do(%v, %v, %d) = %v, %d, want %v, %d", l, e, n, got, result, want, told)
		}
		if !same(l, before) {
			t.Fatalf("Do(%v, %v, %d) changed what was handed in", before, e, n)
		}
		if got := contract.Stale(l, e.Core); got != (result == api.ErrStale) {
			t.Fatalf("Stale(%v, %v) = %v", l, e.Core, got)
		}
		wantOnce(t, l, got, e, n, result)
		seen[result]++
	}
	for _, e := range []api.Errno{api.OK, api.ErrArg, api.ErrWho, api.ErrRange, api.ErrName, api.ErrForm, api.ErrPolicy, api.ErrState, api.ErrFull, api.ErrOver, api.ErrStale} {
		if seen[e] < 25 {
			t.Errorf("just %d entries came to %d", seen[e], e)
		}
	}
}

// wantOnce wants P14.2 of an entry that was done to l.
func wantOnce(t *testing.T, l, got api.Ledger, e api.Entry, n int, result api.Errno) {
	t.Helper()
	moved := !slices.Equal(got.Letters, l.Letters) || got.Total != l.Total
	x, _ := ledger.Find(l, e.Core.Letter)
	policy := x.Policy
	if e.Core.Op == api.OpApply {
		policy = e.Core.Text
	}
	if _, met := asked(policy, e.Mask, n); moved && (!met || result != api.OK) {
		t.Fatalf("%v changed %v to %v", e, l, got)
	}
	again, second := contract.Do(got, e, n)
	if !same(again, got) || second != result && second != api.ErrStale {
		t.Fatalf("%v done twice to %v: %v, %d", e, l, again, second)
	}
	kept := !same(got, l)
	if kept != (second == api.ErrStale && result != api.ErrStale) {
		t.Fatalf("%v done twice to %v: %d, then %d", e, l, result, second)
	}
	for _, y := range got.Letters {
		if old, ok := ledger.Find(l, y.Name); y.Name != e.Core.Letter && (!ok || !slices.Contains(l.Letters, y)) {
			t.Fatalf("%v changed %v to %v", e, old, y)
		}
	}
}

// likely is an entry that most often is let: a step that leads from where the letter is, endorsed by all.
func likely(r *rand.Rand, e api.Entry, x api.Letter) api.Entry {
	var ops []int
	for op := 1; op <= 9; op++ {
		if letter.Can(x.State, op) && (op < 8 || r.Intn(8) == 0) {
			ops = append(ops, op)
		}
	}
	if len(ops) > 0 {
		e.Core.Op = pick(r, ops...)
	}
	e.Core.A, e.Core.B, e.Mask = 1+r.Int63n(500), r.Int63n(500), 0b1111111
	return e
}

// P14.2: whatever is asked for, the steps of a letter and what is paid are just those that its policy let.
func TestWalks(t *testing.T) {
	r := rand.New(rand.NewSource(142))
	paid := 0
	for range 300 {
		n := 1 + r.Intn(mostN)
		l, total := api.Ledger{}, int64(0)
		for stamp := range int64(200) {
			e := someEntry(r, n)
			e.Core.Stamp = stamp/4 + r.Int63n(3)
			before, _ := ledger.Find(l, e.Core.Letter)
			if r.Intn(2) == 0 {
				e = likely(r, e, before)
			}
			next, result := contract.Do(l, e, n)
			after, _ := ledger.Find(next, e.Core.Letter)
			if result == api.OK && e.Core.Op == api.OpPay {
				total += before.Amount
				paid++
			}
			if result == api.OK && after.State != letter.Next(before.State, e.Core.Op) || result != api.OK && after != before {
				t.Fatalf("%v of %v: %v, %d", e, before, after, result)
			}
			if next.Total != total || ledger.Check(next) != api.OK || next.Seq != 0 {
				t.Fatalf("%v of %v: %v", e, l, next)
			}
			l = next
		}
	}
	if paid < 500 {
		t.Errorf("just %d were paid", paid)
	}
}

// P14.1: batches.

func TestFold(t *testing.T) {
	apply := api.Entry{Core: api.Core{Client: 4, Stamp: 1, Op: api.OpApply, Letter: "a", A: 5, B: 9, Text: "2of(0,1,2)"}, Mask: 0b111}
	step := func(client int, stamp int64, op int, mask uint32) api.Entry {
		return api.Entry{Core: api.Core{Client: client, Stamp: stamp, Op: op, Letter: "a"}, Mask: mask}
	}
	batch := []api.Entry{
		step(5, 1, api.OpIssue, 0b11), // not there yet
		apply,
		apply,
		step(5, 1, api.OpIssue, 0b11), // told already
		step(5, 2, api.OpIssue, 0b1),  // by too few
		step(3, 1, api.OpIssue, 0b11), // no client
		step(5, 3, api.OpIssue, 0b101),
		step(4, 9, api.OpPresent, 0b110),
		step(4, 8, api.OpAccept, 0b110), // late
		step(7, 1, api.OpAccept, 0b110),
		step(7, 2, api.OpPay, 0b110),
		step(7, 3, api.OpPay, 0b110), // twice
	}
	want := api.Ledger{
		Seq:     42,
		Total:   15,
		Letters: []api.Letter{{Name: "a", State: api.Paid, Amount: 5, Due: 9, Policy: "2of(0,1,2)"}},
		Last:    []api.Outcome{{Client: 4, Stamp: 9}, {Client: 5, Stamp: 3}, {Client: 7, Stamp: 3, Result: api.ErrState}},
	}
	wantResults := []api.Errno{api.ErrName, 0, api.ErrStale, api.ErrStale, api.ErrPolicy, api.ErrWho, 0, 0, api.ErrStale, 0, 0, api.ErrState}
	got, results := contract.Fold(api.Ledger{Seq: 41, Total: 10}, batch, 4)
	if !same(got, want) || !slices.Equal(results, wantResults) {
		t.Errorf("%v, %v, want %v, %v", got, results, want, wantResults)
	}
	// One by one, the ledger is the same but for the numbers.
	l := api.Ledger{Seq: 41, Total: 10}
	for i, e := range batch {
		next, one := contract.Fold(l, []api.Entry{e}, 4)
		if !slices.Equal(one, wantResults[i:i+1]) || next.Seq != l.Seq+1 {
			t.Errorf("entry %d: %v, %v", i, next, one)
		}
		l = next
	}
	l.Seq = want.Seq
	if !same(l, want) {
		t.Errorf("one by one: %v, want %v", l, want)
	}
}

func TestSeqOfFold(t *testing.T) {
	for seq, want := range map[int64]int64{
		0: 1, 1: 2, 41: 42, -1: 0, -2: -1, mostSeq - 1: mostSeq, mostSeq: mostSeq + 1, math.MaxInt64 - 1: math.MaxInt64,
		math.MaxInt64: math.MinInt64, math.MinInt64: math.MinInt64 + 1, math.MaxInt32: math.MaxInt32 + 1,
	} {
		for _, batch := range [][]api.Entry{nil, {}, {entryOf(api.OpIssue)}, {entryOf(api.OpIssue), entryOf(api.OpIssue), {}}} {
			for _, n := range []int{4, 0, -1, 8} {
				l := ledgerOf(1)
				l.Seq = seq
				got, results := contract.Fold(l, batch, n)
				if got.Seq != want || len(results) != len(batch) || got.Total != 1000 || len(got.Letters) != 3 {
					t.Errorf("%d of %d entries: %v, %v", seq, len(batch), got, results)
				}
			}
			// An entry alone leaves the number as it is.
			for _, e := range batch {
				l := ledgerOf(1)
				l.Seq = seq
				if got, _ := contract.Do(l, e, 4); got.Seq != seq {
					t.Errorf("%d behind an entry: %d", seq, got.Seq)
				}
			}
		}
	}
}

func TestFoldOfNothing(t *testing.T) {
	got, results := contract.Fold(ledgerOf(2), nil, 4)
	want := ledgerOf(2)
	want.Seq = 10
	if !same(got, want) || len(results) != 0 {
		t.Errorf("%v, %v", got, results)
	}
	if got, results = contract.Fold(api.Ledger{}, []api.Entry{}, 0); !same(got, api.Ledger{Seq: 1}) || len(results) != 0 {
		t.Errorf("%v, %v", got, results)
	}
}

func TestManyBatches(t *testing.T) {
	r := rand.New(rand.NewSource(141))
	for range 3000 {
		n := 1 + r.Intn(mostN)
		l := someLedger(r, n)
		var batch []api.Entry
		for range r.Intn(12) {
			batch = append(batch, someEntry(r, n))
			if r.Intn(4) == 0 {
				batch = append(batch, batch[r.Intn(len(batch))])
			}
		}
		want, before, kept := l, copyOf(l), slices.Clone(batch)
		var wantResults []api.Errno
		for _, e := range batch {
			next, result := done(want, e, n)
			want, wantResults = next, append(wantResults, result)
		}
		want.Seq++
		got, results := contract.Fold(l, batch, n)
		if !same(got, want) || !slices.Equal(results, wantResults) {
			t.Fatalf("Fold(%v, %v, %d) = %v, %v, want %v, %v", l, batch, n, got, results, want, wantResults)
		}
		if !same(l, before) || !slices.Equal(batch, kept) {
			t.Fatalf("Fold(%v, %v, %d) changed what was handed in", before, kept, n)
		}
		// What is done twice does nothing more: just the number goes on.
		again, _ := contract.Fold(got, batch, n)
		want.Seq++
		if !same(again, want) {
			t.Fatalf("Fold(%v, %v, %d) twice: %v, want %v", l, batch, n, again, want)
		}
	}
}

// P14.1: answers have memory of their own, and what is handed in stays.

// roomy is a ledger whose lists have room behind them.
func roomy(l api.Ledger) api.Ledger {
	l.Letters = append(make([]api.Letter, 0, len(l.Letters)+4), l.Letters...)
	l.Last = append(make([]api.Outcome, 0, len(l.Last)+4), l.Last...)
	return l
}

func scribble(l api.Ledger) {
	clear(l.Letters[:cap(l.Letters)])
	clear(l.Last[:cap(l.Last)])
}

// untouched tells whether nobody wrote behind the end of a ledger's lists.
func untouched(l api.Ledger) bool {
	letters, last := l.Letters[len(l.Letters):cap(l.Letters)], l.Last[len(l.Last):cap(l.Last)]
	return !slices.ContainsFunc(letters, func(x api.Letter) bool { return x != api.Letter{} }) && !slices.ContainsFunc(last, func(o api.Outcome) bool { return o != api.Outcome{} })
}

func TestMemory(t *testing.T) {
	old, wrong, few, next := entryOf(api.OpIssue), entryOf(api.OpIssue), entryOf(api.OpIssue), entryOf(api.OpApply)
	old.Core.Client, old.Core.Stamp = 4, 3
	wrong.Core.Op = 0
	few.Mask = 0
	next.Core.Letter = "c"
	paid := entryOf(api.OpPay)
	paid.Core.Letter = "b"
	known := entryOf(api.OpIssue)
	known.Core.Client, known.Core.Stamp = 4, 4
	calls := map[string]func(l api.Ledger) api.Ledger{}
	for name, e := range map[string]api.Entry{"stale": old, "one that may not be": wrong, "one by too few": few, "a new letter": next, "an old letter": entryOf(api.OpIssue), "what is paid": paid, "a client who is known": known} {
		calls[name] = func(l api.Ledger) api.Ledger {
			m, _ := contract.Do(l, e, 4)
			return m
		}
		calls[name+", in a batch"] = func(l api.Ledger) api.Ledger {
			m, _ := contract.Fold(l, []api.Entry{e}, 4)
			return m
		}
	}
	calls["no batch"] = func(l api.Ledger) api.Ledger {
		m, _ := contract.Fold(l, nil, 4)
		return m
	}
	for name, call := range calls {
		l := roomy(ledgerOf(1))
		got := call(l)
		want := copyOf(got)
		if !same(l, ledgerOf(1)) || !untouched(l) {
			t.Errorf("%s: what was handed in was changed: %v", name, l)
		}
		other := call(l)
		scribble(other)
		if !same(l, ledgerOf(1)) || !same(got, want) {
			t.Errorf("%s: what was handed in, or another answer, changed with the answer: %v", name, l)
		}
		scribble(l)
		if !same(got, want) {
			t.Errorf("%s: the answer changed with what was handed in: %v", name, got)
		}
	}
}

// P5: no arguments make a call panic.
func TestNoCallPanics(t *testing.T) {
	ints := []int{0, 1, 3, 4, 7, 8, 9, 10, -1, 32, 64, 255, 256, math.MaxInt, math.MaxInt - 3, math.MinInt}
	texts := []string{"", "a", "A", "\xff", "0", "all(0,1)", strings.Repeat("(", 300), strings.Repeat("all(", 50), strings.Repeat("9", 200)}
	ledgers := []api.Ledger{{}, ledgerOf(1), ledgerOf(math.MinInt), {Seq: math.MaxInt64, Total: math.MaxInt64, Letters: make([]api.Letter, 64), Last: make([]api.Outcome, 64)}}
	for _, l := range ledgers {
		for _, i := range ints {
			for _, j := range ints {
				for _, text := range texts {
					c := api.Core{Client: j, Stamp: int64(i), Op: j, Letter: text, A: int64(i), B: int64(j), Text: text}
					e := api.Entry{Core: c, Mask: uint32(i)}
					for _, op := range []int{j, 1, 7} {
						e.Core.Op = op
						contract.Stale(l, e.Core)
						contract.Do(l, e, i)
						contract.Fold(l, []api.Entry{e, {}, e}, j)
						e.Core.Client, e.Core.Letter = i, "a"
					}
				}
			}
		}
	}
}
