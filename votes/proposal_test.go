package votes_test

import (
	"encoding/binary"
	"math"
	"math/rand"
	"slices"
	"strings"
	"testing"

	"bottomry/api"
	"bottomry/batch"
	"bottomry/votes"
)

// entryOf is an entry that may be, of n replicas, of the client next in row behind that many others.
func entryOf(n, behind int) api.Entry {
	c := api.Core{Client: n + behind, Stamp: int64(7 + behind), Op: 2, Letter: "a-1", A: 5, B: -30, Text: "2of(0,1,2)"}
	return api.Entry{Core: c, Mask: 1}
}

// batchOf is a batch that may be, of n replicas, of the clients in a set (a bit each).
func batchOf(n, set int) []api.Entry {
	var b []api.Entry
	for i := range mostClients {
		if set>>i&1 == 1 {
			b = append(b, entryOf(n, i))
		}
	}
	return b
}

// wrongBatch has the form of one, but may not be.
type wrongBatch struct {
	batch []api.Entry
	want  api.Errno
}

func wrongBatches(n int) map[string]wrongBatch {
	all := map[string]wrongBatch{
		"many":    {slices.Repeat(batchOf(n, 1), 5), api.ErrMany},
		"nothing": {make([]api.Entry, 1), api.ErrWho},
		"twice":   {slices.Repeat(batchOf(n, 1), 2), api.ErrTwice},
		"falling": {[]api.Entry{entryOf(n, 1), entryOf(n, 0)}, api.ErrTwice},
	}
	add := func(name string, want api.Errno, change func(x *api.Entry)) {
		b := batchOf(n, 0b1111)
		change(&b[3])
		all[name] = wrongBatch{b, want}
	}
	add("replica", api.ErrWho, func(x *api.Entry) { x.Core.Client = n - 1 })
	add("Client beyond", api.ErrWho, func(x *api.Entry) { x.Core.Client = n + mostClients })
	add("Stamp 0", api.ErrRange, func(x *api.Entry) { x.Core.Stamp = 0 })
	add("Stamp beyond", api.ErrRange, func(x *api.Entry) { x.Core.Stamp = mostStamp + 1 })
	add("Op 10", api.ErrRange, func(x *api.Entry) { x.Core.Op = 10 })
	add("no name", api.ErrName, func(x *api.Entry) { x.Core.Letter = "" })
	add("long name", api.ErrName, func(x *api.Entry) { x.Core.Letter = strings.Repeat("a", 17) })
	add("text of 201", api.ErrLong, func(x *api.Entry) { x.Core.Text = strings.Repeat("t", 201) })
	add("text far too long", api.ErrLong, func(x *api.Entry) { x.Core.Text = strings.Repeat("t", 1<<13) })
	add("Mask", api.ErrRange, func(x *api.Entry) { x.Mask = 1 << n })
	return all
}

func isNothing(p api.Proposal) bool {
	return p.View == 0 && p.Seq == 0 && len(p.Batch) == 0
}

func alike(a, b api.Proposal) bool {
	return a.View == b.View && a.Seq == b.Seq && slices.Equal(a.Batch, b.Batch)
}

// proposalBody writes a proposal's body a second way.
func proposalBody(p api.Proposal) []byte {
	return bodyAround(p.View, p.Seq, batch.Bytes(p.Batch))
}

// bodyAround is a body whose row is whatever it is.
func bodyAround(view, seq int64, row []byte) []byte {
	b := binary.BigEndian.AppendUint32(put(put(nil, view), seq), uint32(len(row)))
	return append(b, row...)
}

// proposalIn reads one a second way, by places, but for the batch.
func proposalIn(b []byte, n int) (api.Proposal, api.Errno) {
	if n < 1 || n > mostN {
		return api.Proposal{}, api.ErrArg
	}
	if len(b) < 20 || int64(binary.BigEndian.Uint32(b[16:])) != int64(len(b)-20) {
		return api.Proposal{}, api.ErrForm
	}
	l, e := batch.Parse(b[20:], n)
	switch {
	case e == api.ErrForm:
		return api.Proposal{}, api.ErrForm
	case !mayView(at(b, 0)) || !maySeq(at(b, 8)):
		return api.Proposal{}, api.ErrRange
	case e != api.OK:
		return api.Proposal{}, e
	}
	return api.Proposal{View: at(b, 0), Seq: at(b, 8), Batch: l}, api.OK
}

func sameProposal(t *testing.T, b []byte, n int) {
	t.Helper()
	want, wrong := proposalIn(b, n)
	if got, e := votes.ParseProposal(b, n); e != wrong || !alike(got, want) {
		t.Fatalf("of %d: %.200x: %v, %d, want %v, %d", n, b, got, e, want, wrong)
	}
}

// wantProposal holds ParseProposal against what it should tell; beside an error there is none.
func wantProposal(t *testing.T, name string, b []byte, n int, want api.Errno) {
	t.Helper()
	p, e := votes.ParseProposal(b, n)
	if e != want || e != api.OK && !isNothing(p) {
		t.Errorf("of %d: %s: %v, %d, want %d", n, name, p, e, want)
	}
}

// P17.1: a proposal's body.

func TestProposalBodies(t *testing.T) {
	none := strings.Repeat("\x00", 8)
	row := "\x00\x00\x00\x23" + "\x04" + "\x00\x00\x00\x00\x00\x00\x00\x01" + "\x02" + "\x00\x00\x00\x01a" + none + none + "\x00\x00\x00\x00"
	for name, x := range map[string]struct {
		proposal api.Proposal
		want     string
	}{
		"nothing": {api.Proposal{}, none + none + "\x00\x00\x00\x02\x00\x00"},
		"empty":   {api.Proposal{View: 1, Seq: 258, Batch: []api.Entry{}}, "\x00\x00\x00\x00\x00\x00\x00\x01" + "\x00\x00\x00\x00\x00\x00\x01\x02" + "\x00\x00\x00\x02\x00\x00"},
		"one":     {api.Proposal{Batch: []api.Entry{{Core: api.Core{Client: 4, Stamp: 1, Op: 2, Letter: "a"}, Mask: 3}}}, none + none + "\x00\x00\x00\x2a\x00\x01" + row + "\x03"},
		"round":   {api.Proposal{View: -1, Seq: 0x0102030405060708}, strings.Repeat("\xff", 8) + "\x01\x02\x03\x04\x05\x06\x07\x08" + "\x00\x00\x00\x02\x00\x00"},
	} {
		if b := votes.Proposal(x.proposal); string(b) != x.want {
			t.Errorf("%s: %x, want %x", name, b, x.want)
		}
	}
	for n := 1; n <= mostN; n++ {
		for name, x := range wrongBatches(n) {
			for _, view := range around(mostView) {
				p := api.Proposal{View: view, Seq: -view, Batch: x.batch}
				if !slices.Equal(votes.Proposal(p), proposalBody(p)) {
					t.Errorf("%s: the view %d", name, view)
				}
			}
		}
	}
	for _, many := range []int{255, 256, 65535, 65536, 65538} {
		p := api.Proposal{View: 1, Seq: 2, Batch: make([]api.Entry, many)}
		if !slices.Equal(votes.Proposal(p), proposalBody(p)) {
			t.Errorf("%d entries", many)
		}
	}
}

// P17.1, P17.2: what may be is parsed as it was, at the edges.

func TestProposalsAreParsedAsTheyWere(t *testing.T) {
	for n := 1; n <= mostN; n++ {
		for set := range 1 << mostClients {
			for _, view := range []int64{0, 1, 256, mostView - 1, mostView} {
				for _, seq := range []int64{0, 1, 258, mostSeq - 1, mostSeq} {
					p := api.Proposal{View: view, Seq: seq, Batch: batchOf(n, set)}
					for i := range p.Batch {
						p.Batch[i].Mask = uint32(set+i) % (1 << n)
						p.Batch[i].Core.Text = strings.Repeat("\xff", 200)
						p.Batch[i].Core.A, p.Batch[i].Core.B = math.MinInt64, seq
					}
					if got, e := votes.ParseProposal(votes.Proposal(p), n); e != api.OK || !alike(got, p) {
						t.Fatalf("of %d: %v: %v, %d", n, p, got, e)
					}
				}
			}
		}
	}
}

// P17.1: ErrRange, as of a vote, ahead of what is wrong with a batch that has its form.
func TestParseProposalAtTheEdges(t *testing.T) {
	for n := 1; n <= mostN; n++ {
		wrong := wrongBatches(n)
		wrong["none"] = wrongBatch{nil, api.OK}
		wrong["fine"] = wrongBatch{batchOf(n, 0b1111), api.OK}
		for name, x := range wrong {
			for _, view := range around(mostView) {
				for _, seq := range []int64{0, mostSeq, mostSeq + 1, -1, math.MinInt64, 1<<32 + 1} {
					want := x.want
					if !mayView(view) || !maySeq(seq) {
						want = api.ErrRange
					}
					wantProposal(t, name, votes.Proposal(api.Proposal{View: view, Seq: seq, Batch: x.batch}), n, want)
				}
			}
		}
	}
}

// P17.1: ErrForm, wherever the form is broken, ahead of all but ErrArg: of the numbers, and of what else is wrong with the batch.
func TestParseProposalOfNoForm(t *testing.T) {
	batches := [][]api.Entry{nil, batchOf(4, 0b1), batchOf(4, 0b1111)}
	for _, x := range wrongBatches(4) {
		if len(batch.Bytes(x.batch)) < 1<<12 {
			batches = append(batches, x.batch)
		}
	}
	for _, l := range batches {
		for _, view := range []int64{0, -1, mostView + 1} {
			b, row := votes.Proposal(api.Proposal{View: view, Seq: 2, Batch: l}), batch.Bytes(l)
			for n := range b {
				wantProposal(t, "cut", b[:n], 4, api.ErrForm)
			}
			for _, more := range []string{"\x00", "\x00\x00", "x", string(row), string(b)} {
				wantProposal(t, "with more", append(slices.Clone(b), more...), 4, api.ErrForm)
				wantProposal(t, "a row with more", bodyAround(view, 2, append(slices.Clone(row), more...)), 4, api.ErrForm)
			}
			for n := range row {
				wantProposal(t, "a row cut", bodyAround(view, 2, row[:n]), 4, api.ErrForm)
			}
			for _, long := range []uint32{0, 1, uint32(len(row)) - 1, uint32(len(row)) + 1, 1 << 20, 1<<31 - 1, 1 << 31, math.MaxUint32} {
				told := slices.Clone(b)
				binary.BigEndian.PutUint32(told[16:], long)
				wantProposal(t, "another length", told, 4, api.ErrForm)
			}
		}
	}
	for _, b := range []string{"", "x", strings.Repeat("\xff", 20), strings.Repeat("\x00", 20), strings.Repeat("\x00", 21), strings.Repeat("\x00", 48), "\x00\x00"} {
		wantProposal(t, "no body", []byte(b), 4, api.ErrForm)
	}
	wantProposal(t, "nothing", nil, 4, api.ErrForm)
}

// Rows of as many entries as a count can tell: their form is asked for ahead of how many they are.
func TestParseProposalOfVeryMany(t *testing.T) {
	for _, many := range []int{5, 255, 256, 65535} {
		wantProposal(t, "many", votes.Proposal(api.Proposal{Batch: make([]api.Entry, many)}), 4, api.ErrMany)
		wantProposal(t, "many, of no view", votes.Proposal(api.Proposal{View: -1, Batch: make([]api.Entry, many)}), 4, api.ErrRange)
	}
	wantProposal(t, "round", votes.Proposal(api.Proposal{Batch: make([]api.Entry, 65537)}), 4, api.ErrForm)
}

// A row has no limit but the bytes there are: of a batch that is longer than any message what is wrong is told all the same.
func TestParseProposalOfALongRow(t *testing.T) {
	l := batchOf(4, 0b11)
	l[1].Core.Text = strings.Repeat("t", 1<<21)
	wantProposal(t, "long", votes.Proposal(api.Proposal{Batch: l}), 4, api.ErrLong)
	l[0].Mask = 1 << 4
	wantProposal(t, "long, behind a mask", votes.Proposal(api.Proposal{Batch: l}), 4, api.ErrRange)
}

// What may be of n replicas may not be of others, of which the clients are others.
func TestParseProposalOfOtherSizes(t *testing.T) {
	for n := 1; n <= mostN; n++ {
		b := votes.Proposal(api.Proposal{View: 1, Seq: 1, Batch: batchOf(n, 0b1111)})
		for other := 1; other <= mostN; other++ {
			want := api.ErrWho
			if other == n {
				want = api.OK
			}
			wantProposal(t, "all clients", b, other, want)
		}
	}
}

// P17.1: each byte changed to each other one, against the second way.
func TestParseProposalOfEachByteChanged(t *testing.T) {
	for _, n := range []int{1, 4, 7} {
		for _, p := range []api.Proposal{{}, {View: mostView, Seq: mostSeq, Batch: batchOf(n, 0b101)}, {View: 3, Seq: 5, Batch: batchOf(n, 0b1)}} {
			b := votes.Proposal(p)
			for i := range b {
				was := b[i]
				for x := range 256 {
					b[i] = byte(x)
					sameProposal(t, b, n)
				}
				b[i] = was
			}
		}
	}
}

// P17.1, P17.2: thousands of proposals, those that may not be as well, and some of them spoilt.
func TestManyProposals(t *testing.T) {
	r := rand.New(rand.NewSource(1717))
	fine := 0
	for range 20000 {
		n := 1 + r.Intn(mostN)
		p := api.Proposal{View: number(r, mostView), Seq: number(r, mostSeq), Batch: batchOf(n, r.Intn(1<<mostClients))}
		for i := range p.Batch {
			p.Batch[i].Core.Stamp = number(r, mostStamp)
			p.Batch[i].Mask = uint32(r.Intn(1 << n))
		}
		b := votes.Proposal(p)
		if !slices.Equal(b, proposalBody(p)) {
			t.Fatalf("%v has the body %x", p, b)
		}
		if mayView(p.View) && maySeq(p.Seq) && batch.Check(p.Batch, n) == api.OK {
			fine++
			if got, e := votes.ParseProposal(b, n); e != api.OK || !alike(got, p) {
				t.Fatalf("of %d: %v: %v, %d", n, p, got, e)
			}
		}
		sameProposal(t, b, n)
		sameProposal(t, b, n+r.Intn(5)-2)
		sameProposal(t, spoilt(r, b), n)
	}
	if fine < 3000 {
		t.Errorf("just %d may be", fine)
	}
}

// P17.1: what is handed in stays, and answers are memory of their own.
func TestMemoryOfProposals(t *testing.T) {
	l := batchOf(4, 0b1011)
	wide := append(make([]api.Entry, 0, 9), l...)
	b := votes.Proposal(api.Proposal{View: 1, Seq: 2, Batch: wide})
	if !slices.Equal(wide, l) || !slices.Equal(wide[:9][3:], make([]api.Entry, 6)) {
		t.Errorf("the batch was changed: %v", wide[:9])
	}
	whole := append(make([]byte, 0, 2000), b...)
	got, _ := votes.ParseProposal(whole, 4)
	if !slices.Equal(whole, b) || slices.Max(whole[:2000][len(b):]) != 0 {
		t.Error("the bytes were changed")
	}
	clear(whole)
	if !alike(got, api.Proposal{View: 1, Seq: 2, Batch: l}) {
		t.Errorf("the proposal changed with the bytes: %v", got)
	}
	first, _ := votes.ParseProposal(b, 4)
	second, _ := votes.ParseProposal(b, 4)
	clear(first.Batch[:cap(first.Batch)])
	if !slices.Equal(second.Batch, l) {
		t.Error("a batch is shared")
	}
	one, other := votes.Proposal(second), votes.Proposal(second)
	clear(one[:cap(one)])
	if !slices.Equal(other, b) {
		t.Error("a body is shared")
	}
}

// P5: no bytes make a call panic; what is parsed has just these bytes.
func FuzzParse(f *testing.F) {
	f.Add(votes.Vote(someVote()), 4)
	f.Add(votes.Vouching(someVouching(7)), 7)
	f.Add(votes.Reply(someReply(1)), 1)
	f.Add(votes.Proposal(api.Proposal{View: 1, Seq: 2, Batch: batchOf(4, 0b1011)}), 4)
	f.Add(slices.Repeat([]byte{0xff}, 48), -1)
	f.Fuzz(func(t *testing.T, b []byte, n int) {
		sameAll(t, b, n)
		if v, e := votes.ParseVote(b); e == api.OK && !slices.Equal(votes.Vote(v), b) {
			t.Errorf("%x is read as %v", b, v)
		}
		if v, e := votes.ParseVouching(b, n); e == api.OK && !slices.Equal(votes.Vouching(v), b) {
			t.Errorf("%x is read as %v", b, v)
		}
		if p, e := votes.ParseProposal(b, n); e == api.OK && !slices.Equal(votes.Proposal(p), b) {
			t.Errorf("%x is read as %v", b, p)
		}
		if r, e := votes.ParseReply(b, n); e == api.OK && !slices.Equal(votes.Reply(r), b) {
			t.Errorf("%x is read as %v", b, r)
		}
	})
}
