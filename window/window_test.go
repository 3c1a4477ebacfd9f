package window_test

import (
	"math"
	"math/rand"
	"runtime"
	"slices"
	"strconv"
	"testing"

	"bottomry/api"
	"bottomry/slot"
	"bottomry/window"
)

// The limits as the document tells them.
const (
	most = 8       // slots of a log
	last = 1 << 20 // the greatest number
)

// place is a number that has a slot.
type place struct {
	seq int64
	s   *slot.Slot
}

// list is a log as the chapter tells of it: the low water mark, and the slots that were asked for, in any order.
type list struct {
	low    int64
	places []place
}

// in goes through the numbers above the low water mark one by one.
func (l *list) in(seq int64) bool {
	for i := range most {
		if x := l.low + 1 + int64(i); x == seq && x <= last {
			return true
		}
	}
	return false
}

func (l *list) at(seq int64) *slot.Slot {
	for _, p := range l.places {
		if p.seq == seq {
			return p.s
		}
	}
	return nil
}

func (l *list) move(low int64) api.Errno {
	if low < l.low || low > last {
		return api.ErrMark
	}
	l.low = low
	var kept []place
	for _, p := range l.places {
		if p.seq > low {
			kept = append(kept, p)
		}
	}
	l.places = kept
	return api.OK
}

func (l *list) seqs() []int64 {
	var seqs []int64
	for _, p := range l.places {
		seqs = append(seqs, p.seq)
	}
	slices.Sort(seqs)
	return seqs
}

// edges are numbers around the water marks of a log, and far from them.
func edges(low int64) []int64 {
	out := []int64{math.MinInt64, math.MinInt64 + 1, math.MinInt64 + 8, -1 << 32, -last, math.MaxInt64 - 8, math.MaxInt64 - 1, math.MaxInt64, 1 << 32, 1<<32 + 1, 1 << 40, 2 * last}
	for _, x := range []int64{0, low - 8, low, low + 8, low + 256, low + 1<<32, last - 8, last, last + 8} {
		for by := int64(-3); by <= 3; by++ {
			out = append(out, x+by)
		}
	}
	return out
}

// agrees holds all that a log answers, but its slots that weren't asked for, against the second way.
func agrees(t *testing.T, x *window.Log, l *list) {
	t.Helper()
	if x.Low() != l.low {
		t.Fatal("Low:", x.Low(), l.low)
	}
	if seqs := x.Seqs(); !slices.Equal(seqs, l.seqs()) || len(seqs) > most {
		t.Fatal("Seqs:", seqs, l.seqs())
	}
	for _, seq := range edges(l.low) {
		if x.In(seq) != l.in(seq) {
			t.Fatal("In:", seq, l.low)
		}
		if l.in(seq) && l.at(seq) == nil {
			continue
		}
		s, e := x.At(seq)
		if l.in(seq) && (s != l.at(seq) || e != api.OK) || !l.in(seq) && (s != nil || e != api.ErrMark) {
			t.Fatal("At:", seq, s, e, l.low)
		}
	}
	if seqs := x.Seqs(); !slices.Equal(seqs, l.seqs()) {
		t.Fatal("Seqs, behind the others:", seqs, l.seqs())
	}
}

// asks asks for a slot, which is then the second way's too.
func asks(t *testing.T, x *window.Log, l *list, seq int64) {
	t.Helper()
	s, e := x.At(seq)
	if !l.in(seq) {
		if s != nil || e != api.ErrMark {
			t.Fatal("At beyond:", seq, s, e)
		}
		return
	}
	old := l.at(seq)
	if s == nil || e != api.OK || old != nil && s != old {
		t.Fatal("At:", seq, s, e, old)
	}
	if old != nil {
		return
	}
	if !empty(s) {
		t.Fatal("a new slot has something:", seq)
	}
	for _, p := range l.places {
		if p.s == s {
			t.Fatal("one slot for two numbers:", seq, p.seq)
		}
	}
	l.places = append(l.places, place{seq, s})
}

// empty tells whether a slot has nothing.
func empty(s *slot.Slot) bool {
	_, _, ok := s.Proposal()
	p, c := s.Votes()
	return !ok && p == 0 && c == 0
}

// P22.1: New, of each n around those that may be; a new log's marks are 0 and 8, and it has no slots.
func TestNew(t *testing.T) {
	for _, n := range []int{math.MinInt, -4, -1, 0, 8, 9, 260, 1<<32 + 4, math.MaxInt} {
		if window.New(n) != nil {
			t.Error("a log of", n)
		}
	}
	for n := 1; n <= 7; n++ {
		x := window.New(n)
		if x == nil {
			t.Fatal("no log of", n)
		}
		agrees(t, x, &list{})
	}
}

// P22.1: the chapter's example.
func TestExample(t *testing.T) {
	x := window.New(4)
	if !x.In(8) || x.In(9) || x.In(0) || !x.In(1) || x.In(-1) {
		t.Error("In")
	}
}

// P22.1: a log's slots are of its n replicas.
func TestSlotsOfN(t *testing.T) {
	for n := 1; n <= 7; n++ {
		x := window.New(n)
		for _, low := range []int64{0, 8, last - 3} {
			x.Move(low)
			for seq := low + 1; seq <= min(low+8, last); seq++ {
				s, _ := x.At(seq)
				for who := range n {
					if e := s.Commit(who, api.Digest{}); e != api.OK {
						t.Error(n, seq, who, e)
					}
				}
				if e := s.Prepare(n, api.Digest{}); e != api.ErrWho {
					t.Error(n, seq, e)
				}
			}
		}
	}
}

// P22.1: a slot is always the same: what it was told stays, whatever was asked between, till it goes; another number's is another one.
func TestAt(t *testing.T) {
	x := window.New(4)
	for seq := int64(8); seq >= 1; seq-- {
		s, e := x.At(seq)
		if e != api.OK || !empty(s) || s.Propose(api.Digest{byte(seq)}, nil) != api.OK {
			t.Error(seq, e)
		}
	}
	for range 2 {
		for seq := int64(1); seq <= 8; seq++ {
			s, e := x.At(seq)
			if d, _, ok := s.Proposal(); e != api.OK || !ok || d != (api.Digest{byte(seq)}) {
				t.Error(seq, e, ok, d)
			}
		}
		x.At(0)
		x.At(9)
		x.Move(-1)
		x.Move(last + 1)
		x.Move(0)
	}
}

// P22.1: what is refused has no slot, and makes none; nor does In.
func TestRefused(t *testing.T) {
	for _, low := range []int64{0, 1, 7, 8, 9, 1000, last - 9, last - 8, last - 7, last - 1, last} {
		x := window.New(4)
		if e := x.Move(low); e != api.OK {
			t.Error(low, e)
		}
		agrees(t, x, &list{low: low})
		for _, seq := range edges(low) {
			x.In(seq)
			if s, e := x.At(seq); seq <= low && (s != nil || e != api.ErrMark) {
				t.Error(low, seq, e)
			}
			if seq < low || seq > last {
				if e := x.Move(seq); e != api.ErrMark || x.Low() != low {
					t.Error(low, seq, e)
				}
			}
		}
		for _, seq := range x.Seqs() {
			if seq <= low || seq > low+8 || seq > last {
				t.Error(low, seq)
			}
		}
	}
}

// P22.1: how many numbers there are below MaxSeq.
func TestLast(t *testing.T) {
	for low := int64(last - 10); low <= last; low++ {
		x, many := window.New(4), 0
		x.Move(low)
		for seq := low - 3; seq < low+12; seq++ {
			if _, e := x.At(seq); e == api.OK {
				many++
			}
		}
		if many != int(min(8, last-low)) || len(x.Seqs()) != many {
			t.Error(low, many)
		}
	}
}

// P22.1: of all sets of slots, moved to each mark: those above stay, and are the same; those up to it go.
func TestMove(t *testing.T) {
	for set := range 1 << 8 {
		for from := int64(0); from <= 12; from += 6 {
			for to := from - 1; to <= from+10; to++ {
				x, l := window.New(4), &list{}
				x.Move(from)
				l.move(from)
				for i := range most {
					if set>>i&1 == 1 {
						asks(t, x, l, from+1+int64(i))
					}
				}
				agrees(t, x, l)
				if got, want := x.Move(to), l.move(to); got != want || got != api.OK && to >= from {
					t.Fatal(from, to, got, want)
				}
				agrees(t, x, l)
			}
		}
	}
}

// P22.1: cleared, of all sets of slots: the low water mark stays, and slots are made anew.
func TestClear(t *testing.T) {
	for set := range 1 << 8 {
		for _, low := range []int64{0, 3, last - 5} {
			x, l := window.New(4), &list{}
			x.Move(low)
			l.move(low)
			for i := range most {
				if set>>i&1 == 1 {
					asks(t, x, l, low+1+int64(i))
				}
			}
			old := l.places
			for _, p := range old {
				p.s.Commit(1, api.Digest{})
			}
			for range 2 {
				x.Clear()
				l.places = nil
				agrees(t, x, l)
			}
			for _, p := range old {
				asks(t, x, l, p.seq)
				if s, _ := x.At(p.seq); s == p.s || !empty(s) {
					t.Fatal("it wasn't let go:", p.seq)
				}
			}
			agrees(t, x, l)
		}
	}
}

// P22.1: Seqs rise, in whatever order the slots were asked for.
func TestSeqs(t *testing.T) {
	r := rand.New(rand.NewSource(22))
	for range 3000 {
		x, l := window.New(1+r.Intn(7)), &list{}
		low := int64(r.Intn(30))
		x.Move(low)
		l.move(low)
		for _, i := range r.Perm(most)[:r.Intn(most+1)] {
			asks(t, x, l, low+1+int64(i))
		}
		agrees(t, x, l)
	}
}

// P22.1, P22.2: calls at random, against a second way.
func TestWalks(t *testing.T) {
	r := rand.New(rand.NewSource(221))
	for range 1500 {
		x, l := window.New(1+r.Intn(7)), &list{}
		if r.Intn(3) == 0 {
			x.Move(last - 20)
			l.move(last - 20)
		}
		for range 60 {
			switch r.Intn(12) {
			case 0, 1:
				low := l.low + int64(r.Intn(12)) - 3
				if got, want := x.Move(low), l.move(low); got != want {
					t.Fatal("Move:", low, got, want)
				}
			case 2:
				low := edges(l.low)[r.Intn(len(edges(l.low)))]
				if low > l.low && low <= last && r.Intn(4) > 0 {
					continue // so that walks aren't at the last number at once
				}
				if got, want := x.Move(low), l.move(low); got != want {
					t.Fatal("Move:", low, got, want)
				}
			case 3:
				x.Clear()
				l.places = nil
			default:
				asks(t, x, l, l.low+int64(r.Intn(12))-2)
			}
			if s, e := x.At(l.low + int64(r.Intn(4)) - 3); s != nil || e != api.ErrMark {
				t.Fatal("At, up to the low water mark:", s, e)
			}
			agrees(t, x, l)
		}
	}
}

// P22.2: however many numbers are asked for, wherever the mark is moved, there are at most 8 slots, all within.
func TestAtMost(t *testing.T) {
	x := window.New(4)
	for low := int64(0); low <= 300; low++ {
		if low%3 == 0 {
			x.Move(low)
		}
		for _, seq := range append(edges(x.Low()), edges(low)...) {
			x.At(seq)
		}
		for seq := x.Low() - 4; seq < x.Low()+20; seq++ {
			x.At(seq)
		}
		seqs := x.Seqs()
		if len(seqs) != most || seqs[0] != x.Low()+1 || seqs[7] != x.Low()+8 {
			t.Fatal(x.Low(), seqs)
		}
	}
}

// P22.2: slots that are gone aren't kept: a log that is moved over all numbers, with a proposal of a kilobyte in each slot, has no more memory than at first.
func TestGone(t *testing.T) {
	x, text := window.New(4), make([]byte, 1024)
	used := func() uint64 {
		var m runtime.MemStats
		runtime.GC()
		runtime.ReadMemStats(&m)
		return m.HeapAlloc
	}
	before := used()
	for seq := int64(1); seq <= 30000; seq++ {
		s, e := x.At(seq)
		if e != api.OK {
			t.Fatal(seq, e)
		}
		s.Propose(api.Digest{}, []api.Entry{{Core: api.Core{Text: string(text) + strconv.FormatInt(seq, 10)}}})
		switch {
		case seq%2 == 1:
			x.Move(seq)
		case seq%4 == 0:
			x.Clear()
			x.Move(seq)
		}
	}
	if after := used(); after > before+4<<20 {
		t.Error("bytes that are kept:", after-before)
	}
	runtime.KeepAlive(x)
}

// P22.1: the rows that are answered are the caller's own, and two logs are two.
func TestMemory(t *testing.T) {
	x, y := window.New(4), window.New(4)
	x.At(2)
	x.At(5)
	a, b := x.Seqs(), x.Seqs()
	a[0], a[1] = 99, 98
	if !slices.Equal(b, []int64{2, 5}) || !slices.Equal(x.Seqs(), []int64{2, 5}) {
		t.Error("Seqs answers the log's memory:", b, x.Seqs())
	}
	if len(y.Seqs()) != 0 {
		t.Error("two logs share slots")
	}
	x.Move(3)
	x.Clear()
	if y.Low() != 0 || !slices.Equal(b, []int64{2, 5}) {
		t.Error("two logs share a mark")
	}
	s, _ := x.At(4)
	u, _ := y.At(4)
	if s == u {
		t.Error("two logs share a slot")
	}
}

// P22.1: a nil log, and one that New didn't make.
func TestNil(t *testing.T) {
	for _, x := range []*window.Log{nil, {}} {
		for range 2 {
			for _, seq := range edges(0) {
				if s, e := x.At(seq); s != nil || e != api.ErrArg || x.In(seq) {
					t.Error("it has a slot:", seq, e)
				}
				if x.Move(seq) != api.ErrArg {
					t.Error("it moves:", seq)
				}
			}
			x.Clear()
			if x.Low() != 0 || len(x.Seqs()) != 0 {
				t.Error("it has something")
			}
		}
	}
}
