package points_test

import (
	"math"
	"slices"
	"testing"

	"bottomry/api"
	"bottomry/points"
)

// The limits as the document tells them.
const (
	size  = 7 // replicas
	votes = 3 // of each other replica
)

// faults are f of each n.
var faults = [size + 1]int{0, 0, 0, 0, 1, 1, 1, 2}

// mark is who votes for what; of self, what it stands for.
type mark struct {
	who int
	x   api.Point
	b   []byte
}

// list are checkpoints as the chapter tells of them: marks, in any order.
type list struct {
	n, self int
	marks   []mark
}

func (l *list) own(seq int64, d api.Digest, b []byte) {
	l.marks = slices.DeleteFunc(l.marks, func(m mark) bool { return m.who == l.self && m.x.Seq == seq })
	l.marks = append(l.marks, mark{l.self, api.Point{Seq: seq, Digest: d}, append([]byte{}, b...)})
}

func (l *list) vote(who int, x api.Point) bool {
	if who == l.self || who < 0 || who > l.n-1 {
		return false
	}
	greater, lowest, many := 0, -1, 1
	for i, m := range l.marks {
		if m.who != who {
			continue
		}
		if m.x.Seq == x.Seq {
			return false
		}
		if m.x.Seq > x.Seq {
			greater++
		}
		if lowest < 0 || m.x.Seq < l.marks[lowest].x.Seq {
			lowest = i
		}
		many++
	}
	if greater == votes {
		return false
	}
	if many > votes {
		l.marks = slices.Delete(l.marks, lowest, lowest+1)
	}
	l.marks = append(l.marks, mark{who: who, x: x})
	return true
}

// voters are those who vote for just that, rising.
func (l *list) voters(x api.Point) []int {
	var whos []int
	for _, m := range l.marks {
		if m.x == x {
			whos = append(whos, m.who)
		}
	}
	slices.Sort(whos)
	return whos
}

func (l *list) stable(above int64) (api.Point, bool) {
	var own []api.Point
	for _, x := range l.of(l.self) {
		if x.Seq > above && len(l.voters(x)) >= 2*faults[l.n]+1 {
			own = append(own, x)
		}
	}
	if len(own) == 0 {
		return api.Point{}, false
	}
	return own[len(own)-1], true
}

func (l *list) weak(above int64) (api.Point, bool) {
	var best mark
	found := false
	for _, m := range l.marks {
		whos := l.voters(m.x)
		if m.x.Seq <= above || len(whos) < faults[l.n]+1 {
			continue
		}
		if !found || m.x.Seq > best.x.Seq || m.x.Seq == best.x.Seq && whos[0] < best.who {
			best, found = mark{who: whos[0], x: m.x}, true
		}
	}
	return best.x, found
}

func (l *list) move(low int64) {
	var marks []mark
	for _, m := range l.marks {
		if m.who != l.self || m.x.Seq >= low {
			marks = append(marks, m)
		}
	}
	l.marks = marks
}

// told goes through the own points, and leaves out those that have one below and three above.
func (l *list) told() []api.Point {
	var out []api.Point
	own := l.of(l.self)
	for i, x := range own {
		if i == 0 || len(own)-i <= 3 {
			out = append(out, x)
		}
	}
	return out
}

func (l *list) bytes(x api.Point) (string, bool) {
	for _, m := range l.marks {
		if m.who == l.self && m.x == x {
			return string(m.b), true
		}
	}
	return "", false
}

func (l *list) of(who int) []api.Point {
	var out []api.Point
	for _, m := range l.marks {
		if m.who == who {
			out = append(out, m.x)
		}
	}
	slices.SortFunc(out, func(a, b api.Point) int {
		switch {
		case a.Seq < b.Seq:
			return -1
		case a.Seq > b.Seq:
			return 1
		}
		return 0
	})
	return out
}

// point is one of a number, with a digest of that first byte.
func point(seq int64, d byte) api.Point {
	return api.Point{Seq: seq, Digest: api.Digest{d}}
}

// strangers are numbers that no replica has, for any n.
func strangers(n int) []int {
	return []int{n, n + 1, n + 256, n - 1 + 1<<32, -1, -n, math.MinInt, math.MaxInt}
}

// agrees holds all that is answered against the second way: of all replicas, of the points that somebody votes for, and of those like them, above all numbers around.
func agrees(t *testing.T, p *points.Points, l *list) {
	t.Helper()
	for who := -1; who <= l.n; who++ {
		if got, want := p.Votes(who), l.of(who); !slices.Equal(got, want) {
			t.Fatal("Votes:", who, got, want, l)
		}
	}
	if got, want := p.Told(), l.told(); !slices.Equal(got, want) {
		t.Fatal("Told:", got, want, l)
	}
	aboves := map[int64]bool{math.MinInt64: true, math.MinInt64 + 1: true, -1: true, 0: true, math.MaxInt64 - 1: true, math.MaxInt64: true}
	asked := map[api.Point]bool{{}: true, point(4, 1): true}
	for _, m := range l.marks {
		aboves[m.x.Seq-1], aboves[m.x.Seq], aboves[m.x.Seq+1] = true, true, true
		other := m.x
		other.Digest[31] ^= 1
		asked[m.x], asked[other], asked[api.Point{Seq: m.x.Seq + 1, Digest: m.x.Digest}] = true, true, true
	}
	for above := range aboves {
		got, ok := p.Stable(above)
		if want, is := l.stable(above); got != want || ok != is {
			t.Fatal("Stable:", above, got, ok, want, is, l)
		}
		got, ok = p.Weak(above)
		if want, is := l.weak(above); got != want || ok != is {
			t.Fatal("Weak:", above, got, ok, want, is, l)
		}
	}
	for x := range asked {
		if got, want := p.Support(x), len(l.voters(x)); got != want {
			t.Fatal("Support:", x, got, want, l)
		}
		b, ok := p.Bytes(x)
		if want, is := l.bytes(x); string(b) != want || ok != is {
			t.Fatal("Bytes:", x, b, ok, want, is, l)
		}
	}
}
