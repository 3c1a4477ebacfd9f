package points_test

import (
	"math"
	"math/rand"
	"slices"
	"testing"

	"bottomry/api"
	"bottomry/points"
)

// P23.1: New, of each n and self around those that may be; new ones have nothing.
func TestNew(t *testing.T) {
	far := []int{math.MinInt, math.MaxInt, 1 << 32, 1<<32 + 1, 1<<32 + 4, 256, 257, 260, -256}
	for n := -3; n <= size+3; n++ {
		for self := -3; self <= size+3; self++ {
			p := points.New(n, self)
			if may := n >= 1 && n <= size && self >= 0 && self < n; may != (p != nil) {
				t.Fatal(n, self, p)
			}
			if p != nil {
				agrees(t, p, &list{n: n, self: self})
			}
		}
		for _, x := range far {
			if points.New(n, x) != nil || points.New(x, n) != nil {
				t.Error(n, x)
			}
		}
	}
	for _, x := range far {
		for _, y := range far {
			if points.New(x, y) != nil {
				t.Error(x, y)
			}
		}
	}
}

// P23.1: the chapter's example, of each self, by each two others.
func TestExample(t *testing.T) {
	for self := range 4 {
		for a := range 4 {
			for b := range a {
				if a == self || b == self {
					continue
				}
				p, x := points.New(4, self), point(4, 1)
				p.Own(4, x.Digest, nil)
				p.Vote(a, x)
				if _, ok := p.Stable(0); ok {
					t.Error("two of four:", self, a)
				}
				p.Vote(b, x)
				if y, ok := p.Stable(0); !ok || y != x {
					t.Error(self, a, b, y)
				}
				if y, ok := p.Stable(4); ok || y != (api.Point{}) {
					t.Error("above 4:", y)
				}
			}
		}
	}
}

// P23.1: rows of votes of one replica, of all numbers that there may be, each with another digest.
func TestVote(t *testing.T) {
	seqs := []int64{math.MinInt64, -4, 0, 4, 8, math.MaxInt64}
	const calls = 5
	for row := range 6 * 6 * 6 * 6 * 6 {
		p, l := points.New(4, 2), &list{n: 4, self: 2}
		left := row
		for i := range calls {
			x := point(seqs[left%6], byte(i))
			left /= 6
			if got, want := p.Vote(1, x), l.vote(1, x); got != want {
				t.Fatal(row, i, x, got, want)
			}
			if !slices.Equal(p.Votes(1), l.of(1)) {
				t.Fatal(row, i, p.Votes(1), l.of(1))
			}
		}
		agrees(t, p, l)
	}
}

// P23.1: who has three votes takes a fourth one only where it isn't below all of them, and lets the lowest one go; of a number that he has, the first vote counts.
func TestVoteFourth(t *testing.T) {
	p := points.New(4, 0)
	three := []api.Point{point(4, 1), point(8, 1), point(12, 1)}
	for _, x := range three {
		if !p.Vote(3, x) {
			t.Error(x)
		}
	}
	for _, seq := range []int64{4, 8, 12, 3, 0, -1, math.MinInt64} {
		if p.Vote(3, point(seq, 2)) || p.Vote(3, point(seq, 1)) || !slices.Equal(p.Votes(3), three) {
			t.Error(seq, p.Votes(3))
		}
	}
	if !p.Vote(3, point(5, 2)) || !slices.Equal(p.Votes(3), []api.Point{point(5, 2), point(8, 1), point(12, 1)}) {
		t.Error(p.Votes(3))
	}
	if !p.Vote(3, point(16, 2)) || !slices.Equal(p.Votes(3), []api.Point{point(8, 1), point(12, 1), point(16, 2)}) {
		t.Error(p.Votes(3))
	}
	// What was let go isn't known any more.
	if p.Support(point(4, 1)) != 0 || p.Support(point(5, 2)) != 0 || p.Vote(3, point(4, 1)) || !p.Vote(3, point(11, 1)) {
		t.Error(p.Votes(3))
	}
	// The others have votes of their own.
	if len(p.Votes(1)) != 0 || !p.Vote(1, point(4, 3)) || !slices.Equal(p.Votes(1), []api.Point{point(4, 3)}) || len(p.Votes(3)) != 3 {
		t.Error(p.Votes(1))
	}
}

// P23.1: nobody but the other replicas votes, and what is refused changes nothing.
func TestVoteWho(t *testing.T) {
	for n := 1; n <= size; n++ {
		for self := range n {
			p, l := points.New(n, self), &list{n: n, self: self}
			p.Own(4, api.Digest{1}, []byte("x"))
			l.own(4, api.Digest{1}, []byte("x"))
			for _, x := range []api.Point{point(8, 1), point(4, 1), point(4, 2), {}} {
				for _, who := range append(strangers(n), self) {
					if p.Vote(who, x) {
						t.Error(n, self, who)
					}
					if who != self && len(p.Votes(who)) != 0 {
						t.Error(n, self, who, p.Votes(who))
					}
				}
				agrees(t, p, l)
			}
			for who := range n {
				if x := point(8, 1); p.Vote(who, x) != l.vote(who, x) {
					t.Error(n, self, who)
				}
				agrees(t, p, l)
			}
		}
	}
}

// tells lets a replica vote for one of two points of a number (1, 2), or for none (0).
func tells(p *points.Points, l *list, who int, seq int64, word int) {
	x := point(seq, byte(word))
	switch {
	case word == 0:
	case who == l.self:
		p.Own(seq, x.Digest, []byte{byte(who)})
		l.own(seq, x.Digest, []byte{byte(who)})
	default:
		p.Vote(who, x)
		l.vote(who, x)
	}
}

// P23.1: of each n and self, all ways to vote for one of two points of a number, or for none.
func TestWords(t *testing.T) {
	ways := 1
	for n := 1; n <= size; n++ {
		ways *= 3
		for self := range n {
			for way := range ways {
				p, l := points.New(n, self), &list{n: n, self: self}
				left := way
				for who := range n {
					tells(p, l, who, 4, left%3)
					left /= 3
				}
				agrees(t, p, l)
			}
		}
	}
}

// P23.1: of four, all ways to do so of two numbers at once.
func TestTwoNumbers(t *testing.T) {
	for way := range 9 * 9 * 9 * 9 {
		p, l := points.New(4, way%4), &list{n: 4, self: way % 4}
		left := way
		for who := range 4 {
			tells(p, l, who, 8, left%3)
			tells(p, l, who, 4, left/3%3)
			left /= 9
		}
		agrees(t, p, l)
	}
}

// P23.1: how many it takes, of each n: 2f + 1 for a stable point, f + 1 for a weak one.
func TestEnough(t *testing.T) {
	for n := 1; n <= size; n++ {
		for self := range n {
			p, x := points.New(n, self), point(8, 7)
			p.Own(8, x.Digest, nil)
			many := 1
			for who := range n {
				_, stable := p.Stable(7)
				_, weak := p.Weak(7)
				if p.Support(x) != many || stable != (many >= 2*faults[n]+1) || weak != (many >= faults[n]+1) {
					t.Error(n, self, many, p.Support(x), stable, weak)
				}
				if p.Vote(who, x) {
					many++
				}
			}
			if many != n {
				t.Error(n, self, many)
			}
		}
	}
}

// P23.1: a stable point is an own one, whatever the others say; a weak one is anybody's.
func TestOwnAlone(t *testing.T) {
	p, x := points.New(4, 3), point(4, 1)
	for who := range 3 {
		p.Vote(who, x)
	}
	if _, ok := p.Stable(0); ok || p.Support(x) != 3 {
		t.Error("stable, but not an own one")
	}
	if y, ok := p.Weak(3); !ok || y != x {
		t.Error(y)
	}
	p.Own(4, api.Digest{2}, nil)
	if _, ok := p.Stable(0); ok || p.Support(x) != 3 {
		t.Error("stable, but the own one is another")
	}
	if y, ok := p.Weak(3); !ok || y != x {
		t.Error(y)
	}
	p.Own(4, api.Digest{1}, nil)
	if y, ok := p.Stable(0); !ok || y != x || p.Support(x) != 4 || p.Support(point(4, 2)) != 0 {
		t.Error(y)
	}
}

// P23.1: of several weak points of one number the one whose lowest voter is lowest, self too; a greater number counts more.
func TestWeakFirst(t *testing.T) {
	for self := range 4 {
		for first := range 4 {
			for second := range 4 {
				if second == first {
					continue
				}
				p, l := points.New(4, self), &list{n: 4, self: self}
				for who := 3; who >= 0; who-- {
					tells(p, l, who, 4, 1)
					word := 2
					if who == first || who == second {
						word = 1
					}
					tells(p, l, who, 8, word)
				}
				want := point(8, 2)
				if first == 0 || second == 0 {
					want = point(8, 1)
				}
				if x, ok := p.Weak(4); !ok || x != want {
					t.Error(self, first, second, x)
				}
				if x, ok := p.Weak(0); !ok || x != want {
					t.Error(self, first, second, x)
				}
				agrees(t, p, l)
			}
		}
	}
}

// P23.1: all sets of up to nine own points, told in any order, moved to each number around: those below go, votes stay.
func TestToldAndMove(t *testing.T) {
	r := rand.New(rand.NewSource(23))
	for set := range 1 << 9 {
		for low := int64(-1); low <= 9; low++ {
			p, l := points.New(4, 1), &list{n: 4, self: 1}
			for _, i := range r.Perm(9) {
				if set>>i&1 == 1 {
					tells(p, l, 1, int64(i), 1+i%2)
				}
			}
			for who := range 3 {
				tells(p, l, who, int64(r.Intn(9)), 1)
			}
			if !slices.Equal(p.Told(), l.told()) || len(p.Told()) > 4 {
				t.Fatal(set, p.Told(), l.told())
			}
			p.Move(low)
			l.move(low)
			agrees(t, p, l)
		}
	}
}

// P23.1: own points of any number, moved to the edges of all numbers.
func TestMoveFar(t *testing.T) {
	seqs := []int64{math.MinInt64, math.MinInt64 + 1, -1, 0, 1, 1 << 20, 1<<20 + 4, 1 << 32, math.MaxInt64 - 1, math.MaxInt64}
	for _, low := range seqs {
		p, l := points.New(2, 0), &list{n: 2, self: 0}
		for i, seq := range seqs {
			tells(p, l, 0, seq, 1+i%2)
			tells(p, l, 1, seq, 1)
			agrees(t, p, l)
		}
		p.Move(low)
		l.move(low)
		agrees(t, p, l)
		// Moving back brings nothing back.
		p.Move(math.MinInt64)
		agrees(t, p, l)
		tells(p, l, 0, math.MinInt64, 2)
		tells(p, l, 0, math.MaxInt64, 1)
		agrees(t, p, l)
	}
}

// P23.1: an own point instead of one of that number: its digest and its bytes; the others stay.
func TestOwn(t *testing.T) {
	p := points.New(4, 2)
	p.Own(4, api.Digest{1}, []byte("a"))
	p.Own(8, api.Digest{1}, []byte("b"))
	p.Own(4, api.Digest{2}, []byte("c"))
	if !slices.Equal(p.Votes(2), []api.Point{point(4, 2), point(8, 1)}) || !slices.Equal(p.Told(), p.Votes(2)) {
		t.Error(p.Votes(2))
	}
	if b, ok := p.Bytes(point(4, 1)); ok || len(b) != 0 || p.Support(point(4, 1)) != 0 {
		t.Error("the old one is there:", b)
	}
	if b, ok := p.Bytes(point(4, 2)); !ok || string(b) != "c" || p.Support(point(4, 2)) != 1 {
		t.Error(b)
	}
	p.Own(4, api.Digest{2}, nil)
	if b, ok := p.Bytes(point(4, 2)); !ok || len(b) != 0 {
		t.Error(b)
	}
	if b, ok := p.Bytes(point(8, 1)); !ok || string(b) != "b" {
		t.Error(b)
	}
}

// P23.1: bytes are an own point's, of just that number and digest; a vote has none.
func TestBytes(t *testing.T) {
	p := points.New(4, 0)
	d := api.Digest{1, 31: 9}
	p.Own(4, d, []byte("bytes"))
	p.Vote(1, point(8, 1))
	p.Vote(1, api.Point{Seq: 4, Digest: d})
	if b, ok := p.Bytes(api.Point{Seq: 4, Digest: d}); !ok || string(b) != "bytes" {
		t.Error(b, ok)
	}
	for i := range d {
		other := d
		other[i] ^= 1 << (i % 8)
		if b, ok := p.Bytes(api.Point{Seq: 4, Digest: other}); ok || len(b) != 0 || p.Support(api.Point{Seq: 4, Digest: other}) != 0 {
			t.Error(i, b)
		}
	}
	for _, x := range []api.Point{{}, point(8, 1), {Seq: 3, Digest: d}, {Seq: 5, Digest: d}, {Seq: -4, Digest: d}, {Seq: 4 + 1<<32, Digest: d}, {Seq: 4}} {
		if b, ok := p.Bytes(x); ok || len(b) != 0 {
			t.Error(x, b)
		}
	}
}

// P23.1: the point of noughts is a point as others are.
func TestNought(t *testing.T) {
	p := points.New(4, 1)
	if b, ok := p.Bytes(api.Point{}); ok || b != nil || p.Support(api.Point{}) != 0 {
		t.Error("it is there:", b)
	}
	p.Own(0, api.Digest{}, []byte("x"))
	p.Vote(0, api.Point{})
	p.Vote(2, api.Point{})
	if b, ok := p.Bytes(api.Point{}); !ok || string(b) != "x" || p.Support(api.Point{}) != 3 {
		t.Error(b)
	}
	if x, ok := p.Stable(-1); !ok || x != (api.Point{}) {
		t.Error(x, ok)
	}
	if x, ok := p.Weak(-1); !ok || x != (api.Point{}) {
		t.Error(x, ok)
	}
	if _, ok := p.Weak(0); ok {
		t.Error("0 isn't above 0")
	}
}

// P23.1: calls at random, against the second way.
func TestWalks(t *testing.T) {
	r := rand.New(rand.NewSource(231))
	for range 4000 {
		n := 1 + r.Intn(size)
		self, span := r.Intn(n), 1+r.Intn(12)
		p, l := points.New(n, self), &list{n: n, self: self}
		for range 40 {
			x := point(int64(r.Intn(span)), byte(r.Intn(1+r.Intn(3))))
			switch r.Intn(12) {
			case 0:
				low := x.Seq - int64(r.Intn(4))
				p.Move(low)
				l.move(low)
			case 1, 2, 3:
				b := make([]byte, r.Intn(3))
				r.Read(b)
				p.Own(x.Seq, x.Digest, b)
				l.own(x.Seq, x.Digest, b)
			default:
				who := r.Intn(n+2) - 1
				if got, want := p.Vote(who, x), l.vote(who, x); got != want {
					t.Fatal("Vote:", who, x, got, want, l)
				}
			}
		}
		agrees(t, p, l)
	}
}
