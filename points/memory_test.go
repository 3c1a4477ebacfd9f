package points_test

import (
	"math"
	"runtime"
	"slices"
	"testing"

	"bottomry/api"
	"bottomry/points"
)

// P23.1: the bytes that are handed in aren't kept, and all that is answered is the caller's own.
func TestMemory(t *testing.T) {
	p, q := points.New(4, 0), points.New(4, 0)
	b := []byte("abc")
	p.Own(4, api.Digest{1}, b)
	b[0] = 'x'
	x := point(4, 1)
	c, _ := p.Bytes(x)
	if string(c) != "abc" {
		t.Error("what was handed in is kept:", c)
	}
	c[0] = 'y'
	if d, _ := p.Bytes(x); string(d) != "abc" || string(b) != "xbc" {
		t.Error("Bytes answers what is kept:", d)
	}
	for seq := int64(8); seq <= 24; seq += 4 {
		p.Own(seq, api.Digest{1}, b)
		p.Vote(1, point(seq, 1))
	}
	own := []api.Point{x, point(8, 1), point(12, 1), point(16, 1), point(20, 1), point(24, 1)}
	for _, f := range []func() []api.Point{p.Told, func() []api.Point { return p.Votes(0) }, func() []api.Point { return p.Votes(1) }} {
		l := f()
		kept := slices.Clone(l)
		for i := range l {
			l[i] = api.Point{}
		}
		if !slices.Equal(f(), kept) || !slices.Equal(p.Votes(0), own) {
			t.Error("what is kept is answered:", f(), kept)
		}
	}
	l := p.Votes(1)
	if l = append(l, x); !p.Vote(1, point(28, 1)) || !slices.Equal(l, []api.Point{point(16, 1), point(20, 1), point(24, 1), x}) {
		t.Error("a vote changes what was answered:", l)
	}
	if len(q.Votes(0)) != 0 || len(q.Votes(1)) != 0 || q.Support(x) != 0 {
		t.Error("two share points")
	}
}

// used is how much memory is kept.
func used() uint64 {
	var m runtime.MemStats
	runtime.GC()
	runtime.ReadMemStats(&m)
	return m.HeapAlloc
}

// P23.1: what is gone isn't kept: own points of a kilobyte that are moved over, and votes that others tell without end.
func TestGone(t *testing.T) {
	p, text := points.New(4, 0), make([]byte, 1024)
	before := used()
	for seq := int64(1); seq <= 50000; seq++ {
		p.Own(seq, api.Digest{}, text)
		p.Own(seq, api.Digest{1}, text)
		p.Move(seq - 2)
		for who := 1; who <= 4; who++ {
			p.Vote(who, point(seq, 1))
			p.Vote(who, point(-seq, 1))
		}
	}
	if after := used(); after > before+4<<20 {
		t.Error("bytes that are kept:", after-before)
	}
	if len(p.Votes(0)) != 3 || len(p.Votes(1)) != 3 {
		t.Error(p.Votes(0), p.Votes(1))
	}
	runtime.KeepAlive(p)
}

// P23.1: there may be thousands of own points; all but four aren't told.
func TestMany(t *testing.T) {
	const many = 20000
	p := points.New(4, 3)
	for seq := int64(many); seq >= 1; seq-- {
		p.Own(seq, api.Digest{byte(seq)}, []byte{1})
	}
	want := []api.Point{point(1, 1), point(many-2, byte((many-2)%256)), point(many-1, byte((many-1)%256)), point(many, byte(many%256))}
	if !slices.Equal(p.Told(), want) || len(p.Votes(3)) != many {
		t.Error(p.Told())
	}
	if p.Vote(0, want[1]); !p.Vote(1, want[1]) {
		t.Error("a vote")
	}
	if x, ok := p.Stable(0); !ok || x != want[1] {
		t.Error(x)
	}
	if x, ok := p.Weak(0); !ok || x != want[1] {
		t.Error(x)
	}
	p.Move(many)
	if !slices.Equal(p.Told(), want[3:]) {
		t.Error(p.Told())
	}
}

// P23.1: nil ones, and ones that New didn't make, have nothing, and take nothing.
func TestNil(t *testing.T) {
	for _, p := range []*points.Points{nil, {}} {
		for range 2 {
			for _, seq := range []int64{math.MinInt64, -1, 0, 4, math.MaxInt64} {
				p.Own(seq, api.Digest{1}, []byte("b"))
				for _, who := range append(strangers(4), 0, 1, 2, 3) {
					if p.Vote(who, point(seq, 1)) || len(p.Votes(who)) != 0 {
						t.Error("it takes votes:", who, seq)
					}
				}
				p.Move(seq)
				x, stable := p.Stable(seq - 1)
				y, weak := p.Weak(seq - 1)
				b, has := p.Bytes(point(seq, 1))
				if stable || weak || has || x != (api.Point{}) || y != (api.Point{}) || b != nil {
					t.Error("it has a point:", seq)
				}
				if p.Support(point(seq, 1)) != 0 || p.Support(api.Point{}) != 0 || len(p.Told()) != 0 {
					t.Error("it has something:", seq)
				}
			}
		}
	}
}
