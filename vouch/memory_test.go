package vouch_test

import (
	"math"
	"runtime"
	"slices"
	"testing"

	"bottomry/api"
	"bottomry/vouch"
)

// P24.1: all that is answered is the caller's own, and two vouchings are two.
func TestMemory(t *testing.T) {
	v, w := vouch.New(4), vouch.New(4)
	for stamp := int64(1); stamp <= 3; stamp++ {
		v.Add(1, word(4, stamp, 1, 1))
	}
	want := []api.Vouching{word(4, 1, 1, 1), word(4, 2, 1, 1), word(4, 3, 1, 1)}
	a, b := v.Of(1, 4), v.Of(1, 4)
	for i := range a {
		a[i] = word(4, 9, 9, 9)
	}
	if !slices.Equal(b, want) || !slices.Equal(v.Of(1, 4), want) || v.Count(4, 9, api.Digest{9}) != 0 {
		t.Error("Of answers what is kept:", b, v.Of(1, 4))
	}
	longer := append(b, word(4, 99, 9, 9))
	for stamp := int64(2); stamp <= 9; stamp++ {
		v.Add(1, word(4, stamp, 1, 2))
	}
	if !slices.Equal(b, want) || longer[3] != word(4, 99, 9, 9) {
		t.Error("a vouching changes what was answered:", longer)
	}
	c := v.Of(1, 4)
	_ = append(c[:1], word(4, 99, 9, 9))
	if of := v.Of(1, 4); len(of) != 4 || of[0] != word(4, 6, 1, 2) || of[1] != word(4, 7, 1, 2) {
		t.Error("Of shares what is kept:", of)
	}
	if len(w.Of(1, 4)) != 0 || w.Count(4, 9, api.Digest{1}) != 0 || w.Mask(4, 9, api.Digest{1}, 1) != 0 || w.Proved(4, 9, api.Digest{1}, 0, 1) {
		t.Error("two share vouchings")
	}
}

// P24.1: what is asked changes nothing, however often it is asked.
func TestAsked(t *testing.T) {
	v, l := vouch.New(4), &list{n: 4}
	for who := range 4 {
		for stamp := range int64(5) {
			x := word(4+who%2, stamp, byte(who/3), 1<<who|1)
			v.Add(who, x)
			l.add(who, x)
		}
	}
	for range 3 {
		agrees(t, v, l)
	}
}

// P24.1: what is gone isn't kept, nor what is refused: vouchings that replicas tell without end, for clients without end.
func TestGone(t *testing.T) {
	used := func() uint64 {
		var m runtime.MemStats
		runtime.GC()
		runtime.ReadMemStats(&m)
		return m.HeapAlloc
	}
	v := vouch.New(7)
	before := used()
	for stamp := range int64(20000) {
		for who := -1; who <= 7; who++ {
			for _, client := range []int{7, 10, 11, 12 + int(stamp)} {
				v.Add(who, word(client, stamp, byte(stamp), uint32(stamp)))
				v.Add(who, word(client, -stamp, 1, uint32(stamp)))
				v.Of(who, 13+int(stamp))
				v.Proved(13+int(stamp), stamp, api.Digest{}, 0, 1)
			}
		}
	}
	if after := used(); after > before+2<<20 {
		t.Error("bytes that are kept:", after-before)
	}
	for who := range 7 {
		if l := v.Of(who, 10); len(l) != 4 || l[0].Stamp != 19996 || l[3].Stamp != 19999 {
			t.Error(who, l)
		}
	}
	runtime.KeepAlive(v)
}

// P24.1: nil ones, and ones that New didn't make, have nothing, and take nothing.
func TestNil(t *testing.T) {
	for _, v := range []*vouch.Vouchings{nil, {}} {
		for range 2 {
			for _, who := range append(far(), 0, 1, 4, 7) {
				for _, client := range append(far(), 0, 1, 3, 4, 5, 7, 11) {
					x := word(client, 1, 1, 1)
					if v.Add(who, x) || len(v.Of(who, client)) != 0 || v.Count(client, 1, x.Digest) != 0 {
						t.Error("it has a vouching:", who, client)
					}
					for _, at := range []int{math.MinInt, -1, 0, 1, 2, math.MaxInt} {
						if v.Mask(client, 1, x.Digest, at) != 0 || v.Proved(client, 1, x.Digest, 0, at) || v.Proved(client, 1, x.Digest, 1, at) {
							t.Error("it proves something:", client, at)
						}
					}
				}
			}
			if v.Add(0, api.Vouching{}) || v.Count(0, 0, api.Digest{}) != 0 || v.Proved(0, 0, api.Digest{}, 0, 1) {
				t.Error("it has noughts")
			}
		}
	}
}
