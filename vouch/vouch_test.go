package vouch_test

import (
	"math"
	"math/rand"
	"slices"
	"testing"

	"bottomry/api"
	"bottomry/vouch"
)

// P24.1: New, of each n around those that may be; new ones have nothing.
func TestNew(t *testing.T) {
	for _, n := range append(far(), 0, 8, 9, 10, 11) {
		if vouch.New(n) != nil {
			t.Error("vouchings of", n)
		}
	}
	for n := 1; n <= size; n++ {
		v := vouch.New(n)
		if v == nil {
			t.Fatal("no vouchings of", n)
		}
		agrees(t, v, &list{n: n})
	}
}

// P24.1: the chapter's example, of each n, each two replicas and each client.
func TestExample(t *testing.T) {
	for n := 2; n <= size; n++ {
		for a := range n {
			for b := range n {
				for client := n; client < n+clients && a != b; client++ {
					v := vouch.New(n)
					if !v.Add(a, word(client, 1, 9, 3)) || !v.Add(b, word(client, 1, 9, 1)) {
						t.Error(n, a, b, client)
					}
					if m := v.Mask(client, 1, api.Digest{9}, 2); m != 1 {
						t.Error(n, a, b, client, m)
					}
				}
			}
		}
	}
}

// P24.1: rows of vouchings of one replica for one client, of all Stamps that there may be, each for another core.
func TestRows(t *testing.T) {
	stamps := []int64{math.MinInt64, -1, 0, 1, 1 << 40, math.MaxInt64}
	const calls = 6
	for row := range 6 * 6 * 6 * 6 * 6 * 6 {
		v, l := vouch.New(4), &list{n: 4}
		left := row
		for i := range calls {
			x := word(5, stamps[left%6], byte(i), 1<<i)
			left /= 6
			if got, want := v.Add(2, x), l.add(2, x); got != want {
				t.Fatal(row, i, x, got, want)
			}
			if !slices.Equal(v.Of(2, 5), l.of(2, 5)) {
				t.Fatal(row, i, v.Of(2, 5), l.of(2, 5))
			}
		}
		if row%97 == 0 {
			agrees(t, v, l)
		}
	}
}

// P24.1: who has four takes a fifth one only where it isn't below all of them, and lets the lowest one go.
func TestFifth(t *testing.T) {
	four := []api.Vouching{word(4, 10, 1, 1), word(4, 20, 1, 2), word(4, 30, 1, 4), word(4, 40, 1, 8)}
	whole := func() *vouch.Vouchings {
		v := vouch.New(4)
		for _, at := range []int{2, 0, 3, 1} {
			if !v.Add(1, four[at]) {
				t.Error(at)
			}
		}
		return v
	}
	for _, stamp := range []int64{9, 8, 1, 0, -1, -10, 10 - 1<<32, math.MinInt64} {
		v := whole()
		if v.Add(1, word(4, stamp, 1, 1)) || v.Add(1, word(4, stamp, 2, 15)) || !slices.Equal(v.Of(1, 4), four) {
			t.Error("below all:", stamp, v.Of(1, 4))
		}
	}
	for _, stamp := range []int64{11, 19, 21, 29, 31, 39, 41, 50, 10 + 1<<32, math.MaxInt64} {
		v, x := whole(), word(4, stamp, 7, 16)
		if !v.Add(1, x) {
			t.Error("it isn't taken:", stamp)
		}
		l := v.Of(1, 4)
		if len(l) != 4 || !slices.Contains(l, x) || slices.Contains(l, four[0]) || v.Count(4, 10, api.Digest{1}) != 0 || v.Count(4, stamp, api.Digest{7}) != 1 {
			t.Error(stamp, l)
		}
		for _, y := range four[1:] {
			if !slices.Contains(l, y) {
				t.Error("another one goes:", stamp, l)
			}
		}
		// What was let go isn't known any more: it comes back only if it isn't below all.
		if v.Add(1, four[0]) || !slices.Equal(v.Of(1, 4), l) {
			t.Error("it comes back:", stamp, v.Of(1, 4))
		}
	}
}

// P24.1: each replica has four of each client, whatever the other ones have, and whatever it has of other clients.
func TestApart(t *testing.T) {
	for n := 1; n <= size; n++ {
		v, l := vouch.New(n), &list{n: n}
		for stamp := int64(1); stamp <= 6; stamp++ {
			for who := n - 1; who >= 0; who-- {
				for client := n + clients - 1; client >= n; client-- {
					x := word(client, stamp*int64(1+who), byte(client), uint32(1)<<who)
					if !v.Add(who, x) || !l.add(who, x) {
						t.Fatal(n, who, x)
					}
				}
			}
		}
		agrees(t, v, l)
		for who := range n {
			for client := n; client < n+clients; client++ {
				if of := v.Of(who, client); len(of) != 4 || of[0].Stamp != 3*int64(1+who) || of[3].Stamp != 6*int64(1+who) {
					t.Error(n, who, client, of)
				}
			}
		}
	}
}

// P24.1: a vouching for a core that is known: the mask is both's, and the answer whether that changed it; at each place of the four.
func TestJoin(t *testing.T) {
	masks := []uint32{0, 1, 2, 3, 4, 5, 0x7f, 0x80, 0xff, 0x100, 0xaaaaaaaa, 0x55555555, 1 << 16, 1 << 31, math.MaxInt32, math.MaxUint32}
	for many := 1; many <= kept; many++ {
		for place := range many {
			for _, a := range masks {
				for _, b := range masks {
					v, l := vouch.New(4), &list{n: 4}
					for i := range many {
						v.Add(3, word(7, int64(i), byte(i), a))
						l.add(3, word(7, int64(i), byte(i), a))
					}
					x := word(7, int64(place), byte(place), b)
					if got := v.Add(3, x); got != l.add(3, x) || got != (both(a, b) != a) {
						t.Fatal(many, place, a, b, got)
					}
					if of := v.Of(3, 7); !slices.Equal(of, l.of(3, 7)) || of[place].Mask != both(a, b) {
						t.Fatal(many, place, a, b, of)
					}
					if v.Add(3, x) || v.Add(3, word(7, int64(place), byte(place), a)) || !slices.Equal(v.Of(3, 7), l.of(3, 7)) {
						t.Fatal("again:", many, place, a, b)
					}
				}
			}
		}
	}
}

// P24.1: of a Stamp that he has, another core isn't taken, whatever its mask; a digest counts in each bit.
func TestOtherCore(t *testing.T) {
	for many := 1; many <= kept; many++ {
		for place := range many {
			v, l := vouch.New(4), &list{n: 4}
			for i := range many {
				v.Add(0, word(4, int64(i), 5, 2))
				l.add(0, word(4, int64(i), 5, 2))
			}
			for bit := range 256 {
				for _, m := range []uint32{0, 2, 3, math.MaxUint32} {
					x := word(4, int64(place), 5, m)
					x.Digest[bit/8] ^= 1 << (bit % 8)
					if v.Add(0, x) || v.Count(4, x.Stamp, x.Digest) != 0 || v.Mask(4, x.Stamp, x.Digest, 1) != 0 || v.Proved(4, x.Stamp, x.Digest, 0, 1) {
						t.Fatal(many, place, bit, m)
					}
				}
			}
			agrees(t, v, l)
		}
	}
}

// P24.1: nobody but replicas vouches, for nobody but clients, and what is refused changes nothing.
func TestWho(t *testing.T) {
	for n := 1; n <= size; n++ {
		v, l := vouch.New(n), &list{n: n}
		v.Add(0, word(n, 1, 1, 1))
		l.add(0, word(n, 1, 1, 1))
		for _, m := range []uint32{1, 3, math.MaxUint32} {
			for _, who := range append(far(), n, n+1, n+256, n-1+1<<32, -n) {
				for client := n; client < n+clients; client++ {
					if v.Add(who, word(client, 1, 1, m)) || v.Add(who, word(client, 2, 1, m)) || len(v.Of(who, client)) != 0 {
						t.Fatal("who:", n, who, client)
					}
				}
			}
			for _, client := range append(far(), 0, n-1, n+4, n+5, n+256, n+1<<32, -n) {
				for who := range n {
					if v.Add(who, word(client, 1, 1, m)) || len(v.Of(who, client)) != 0 || v.Count(client, 1, api.Digest{1}) != 0 {
						t.Fatal("client:", n, who, client)
					}
					if v.Mask(client, 1, api.Digest{1}, 1) != 0 || v.Proved(client, 1, api.Digest{1}, 0, 1) {
						t.Fatal("client:", n, who, client)
					}
				}
			}
			agrees(t, v, l)
		}
		for who := range n {
			for client := n; client < n+clients; client++ {
				x := word(client, 3, 1, 1)
				if !v.Add(who, x) || !l.add(who, x) {
					t.Error(n, who, client)
				}
			}
		}
		agrees(t, v, l)
	}
}

// P24.1: of four, all ways to vouch for one core, with each mask of three organizations, or for another one, or for none.
func TestWays(t *testing.T) {
	for way := range 10 * 10 * 10 * 10 {
		v, l := vouch.New(4), &list{n: 4}
		left := way
		for who := range 4 {
			x := word(6, 1, 1, uint32(left%10))
			if left%10 == 8 {
				x = word(6, 1, 2, 7)
			}
			if left%10 < 9 && v.Add(who, x) != l.add(who, x) {
				t.Fatal(way, who)
			}
			left /= 10
		}
		for _, x := range []api.Vouching{word(6, 1, 1, 0), word(6, 1, 2, 0), word(6, 2, 1, 0), word(5, 1, 1, 0)} {
			core(t, v, l, x)
		}
	}
}

// P24.1: of each n, all sets of voters: how many there are, and that it takes at least at of them.
func TestVoters(t *testing.T) {
	for n := 1; n <= size; n++ {
		for set := range 1 << n {
			v, many := vouch.New(n), 0
			for who := range n {
				if set>>who&1 == 1 {
					v.Add(who, word(n, 1, 1, 1<<who|1<<20))
					many++
				}
			}
			for at := -2; at <= n+2; at++ {
				want, saw := uint32(0), at >= 1 && many >= at
				if saw {
					want = 1 << 20
				}
				if at == 1 {
					want |= uint32(set)
				}
				if v.Count(n, 1, api.Digest{1}) != many || v.Mask(n, 1, api.Digest{1}, at) != want {
					t.Fatal(n, set, at, v.Mask(n, 1, api.Digest{1}, at))
				}
				if v.Proved(n, 1, api.Digest{1}, 0, at) != saw || v.Proved(n, 1, api.Digest{1}, 1<<20, at) != saw || v.Proved(n, 1, api.Digest{1}, 1<<21, at) {
					t.Fatal(n, set, at)
				}
			}
		}
	}
}

// P24.1: each of the 32 organizations is counted by itself, those beyond the replicas too.
func TestOrganizations(t *testing.T) {
	for org := range 32 {
		v := vouch.New(7)
		for who := range 7 {
			m := uint32(math.MaxUint32)
			if who >= 3 {
				m ^= 1 << org
			}
			v.Add(who, word(7, 1, 1, m))
		}
		for at := 1; at <= 8; at++ {
			want := uint32(0)
			switch {
			case at <= 3:
				want = math.MaxUint32
			case at <= 7:
				want = math.MaxUint32 ^ 1<<org
			}
			if m := v.Mask(7, 1, api.Digest{1}, at); m != want {
				t.Error(org, at, m)
			}
			if v.Proved(7, 1, api.Digest{1}, 1<<org, at) != (at <= 3) || v.Proved(7, 1, api.Digest{1}, math.MaxUint32, at) != (at <= 3) {
				t.Error(org, at)
			}
			if v.Proved(7, 1, api.Digest{1}, math.MaxUint32^1<<org, at) != (at <= 7) {
				t.Error(org, at)
			}
		}
	}
}

// P24.1: each organization may have voters of its own: what is proved needn't be what any one of them saw.
func TestCrossed(t *testing.T) {
	v := vouch.New(4)
	v.Add(0, word(4, 1, 1, 0b011))
	v.Add(1, word(4, 1, 1, 0b110))
	v.Add(2, word(4, 1, 1, 0b101))
	d := api.Digest{1}
	if v.Mask(4, 1, d, 2) != 0b111 || !v.Proved(4, 1, d, 0b111, 2) || v.Mask(4, 1, d, 3) != 0 || v.Proved(4, 1, d, 1, 3) {
		t.Error(v.Mask(4, 1, d, 2))
	}
	if !v.Proved(4, 1, d, 0, 3) || v.Proved(4, 1, d, 0, 4) {
		t.Error("the core alone")
	}
}

// P24.1: numbers of voters that nothing has.
func TestAt(t *testing.T) {
	v := vouch.New(4)
	for who := range 4 {
		v.Add(who, word(4, 1, 1, math.MaxUint32))
	}
	for _, at := range []int{math.MinInt, math.MinInt + 1, -1 << 32, 1 - 1<<32, -256, -255, -1, 0, 5, 8, 257, 1 << 32, 1<<32 + 1, math.MaxInt} {
		if v.Mask(4, 1, api.Digest{1}, at) != 0 || v.Proved(4, 1, api.Digest{1}, 0, at) || v.Proved(4, 1, api.Digest{1}, 1, at) {
			t.Error(at)
		}
	}
}

// P24.1: the vouching of noughts is one as others are, but for its Client.
func TestNought(t *testing.T) {
	v := vouch.New(1)
	if v.Add(0, api.Vouching{}) || v.Count(0, 0, api.Digest{}) != 0 || v.Count(1, 0, api.Digest{}) != 0 || v.Proved(1, 0, api.Digest{}, 0, 1) {
		t.Error("it is there")
	}
	x := api.Vouching{Client: 1}
	if !v.Add(0, x) || v.Add(0, x) || v.Count(1, 0, api.Digest{}) != 1 || !slices.Equal(v.Of(0, 1), []api.Vouching{x}) {
		t.Error(v.Of(0, 1))
	}
	if v.Mask(1, 0, api.Digest{}, 1) != 0 || !v.Proved(1, 0, api.Digest{}, 0, 1) || v.Proved(1, 0, api.Digest{}, 1, 1) {
		t.Error("mask")
	}
}

// P24.1: calls at random, against the second way.
func TestWalks(t *testing.T) {
	r := rand.New(rand.NewSource(241))
	for range 500 {
		n := 1 + r.Intn(size)
		span, cores, width := 1+r.Intn(9), 1+r.Intn(3), r.Intn(33)
		v, l := vouch.New(n), &list{n: n}
		for i := range 80 {
			x := word(n+r.Intn(3), int64(r.Intn(span)-r.Intn(span)), byte(r.Intn(cores)), uint32(r.Uint64()&(1<<width-1)))
			if r.Intn(20) == 0 {
				x.Client = n - 1 + r.Intn(6)
			}
			who := r.Intn(n)
			if r.Intn(20) == 0 {
				who = r.Intn(n+2) - 1
			}
			if got, want := v.Add(who, x), l.add(who, x); got != want {
				t.Fatal("Add:", n, who, x, got, want, l)
			}
			if i%40 == 39 {
				agrees(t, v, l)
			}
		}
	}
}
