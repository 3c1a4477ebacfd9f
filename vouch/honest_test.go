package vouch_test

import (
	"math/rand"
	"testing"

	"bottomry/api"
	"bottomry/vouch"
)

// saw is what the honest replicas saw of each core: the organizations, by anybody of them.
type saw map[api.Vouching]uint32

// note writes down what an honest replica saw.
func (s saw) note(x api.Vouching) {
	m := x.Mask
	x.Mask = 0
	s[x] |= m
}

// seen tells whether some honest replica saw the core, and each of the organizations was seen by one.
func (s saw) seen(x api.Vouching, asked uint32) bool {
	x.Mask = 0
	m, ok := s[x]
	return ok && m|asked == m
}

// crowd lets replicas vouch at random: who lies for anything, the others for a few cores that they saw, with some of those who endorsed them. All Stamps are few, so that liars' words meet those of the others.
func crowd(r *rand.Rand, n int, lies map[int]bool) (*vouch.Vouchings, saw) {
	v, s := vouch.New(n), saw{}
	first, second := uint32(r.Intn(1<<n)), uint32(r.Intn(1<<n))
	for range 12 * n {
		who, stamp := r.Intn(n), int64(r.Intn(6))
		x := word(n+r.Intn(2), stamp, byte(r.Intn(3)), uint32(r.Intn(1<<n)))
		if lies[who] {
			v.Add(who, x)
			continue
		}
		x = word(n, stamp, 0, first&x.Mask)
		if r.Intn(3) == 0 {
			x = word(n+1, stamp, 1, second&x.Mask)
		}
		s.note(x)
		v.Add(who, x)
	}
	return v, s
}

// lied is how often something was proved, of all cores and masks there are, that no honest replica saw.
func lied(v *vouch.Vouchings, s saw, n, at int) (proved, lies int) {
	for client := n; client < n+2; client++ {
		for stamp := range int64(6) {
			for d := range byte(3) {
				x := word(client, stamp, d, 0)
				for asked := range uint32(1) << n {
					if v.Proved(client, stamp, x.Digest, asked, at) {
						proved++
						if !s.seen(x, asked) {
							lies++
						}
					}
				}
			}
		}
	}
	return proved, lies
}

// liars are all sets of so many of n replicas.
func liars(n, many int) []map[int]bool {
	var out []map[int]bool
	for set := range 1 << n {
		m := map[int]bool{}
		for who := range n {
			if set>>who&1 == 1 {
				m[who] = true
			}
		}
		if len(m) == many {
			out = append(out, m)
		}
	}
	return out
}

// P24.2: whoever up to f lie, what is proved with at above f was seen by an honest replica, the core and each organization.
func TestHonest(t *testing.T) {
	r := rand.New(rand.NewSource(242))
	for n := 1; n <= size; n++ {
		all := 0
		for many := range faults[n] + 1 {
			for _, who := range liars(n, many) {
				for range 8 {
					v, s := crowd(r, n, who)
					for at := faults[n] + 1; at <= n; at++ {
						proved, lies := lied(v, s, n, at)
						if lies > 0 {
							t.Fatal("a lie is proved:", n, at, who)
						}
						all += proved
					}
				}
			}
		}
		if all == 0 {
			t.Error("nothing is proved:", n)
		}
	}
}

// P24.2: it takes at above f: with f liars, and at of f, a lie is proved; and so it is with at of f + 1 and one liar more.
func TestTooMany(t *testing.T) {
	r := rand.New(rand.NewSource(243))
	for n := 4; n <= size; n++ {
		for _, many := range []int{faults[n], faults[n] + 1} {
			all := 0
			for _, who := range liars(n, many) {
				for range 8 {
					v, s := crowd(r, n, who)
					_, lies := lied(v, s, n, many)
					all += lies
				}
			}
			if all == 0 {
				t.Error("no lie is proved:", n, many)
			}
		}
	}
}

// P24.2: liars of one mind, who say the same lie about a core that nobody saw, and about one that all saw: f don't prove it, f + 1 do.
func TestOneMind(t *testing.T) {
	for n := 1; n <= size; n++ {
		f := faults[n]
		for many := range f + 2 {
			v := vouch.New(n)
			for who := range n {
				if who < many {
					v.Add(who, word(n, 1, 9, 1<<n-1))
					v.Add(who, word(n, 2, 1, 1<<n-1))
				} else {
					v.Add(who, word(n, 2, 1, 0))
				}
			}
			lie := many > f
			if v.Proved(n, 1, api.Digest{9}, 0, f+1) != lie || v.Proved(n, 1, api.Digest{9}, 1, f+1) != lie || v.Proved(n, 2, api.Digest{1}, 1, f+1) != lie {
				t.Error(n, many)
			}
			if !v.Proved(n, 2, api.Digest{1}, 0, f+1) {
				t.Error("the truth isn't proved:", n, many)
			}
		}
	}
}

// P24.2: a replica that vouches often counts once: no liar makes up for another one.
func TestOften(t *testing.T) {
	for n := 4; n <= size; n++ {
		f := faults[n]
		v := vouch.New(n)
		for round := range 50 {
			for who := range f {
				v.Add(who, word(n, 1, 9, 1<<(round%n)))
				v.Add(who, word(n, 1, 8, 1))
				v.Add(who, word(n+1, 1, 9, 1))
				v.Add(who+n, word(n, 1, 9, 1))
				v.Add(-1-who, word(n, 1, 9, 1))
			}
		}
		if v.Count(n, 1, api.Digest{9}) != f || v.Proved(n, 1, api.Digest{9}, 0, f+1) || v.Mask(n, 1, api.Digest{9}, f+1) != 0 {
			t.Error(n, v.Count(n, 1, api.Digest{9}))
		}
	}
}
