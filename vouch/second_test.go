package vouch_test

import (
	"math"
	"slices"
	"testing"

	"bottomry/api"
	"bottomry/vouch"
)

// The limits as the document tells them.
const (
	size    = 7 // replicas
	clients = 4
	kept    = 4 // vouchings of a replica, of a client
)

// faults are f of each n.
var faults = [size + 1]int{0, 0, 0, 0, 1, 1, 1, 2}

// mark is who vouches for what.
type mark struct {
	who int
	x   api.Vouching
}

// list are vouchings as the chapter tells of them: marks, in any order.
type list struct {
	n     int
	marks []mark
}

// may tells whether there is such a replica, and such a client.
func (l *list) may(who, client int) bool {
	for i := range l.n {
		for j := range clients {
			if who == i && client == l.n+j {
				return true
			}
		}
	}
	return false
}

func (l *list) add(who int, x api.Vouching) bool {
	if !l.may(who, x.Client) {
		return false
	}
	greater, lowest, many := 0, -1, 0
	for i, m := range l.marks {
		if m.who != who || m.x.Client != x.Client {
			continue
		}
		if m.x.Stamp == x.Stamp {
			if m.x.Digest != x.Digest {
				return false
			}
			l.marks[i].x.Mask = both(m.x.Mask, x.Mask)
			return l.marks[i].x.Mask != m.x.Mask
		}
		if m.x.Stamp > x.Stamp {
			greater++
		}
		if lowest < 0 || m.x.Stamp < l.marks[lowest].x.Stamp {
			lowest = i
		}
		many++
	}
	if greater == kept {
		return false
	}
	if many == kept {
		l.marks = slices.Delete(l.marks, lowest, lowest+1)
	}
	l.marks = append(l.marks, mark{who, x})
	return true
}

// has tells whether an organization is in a mask.
func has(mask uint32, org int) bool {
	for range org {
		mask /= 2
	}
	return mask%2 == 1
}

// both are the organizations of two masks, summed up one by one.
func both(a, b uint32) uint32 {
	sum, one := uint32(0), uint32(1)
	for org := range 32 {
		if has(a, org) || has(b, org) {
			sum += one
		}
		one *= 2
	}
	return sum
}

// voters are the masks of those who vouch for just that core.
func (l *list) voters(client int, stamp int64, d api.Digest) []uint32 {
	var masks []uint32
	for _, m := range l.marks {
		if m.x.Client == client && m.x.Stamp == stamp && m.x.Digest == d {
			masks = append(masks, m.x.Mask)
		}
	}
	return masks
}

// mask sums up the organizations that are in so many of the masks.
func mask(masks []uint32, at int) uint32 {
	if at <= 0 {
		return 0
	}
	sum, one := uint32(0), uint32(1)
	for org := range 32 {
		many := 0
		for _, m := range masks {
			if has(m, org) {
				many++
			}
		}
		if many >= at {
			sum += one
		}
		one *= 2
	}
	return sum
}

// proved goes through the organizations one by one.
func proved(masks []uint32, asked uint32, at int) bool {
	if at <= 0 || len(masks) < at {
		return false
	}
	saw := mask(masks, at)
	for org := range 32 {
		if has(asked, org) && !has(saw, org) {
			return false
		}
	}
	return true
}

func (l *list) of(who, client int) []api.Vouching {
	var out []api.Vouching
	for _, m := range l.marks {
		if m.who == who && m.x.Client == client {
			out = append(out, m.x)
		}
	}
	slices.SortFunc(out, func(a, b api.Vouching) int {
		switch {
		case a.Stamp < b.Stamp:
			return -1
		case a.Stamp > b.Stamp:
			return 1
		}
		return 0
	})
	return out
}

// word is a vouching for the core whose digest has that first byte.
func word(client int, stamp int64, d byte, mask uint32) api.Vouching {
	return api.Vouching{Client: client, Stamp: stamp, Digest: api.Digest{d}, Mask: mask}
}

// far are numbers that neither a replica nor a client has, for any n.
func far() []int {
	return []int{math.MinInt, math.MinInt + 1, -1 << 32, -256, -1, 12, 256, 260, 1 << 32, 1<<32 + 1, 1<<32 + 4, math.MaxInt - 4, math.MaxInt}
}

// likes are a core, and those that are unlike it in one part.
func likes(x api.Vouching) []api.Vouching {
	l := []api.Vouching{x, x, x, x, x, x, x}
	l[1].Client++
	l[2].Client--
	l[3].Stamp++
	l[4].Stamp--
	l[5].Digest[31] ^= 1
	l[6].Digest[0] ^= 0x80
	return l
}

// agrees holds all that is answered against the second way: of all replicas and clients, of the cores that somebody vouches for, and of those like them, at all numbers of voters.
func agrees(t *testing.T, v *vouch.Vouchings, l *list) {
	t.Helper()
	for who := -1; who <= l.n; who++ {
		for client := l.n - 1; client <= l.n+clients; client++ {
			if got, want := v.Of(who, client), l.of(who, client); !slices.Equal(got, want) || len(got) > kept {
				t.Fatal("Of:", who, client, got, want)
			}
		}
	}
	cores := map[api.Vouching]bool{word(l.n, 1, 1, 0): true, {}: true}
	for _, m := range l.marks {
		m.x.Mask = 0
		for _, x := range likes(m.x) {
			cores[x] = true
		}
	}
	for x := range cores {
		core(t, v, l, x)
	}
}

// core holds what is answered of one core against the second way.
func core(t *testing.T, v *vouch.Vouchings, l *list, x api.Vouching) {
	t.Helper()
	masks := l.voters(x.Client, x.Stamp, x.Digest)
	if got := v.Count(x.Client, x.Stamp, x.Digest); got != len(masks) {
		t.Fatal("Count:", x, got, masks)
	}
	for at := -1; at <= l.n+1; at++ {
		saw := mask(masks, at)
		if got := v.Mask(x.Client, x.Stamp, x.Digest, at); got != saw {
			t.Fatal("Mask:", x, at, got, masks)
		}
		for _, asked := range []uint32{0, 1, 2, saw, saw &^ 1, saw | 1, saw | 2, saw | 1<<31, math.MaxUint32} {
			if got, want := v.Proved(x.Client, x.Stamp, x.Digest, asked, at), proved(masks, asked, at); got != want {
				t.Fatal("Proved:", x, asked, at, got, masks)
			}
		}
	}
}
