package sums_test

import (
	"math/rand"
	"testing"

	"bottomry/api"
	"bottomry/sums"
)

// P2.2: however bytes are cut into parts, the sum of all is the same.

func TestTwoParts(t *testing.T) {
	for _, n := range []int{0, 1, 55, 56, 64, 65, 127, 128, 129, 200} {
		all := text(n)
		want := sums.Sum(all)
		for cut := range n + 1 {
			checkParts(t, want, all[:cut], all[cut:])
		}
	}
}

func TestThreeParts(t *testing.T) {
	all := text(140)
	want := sums.Sum(all)
	for i := range len(all) + 1 {
		for j := i; j <= len(all); j++ {
			checkParts(t, want, all[:i], all[i:j], all[j:])
		}
	}
}

func TestPartsOfOneLength(t *testing.T) {
	all := text(1000)
	want := sums.Sum(all)
	for size := 1; size <= len(all); size++ {
		var parts [][]byte
		for rest := all; len(rest) > 0; {
			n := min(size, len(rest))
			parts = append(parts, rest[:n])
			rest = rest[n:]
		}
		checkParts(t, want, parts...)
	}
}

func TestManyParts(t *testing.T) {
	random := rand.New(rand.NewSource(1))
	for range 300 {
		all := text(random.Intn(2000))
		var parts [][]byte
		for rest := all; len(rest) > 0; {
			n := random.Intn(min(150, len(rest)) + 1) // some are empty
			parts = append(parts, rest[:n])
			rest = rest[n:]
		}
		checkParts(t, sums.Sum(all), parts...)
	}
}

// checkParts adds the parts twice: once it asks behind each part, which may change nothing.
func checkParts(t *testing.T, want api.Digest, parts ...[]byte) {
	t.Helper()
	quiet, asked := sums.New(), sums.New()
	length := 0
	for _, p := range parts {
		quiet.Add(p)
		asked.Add(p)
		asked.Sum()
		length += len(p)
	}
	if quiet.Sum() != want || asked.Sum() != want {
		t.Fatalf("the sum of %d bytes in %d parts is another one", length, len(parts))
	}
	if quiet.Len() != int64(length) || asked.Len() != int64(length) {
		t.Fatalf("Len = %d and %d behind %d bytes", quiet.Len(), asked.Len(), length)
	}
}
