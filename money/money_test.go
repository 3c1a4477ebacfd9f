package money_test

import (
	"math"
	"math/big"
	"slices"
	"testing"

	"bottomry/api"
	"bottomry/money"
)

// The numbers around which the answers change, and the least and greatest of their kind.
var edges = []int64{
	math.MinInt64, math.MinInt64 + 1, math.MinInt64 + api.MaxAmount,
	-2 * api.MaxAmount, -api.MaxAmount - 1, -api.MaxAmount, -api.MaxAmount + 1, -(1 << 32), -2, -1,
	0, 1, 2, 1 << 32, api.MaxAmount/2 - 1, api.MaxAmount / 2, api.MaxAmount/2 + 1,
	api.MaxAmount - 1, api.MaxAmount, api.MaxAmount + 1, 2 * api.MaxAmount,
	math.MaxInt64 - api.MaxAmount, math.MaxInt64 - 1, math.MaxInt64,
}

// answer is an amount, or an error.
type answer struct {
	amount int64
	err    api.Errno
}

func got(amount int64, err api.Errno) answer {
	return answer{amount, err}
}

// within asks whether a number is from low to high, in numbers that never go round.
func within(n *big.Int, low, high int64) bool {
	return n.Cmp(big.NewInt(low)) >= 0 && n.Cmp(big.NewInt(high)) <= 0
}

// told is what the chapter says of arguments that may be or not, and of what comes out.
func told(may bool, out *big.Int) answer {
	if !may {
		return answer{0, api.ErrRange}
	}
	if !within(out, 0, 1<<40) {
		return answer{0, api.ErrOver}
	}
	return answer{out.Int64(), api.OK}
}

// P7.1: amounts.

func TestIs(t *testing.T) {
	for a, want := range map[int64]bool{
		0: true, 1: true, 2: true, 1<<40 - 1: true, 1 << 40: true,
		-1: false, 1<<40 + 1: false, -(1 << 40): false, math.MinInt64: false, math.MaxInt64: false, 1 << 41: false,
	} {
		if money.Is(a) != want {
			t.Errorf("Is(%d) = %v", a, !want)
		}
	}
}

// P7.1: two numbers.

func TestAdd(t *testing.T) {
	for _, c := range []struct {
		a, b int64
		want answer
	}{
		{2, 3, answer{5, api.OK}},
		{0, 0, answer{0, api.OK}},
		{0, 1 << 40, answer{1 << 40, api.OK}},
		{1 << 40, 0, answer{1 << 40, api.OK}},
		{1<<40 - 1, 1, answer{1 << 40, api.OK}},
		{1 << 39, 1 << 39, answer{1 << 40, api.OK}},
		{1 << 39, 1<<39 + 1, answer{0, api.ErrOver}},
		{1 << 40, 1, answer{0, api.ErrOver}},
		{1 << 40, 1 << 40, answer{0, api.ErrOver}},
		{-1, 3, answer{0, api.ErrRange}},
		{3, -1, answer{0, api.ErrRange}},
		{1<<40 + 1, 0, answer{0, api.ErrRange}},
		{0, 1<<40 + 1, answer{0, api.ErrRange}},
		{1<<40 + 1, 1, answer{0, api.ErrRange}},
		{1, math.MaxInt64, answer{0, api.ErrRange}},
		{math.MaxInt64, math.MaxInt64, answer{0, api.ErrRange}},
		{math.MinInt64, math.MinInt64, answer{0, api.ErrRange}},
	} {
		if g := got(money.Add(c.a, c.b)); g != c.want {
			t.Errorf("Add(%d, %d) = %v, want %v", c.a, c.b, g, c.want)
		}
	}
}

func TestSub(t *testing.T) {
	for _, c := range []struct {
		a, b int64
		want answer
	}{
		{5, 3, answer{2, api.OK}},
		{3, 3, answer{0, api.OK}},
		{0, 0, answer{0, api.OK}},
		{1 << 40, 0, answer{1 << 40, api.OK}},
		{1 << 40, 1 << 40, answer{0, api.OK}},
		{1 << 40, 1, answer{1<<40 - 1, api.OK}},
		{2, 3, answer{0, api.ErrOver}},
		{0, 1, answer{0, api.ErrOver}},
		{0, 1 << 40, answer{0, api.ErrOver}},
		{3, -1, answer{0, api.ErrRange}},
		{-1, -1, answer{0, api.ErrRange}},
		{-1, 3, answer{0, api.ErrRange}},
		{1<<40 + 1, 1, answer{0, api.ErrRange}},
		{1 << 40, 1<<40 + 1, answer{0, api.ErrRange}},
		{0, math.MinInt64, answer{0, api.ErrRange}},
		{math.MinInt64, 1, answer{0, api.ErrRange}},
	} {
		if g := got(money.Sub(c.a, c.b)); g != c.want {
			t.Errorf("Sub(%d, %d) = %v, want %v", c.a, c.b, g, c.want)
		}
	}
}

func TestChange(t *testing.T) {
	for _, c := range []struct {
		a, by int64
		want  answer
	}{
		{5, 3, answer{8, api.OK}},
		{5, -3, answer{2, api.OK}},
		{5, 0, answer{5, api.OK}},
		{5, -5, answer{0, api.OK}},
		{0, 1 << 40, answer{1 << 40, api.OK}},
		{1 << 40, -(1 << 40), answer{0, api.OK}},
		{1 << 40, 0, answer{1 << 40, api.OK}},
		{5, -6, answer{0, api.ErrOver}},
		{0, -1, answer{0, api.ErrOver}},
		{0, -(1 << 40), answer{0, api.ErrOver}},
		{1, 1 << 40, answer{0, api.ErrOver}},
		{1 << 40, 1 << 40, answer{0, api.ErrOver}},
		{0, 1<<40 + 1, answer{0, api.ErrRange}},
		{1 << 40, -(1 << 40) - 1, answer{0, api.ErrRange}},
		{-1, 1, answer{0, api.ErrRange}},
		{-1, 0, answer{0, api.ErrRange}},
		{1<<40 + 1, -1, answer{0, api.ErrRange}},
		{5, math.MinInt64, answer{0, api.ErrRange}},
		{5, math.MaxInt64, answer{0, api.ErrRange}},
		{math.MinInt64, math.MinInt64, answer{0, api.ErrRange}},
	} {
		if g := got(money.Change(c.a, c.by)); g != c.want {
			t.Errorf("Change(%d, %d) = %v, want %v", c.a, c.by, g, c.want)
		}
	}
}

// Each edge with each, against numbers that never go round.
func TestAllEdges(t *testing.T) {
	for _, a := range edges {
		x := big.NewInt(a)
		isA := within(x, 0, 1<<40)
		if money.Is(a) != isA {
			t.Errorf("Is(%d) = %v", a, !isA)
		}
		for _, b := range edges {
			y := big.NewInt(b)
			isB := within(y, 0, 1<<40)
			sum, rest := new(big.Int).Add(x, y), new(big.Int).Sub(x, y)
			if g, want := got(money.Add(a, b)), told(isA && isB, sum); g != want {
				t.Errorf("Add(%d, %d) = %v, want %v", a, b, g, want)
			}
			if g, want := got(money.Sub(a, b)), told(isA && isB, rest); g != want {
				t.Errorf("Sub(%d, %d) = %v, want %v", a, b, g, want)
			}
			if g, want := got(money.Change(a, b)), told(isA && within(y, -(1<<40), 1<<40), sum); g != want {
				t.Errorf("Change(%d, %d) = %v, want %v", a, b, g, want)
			}
		}
	}
}

// P7.1: many numbers.

func TestSum(t *testing.T) {
	const most = 1 << 40
	for _, c := range []struct {
		l    []int64
		want answer
	}{
		{nil, answer{0, api.OK}},
		{[]int64{}, answer{0, api.OK}},
		{[]int64{0}, answer{0, api.OK}},
		{[]int64{7}, answer{7, api.OK}},
		{[]int64{1, 2, 3, 4}, answer{10, api.OK}},
		{[]int64{most}, answer{most, api.OK}},
		{[]int64{most, 0, 0}, answer{most, api.OK}},
		{[]int64{0, 0, most}, answer{most, api.OK}},
		{[]int64{most / 2, 1, most/2 - 1}, answer{most, api.OK}},
		{[]int64{most, 1}, answer{0, api.ErrOver}},
		{[]int64{1, most}, answer{0, api.ErrOver}},
		{[]int64{most / 2, 1, most / 2}, answer{0, api.ErrOver}},
		{[]int64{-1}, answer{0, api.ErrRange}},
		{[]int64{most + 1}, answer{0, api.ErrRange}},
		{[]int64{math.MaxInt64}, answer{0, api.ErrRange}},
		{[]int64{math.MinInt64}, answer{0, api.ErrRange}},
		{[]int64{5, -1}, answer{0, api.ErrRange}},
		{[]int64{-1, 5}, answer{0, api.ErrRange}},
		{[]int64{5, most + 1, 5}, answer{0, api.ErrRange}},
		{[]int64{1, 2, math.MaxInt64}, answer{0, api.ErrRange}},
		// The first error of those that Add tells is the answer.
		{[]int64{most, 1, -1}, answer{0, api.ErrOver}},
		{[]int64{most, -1, 1}, answer{0, api.ErrRange}},
		{[]int64{most, most, most + 1}, answer{0, api.ErrOver}},
		{[]int64{most + 1, most, most}, answer{0, api.ErrRange}},
	} {
		before := slices.Clone(c.l)
		if g := got(money.Sum(c.l)); g != c.want {
			t.Errorf("Sum(%d) = %v, want %v", c.l, g, c.want)
		}
		if !slices.Equal(c.l, before) {
			t.Errorf("what was handed in was changed: %d, it was %d", c.l, before)
		}
	}
}

func TestSumOfMany(t *testing.T) {
	ones := slices.Repeat([]int64{1}, 1<<20)
	if g := got(money.Sum(ones)); g != (answer{1 << 20, api.OK}) {
		t.Errorf("so many ones are %v", g)
	}
	most := slices.Repeat([]int64{1 << 20}, 1<<20)
	if g := got(money.Sum(most)); g != (answer{1 << 40, api.OK}) {
		t.Errorf("so many parts of the most are %v", g)
	}
	if g := got(money.Sum(append(most, 1))); g != (answer{0, api.ErrOver}) {
		t.Errorf("one more than the most is %v", g)
	}
}
