package sat

import (
	"math"
	"math/big"
	"slices"
	"testing"

	"crossbuck/api"
)

const most = api.MaxTick

// edges are arguments around every place where a result changes its kind.
var edges = []int{
	math.MinInt, math.MinInt + 1, -most - 1, -most, -1000, -2, -1,
	0, 1, 2, 3, 5, 10, 9999, 46340, 46341, 1 << 16, 715827882, 715827883, 1 << 30,
	most - 2, most - 1, most, most + 1, most + 2, 1 << 32, 1 << 33, 3037000500, 1 << 62,
	math.MaxInt - 1, math.MaxInt,
}

// exact is Cap by numbers without a limit.
func exact(n *big.Int) int {
	if n.Sign() < 0 {
		return 0
	}
	if n.Cmp(big.NewInt(most)) > 0 {
		return most
	}
	return int(n.Int64())
}

func large(n int) *big.Int { return big.NewInt(int64(n)) }

// large of a capped argument.
func capped(n int) *big.Int { return large(exact(large(n))) }

// P1.1: Cap, its edges, and numbers that are no counts.
func TestCap(t *testing.T) {
	for _, x := range []struct{ n, want int }{
		{math.MinInt, 0}, {-most, 0}, {-1, 0},
		{0, 0}, {1, 1}, {9999, 9999}, {most - 1, most - 1}, {most, most},
		{most + 1, most}, {1 << 32, most}, {1 << 40, most}, {math.MaxInt, most},
	} {
		if got := Cap(x.n); got != x.want {
			t.Errorf("Cap(%d) = %d, want %d", x.n, got, x.want)
		}
	}
}

// P1.1: Add, with both arguments capped first.
func TestAdd(t *testing.T) {
	for _, x := range []struct{ a, b, want int }{
		{0, 0, 0}, {3, 5, 8}, {5, 3, 8},
		{most, 1, most}, {1, most, most}, {most - 1, 1, most}, {most - 2, 1, most - 1}, {most, most, most},
		{-3, 5, 5}, {5, -3, 5}, {-3, -5, 0}, {most + 1, -1, most},
		{math.MinInt, math.MaxInt, most}, {math.MaxInt, math.MaxInt, most}, {math.MinInt, math.MinInt, 0},
	} {
		if got := Add(x.a, x.b); got != x.want {
			t.Errorf("Add(%d, %d) = %d, want %d", x.a, x.b, got, x.want)
		}
	}
}

// P1.1: Sub, with both arguments capped first.
func TestSub(t *testing.T) {
	for _, x := range []struct{ a, b, want int }{
		{0, 0, 0}, {5, 3, 2}, {3, 5, 0}, {5, 5, 0},
		{most, 1, most - 1}, {most, most, 0}, {0, most, 0}, {most, 0, most},
		{5, -3, 5}, {-3, 5, 0}, {-3, -5, 0}, {most + 5, 5, most - 5}, {most, most + 1, 0}, {most + 7, most + 2, 0},
		{math.MaxInt, math.MinInt, most}, {math.MinInt, math.MaxInt, 0}, {math.MinInt, math.MinInt, 0},
	} {
		if got := Sub(x.a, x.b); got != x.want {
			t.Errorf("Sub(%d, %d) = %d, want %d", x.a, x.b, got, x.want)
		}
	}
}

// P1.1: Mul, with both arguments capped first, and without overflow.
func TestMul(t *testing.T) {
	for _, x := range []struct{ a, b, want int }{
		{0, 0, 0}, {3, 5, 15}, {1, most, most}, {0, most, 0}, {2, most, most},
		{46340, 46340, 2147395600}, {46341, 46341, most}, {1 << 16, 1 << 15, most}, {1 << 16, 1<<15 - 1, 2147418112},
		{3, 715827882, most - 1}, {3, 715827883, most},
		{-3, 5, 0}, {5, -3, 0}, {-3, -5, 0}, {1, most + 1, most}, {0, math.MaxInt, 0}, {-1, math.MaxInt, 0},
		{most, most, most}, {1 << 32, 1 << 32, most}, {math.MinInt, math.MinInt, 0}, {math.MaxInt, math.MaxInt, most},
	} {
		if got := Mul(x.a, x.b); got != x.want {
			t.Errorf("Mul(%d, %d) = %d, want %d", x.a, x.b, got, x.want)
		}
	}
}

// P1.1: for all pairs of edges, the results are those of numbers without a limit.
func TestPairs(t *testing.T) {
	for _, a := range edges {
		for _, b := range edges {
			x, y := capped(a), capped(b)
			if got, want := Add(a, b), exact(new(big.Int).Add(x, y)); got != want {
				t.Errorf("Add(%d, %d) = %d, want %d", a, b, got, want)
			}
			if got, want := Sub(a, b), exact(new(big.Int).Sub(x, y)); got != want {
				t.Errorf("Sub(%d, %d) = %d, want %d", a, b, got, want)
			}
			if got, want := Mul(a, b), exact(new(big.Int).Mul(x, y)); got != want {
				t.Errorf("Mul(%d, %d) = %d, want %d", a, b, got, want)
			}
		}
	}
}

// P1.1: Sum, of none, of one, of many.
func TestSum(t *testing.T) {
	if got := Sum(); got != 0 {
		t.Errorf("Sum() = %d, want 0", got)
	}
	for _, x := range []struct {
		l    []int
		want int
	}{
		{nil, 0}, {[]int{}, 0}, {[]int{7}, 7}, {[]int{-7}, 0}, {[]int{most + 1}, most},
		{[]int{1, 2, 3, 4}, 10}, {[]int{-7, 7}, 7}, {[]int{7, -7}, 7},
		{[]int{most, -5}, most}, {[]int{most - 3, 1, 1}, most - 1}, {[]int{most - 3, 1, 1, 1}, most}, {[]int{most - 3, 1, 1, 1, 1}, most},
		{[]int{math.MaxInt, math.MaxInt, math.MaxInt}, most}, {[]int{math.MaxInt, math.MinInt}, most}, {[]int{math.MinInt, math.MinInt}, 0},
	} {
		if got := Sum(x.l...); got != x.want {
			t.Errorf("Sum(%d) = %d, want %d", x.l, got, x.want)
		}
	}
}

// P1.1: Full, which does not cap anything that it is given.
func TestFull(t *testing.T) {
	for _, x := range []struct {
		n    int
		want bool
	}{
		{math.MinInt, false}, {-1, false}, {0, false}, {1, false}, {most - 1, false},
		{most, true}, {most + 1, true}, {1 << 32, true}, {math.MaxInt, true},
	} {
		if got := Full(x.n); got != x.want {
			t.Errorf("Full(%d) = %t, want %t", x.n, got, x.want)
		}
	}
}

// P1.2: Add and Mul are commutative and associative.
func TestLaws(t *testing.T) {
	for _, a := range edges {
		for _, b := range edges {
			if Add(a, b) != Add(b, a) {
				t.Errorf("Add(%d, %d) is not commutative", a, b)
			}
			if Mul(a, b) != Mul(b, a) {
				t.Errorf("Mul(%d, %d) is not commutative", a, b)
			}
			for _, c := range edges {
				if Add(Add(a, b), c) != Add(a, Add(b, c)) {
					t.Errorf("Add of %d, %d, %d is not associative", a, b, c)
				}
				if Mul(Mul(a, b), c) != Mul(a, Mul(b, c)) {
					t.Errorf("Mul of %d, %d, %d is not associative", a, b, c)
				}
			}
		}
	}
}

// P1.2: Sum is Full exactly if the sum of the capped arguments, without a limit, is at least MaxTick.
func TestSumFull(t *testing.T) {
	for _, a := range edges {
		for _, b := range edges {
			for _, c := range edges {
				total := new(big.Int).Add(capped(a), capped(b))
				total.Add(total, capped(c))
				if got, want := Full(Sum(a, b, c)), total.Cmp(big.NewInt(most)) >= 0; got != want {
					t.Errorf("Full(Sum(%d, %d, %d)) = %t, want %t", a, b, c, got, want)
				}
			}
		}
	}
}

// P1.2: the same for long lists, whose sum comes to MaxTick by one or falls short of it by one.
func TestSumFullLong(t *testing.T) {
	const n = 1000
	l := slices.Repeat([]int{most / n}, n)
	l = append(l, most-n*(most/n)-1)
	if Full(Sum(l...)) || Sum(l...) != most-1 {
		t.Errorf("a sum of MaxTick - 1 is %d", Sum(l...))
	}
	if l = append(l, -1); Full(Sum(l...)) || Sum(l...) != most-1 {
		t.Errorf("a sum of MaxTick - 1 and a number below 0 is %d", Sum(l...))
	}
	if l = append(l, 1); !Full(Sum(l...)) {
		t.Errorf("a sum of MaxTick is %d", Sum(l...))
	}
	if l = append(l, 1); !Full(Sum(l...)) {
		t.Errorf("a sum of MaxTick + 1 is %d", Sum(l...))
	}
}

// R3: the list is not changed, nor is the memory behind its length.
func TestSumKeepsList(t *testing.T) {
	l := []int{-1, most + 1, 3, 4, 5}
	was := slices.Clone(l)
	Sum(l[:2]...)
	if !slices.Equal(l, was) {
		t.Errorf("Sum changed its list to %d", l)
	}
}
