package secs

import (
	"math"
	"math/big"
	"strconv"
	"testing"

	"crossbuck/api"
)

const (
	most = 999.9
	tiny = math.SmallestNonzeroFloat64
)

var (
	inf   = math.Inf(1)
	nan   = math.NaN()
	minus = math.Copysign(0, -1)
	above = math.Nextafter(most, inf)
	below = math.Nextafter(most, 0)
)

// nans are not-a-numbers of both signs and of several payloads.
var nans = []float64{
	nan, -nan,
	math.Float64frombits(0x7FF0000000000001), math.Float64frombits(0xFFF0000000000001),
	math.Float64frombits(0x7FFFFFFFFFFFFFFF), math.Float64frombits(0xFFFFFFFFFFFFFFFF),
}

// same tells whether two numbers are the same to the bit, so that -0 is not +0; one NaN is as good as another.
func same(a, b float64) bool {
	return math.Float64bits(a) == math.Float64bits(b) || math.IsNaN(a) && math.IsNaN(b)
}

// exact is Ticks of a number from 0 to 999.9 by numbers without a limit: a product that is rounded to a float64, and then to an integer.
func exact(s float64) int {
	product, _ := new(big.Rat).Mul(new(big.Rat).SetFloat64(s), big.NewRat(10, 1)).Float64()
	r := new(big.Rat).SetFloat64(product)
	n := int(new(big.Int).Quo(r.Num(), r.Denom()).Int64())
	rest := new(big.Rat).Sub(r, big.NewRat(int64(n), 1))
	if half := rest.Cmp(big.NewRat(1, 2)); half > 0 || half == 0 && n%2 == 1 {
		return n + 1
	}
	return n
}

// P2.1: Ticks of numbers of seconds, with those of which two integers are equally near.
func TestTicks(t *testing.T) {
	for _, x := range []struct {
		s    float64
		want int
	}{
		{0, 0}, {minus, 0}, {tiny, 0}, {0.04, 0}, {0.06, 1}, {0.1, 1}, {1, 10}, {3, 30}, {12.34, 123}, {12.36, 124}, {500, 5000},
		{0.25, 2}, {0.75, 8}, {1.25, 12}, {1.75, 18}, {100.25, 1002}, {100.75, 1008}, {999.75, 9998}, {999.25, 9992},
		{math.Nextafter(0.25, 0), 2}, {math.Nextafter(0.25, 1), 3}, {math.Nextafter(0.75, 0), 7}, {math.Nextafter(0.75, 1), 8},
		{999.84, 9998}, {999.86, 9999}, {below, 9999}, {most, 9999},
	} {
		if got, ok := Ticks(x.s); got != x.want || !ok {
			t.Errorf("Ticks(%v) = %d, %t, want %d, true", x.s, got, ok, x.want)
		}
	}
}

// P2.1: the product is a float64 before it is rounded: 0.15 is stored as less, 0.35 too, yet ten times each is a half.
func TestTicksProduct(t *testing.T) {
	for _, x := range []struct {
		s    float64
		want int
	}{{0.05, 0}, {0.15, 2}, {0.35, 4}, {0.45, 4}, {0.55, 6}, {0.65, 6}, {0.85, 8}, {0.95, 10}} {
		if got, ok := Ticks(x.s); got != x.want || !ok {
			t.Errorf("Ticks(%v) = %d, %t, want %d, true", x.s, got, ok, x.want)
		}
	}
}

// P2.1: numbers that are refused, with 0 beside false.
func TestTicksRefused(t *testing.T) {
	for _, s := range append([]float64{
		inf, -inf, -tiny, -0.01, -0.1, -1, -most, -math.MaxFloat64,
		above, 999.95, 1000, api.MaxTime, 1e18, 1e300, math.MaxFloat64,
	}, nans...) {
		if got, ok := Ticks(s); got != 0 || ok {
			t.Errorf("Ticks(%v) = %d, %t, want 0, false", s, got, ok)
		}
	}
}

// P2.1: Ticks is that of numbers without a limit, beside every place where its result changes, and between these.
func TestTicksExact(t *testing.T) {
	for n := range 2*api.MaxTime + 1 {
		s := float64(n) / 20
		for _, s := range []float64{math.Nextafter(s, 0), s, math.Nextafter(s, inf), s + 0.013} {
			if s > most {
				continue
			}
			if got, ok := Ticks(s); got != exact(s) || !ok {
				t.Fatalf("Ticks(%v) = %d, %t, want %d, true", s, got, ok, exact(s))
			}
		}
	}
}

// P2.1: Of is what the decimal number with one digit behind the point is, read as a float64.
func TestOf(t *testing.T) {
	for n := range api.MaxTime + 1 {
		want, err := strconv.ParseFloat(strconv.Itoa(n/10)+"."+strconv.Itoa(n%10), 64)
		if got := Of(n); err != nil || !same(got, want) {
			t.Fatalf("Of(%d) = %v, want %v", n, got, want)
		}
	}
}

// P2.1: Of limits numbers that are not ticks of a table.
func TestOfLimited(t *testing.T) {
	for _, x := range []struct {
		n    int
		want float64
	}{
		{math.MinInt, 0}, {math.MinInt32, 0}, {-api.MaxTime, 0}, {-1, 0},
		{api.MaxTime + 1, most}, {2 * api.MaxTime, most},
		{api.MaxTick, most}, {api.MaxTick + 1, most}, {1 << 32, most}, {1 << 40, most}, {math.MaxInt, most},
	} {
		if got := Of(x.n); !same(got, x.want) {
			t.Errorf("Of(%d) = %v, want %v", x.n, got, x.want)
		}
	}
}

// P2.2: Clean, its edges, and each special value.
func TestClean(t *testing.T) {
	for _, x := range []struct{ s, want float64 }{
		{0, 0}, {minus, 0}, {-tiny, 0}, {-0.1, 0}, {-1000, 0}, {-math.MaxFloat64, 0}, {-inf, 0},
		{above, most}, {999.95, most}, {1000, most}, {1e300, most}, {math.MaxFloat64, most}, {inf, most},
	} {
		if got := Clean(x.s); !same(got, x.want) {
			t.Errorf("Clean(%v) = %v, want %v", x.s, got, x.want)
		}
	}
	for _, s := range nans {
		if got := Clean(s); !same(got, 0) {
			t.Errorf("Clean(%v) = %v, want 0", s, got)
		}
	}
}

// P2.2: Clean returns all others as they are, not rounded to tenths.
func TestCleanKeeps(t *testing.T) {
	for _, s := range []float64{tiny, 1e-310, 1e-9, 0.05, 0.1, 0.123456789, 1, 1.5, 500, 999, 999.85, below, most} {
		if got := Clean(s); !same(got, s) {
			t.Errorf("Clean(%v) = %v, want the same", s, got)
		}
	}
}

// P2.2: Longer, in both orders.
func TestLonger(t *testing.T) {
	for _, x := range []struct{ small, great float64 }{
		{1, 2}, {-2, -1}, {-1, 1}, {3, 3}, {0.1, math.Nextafter(0.1, 1)}, {-tiny, tiny},
		{minus, 0}, {0, 0}, {minus, minus}, {minus, tiny}, {-tiny, minus}, {-tiny, 0}, {-1, minus}, {0, 1},
		{1, inf}, {-inf, 1}, {-inf, inf}, {inf, inf}, {-inf, -inf}, {-inf, minus}, {math.MaxFloat64, inf},
		{most, 1000}, {1000, 1e300}, {-1000, -5},
	} {
		if got := Longer(x.small, x.great); !same(got, x.great) {
			t.Errorf("Longer(%v, %v) = %v, want %v", x.small, x.great, got, x.great)
		}
		if got := Longer(x.great, x.small); !same(got, x.great) {
			t.Errorf("Longer(%v, %v) = %v, want %v", x.great, x.small, got, x.great)
		}
	}
}

// P2.2: Longer is NaN if either argument is, also beside an infinity.
func TestLongerNaN(t *testing.T) {
	for _, s := range nans {
		for _, other := range []float64{-inf, -1, minus, 0, tiny, 1, most, 1e300, inf, nan} {
			if got := Longer(s, other); !math.IsNaN(got) {
				t.Errorf("Longer(%v, %v) = %v, want NaN", s, other, got)
			}
			if got := Longer(other, s); !math.IsNaN(got) {
				t.Errorf("Longer(%v, %v) = %v, want NaN", other, s, got)
			}
		}
	}
}

// P2.3: Ticks undoes Of.
func TestTicksOf(t *testing.T) {
	for n := range api.MaxTime + 1 {
		if got, ok := Ticks(Of(n)); got != n || !ok {
			t.Fatalf("Ticks(Of(%d)) = %d, %t", n, got, ok)
		}
	}
}

// P2.3: Ticks does not decrease, over steps that are no tenths, and over the smallest ones beside each half.
func TestTicksAscends(t *testing.T) {
	was := 0
	rise := func(s float64) {
		got, ok := Ticks(s)
		if !ok || got < was {
			t.Fatalf("Ticks(%v) = %d, %t behind %d", s, got, ok, was)
		}
		was = got
	}
	for s := 0.0; s <= most; s += 1.0 / 512 {
		rise(s)
	}
	was = 0
	for n := range api.MaxTime {
		half := (float64(n) + 0.5) / 10
		rise(math.Nextafter(half, 0))
		rise(half)
		rise(math.Nextafter(half, inf))
	}
}
