package set

import (
	"math"
	"slices"
	"testing"

	"crossbuck/api"
)

// others are numbers that are not phases: beside the phases, and those that a narrower number, or a shift that wraps round, takes for one.
var others = []int{
	math.MinInt, math.MinInt + 1, math.MinInt + 7, math.MinInt32, -256, -255, -64, -63, -9, -8, -7, -2, -1,
	8, 9, 15, 16, 31, 32, 33, 63, 64, 65, 71, 127, 128, 255, 256, 257, 263, 1 << 16, 1<<16 + 2,
	math.MaxInt32, 1 << 32, 1<<32 + 3, 1 << 62, math.MaxInt - 7, math.MaxInt - 1, math.MaxInt,
}

// above are bits beyond the lowest eight.
var above = []int{0, 1 << 8, 1 << 9, 0xFF00, 1 << 31, 1 << 32, 0xFF << 32, 1 << 62, math.MaxInt &^ 255, math.MinInt, -256}

// forAll calls f for every set, with and without bits beyond the lowest eight: the argument, and the phases that it has.
func forAll(f func(s int, has [api.Phases]bool)) {
	for low := range 256 {
		var has [api.Phases]bool
		for p, rest := 0, low; p < api.Phases; p, rest = p+1, rest/2 {
			has[p] = rest%2 == 1
		}
		for _, high := range above {
			f(high|low, has)
		}
	}
}

// number is a set by sums of powers.
func number(has [api.Phases]bool) int {
	n, power := 0, 1
	for _, h := range has {
		if h {
			n += power
		}
		power *= 2
	}
	return n
}

// list is the phases of a set, in ascending order.
func list(has [api.Phases]bool) []int {
	var l []int
	for p, h := range has {
		if h {
			l = append(l, p)
		}
	}
	return l
}

// P3.1: Of, with phases in any order and more than once.
func TestOf(t *testing.T) {
	if got := Of(); got != 0 {
		t.Errorf("Of() = %d, want 0", got)
	}
	for _, x := range []struct {
		l    []int
		want int
	}{
		{nil, 0}, {[]int{}, 0}, {[]int{0}, 1}, {[]int{7}, 128}, {[]int{0, 2}, 5}, {[]int{2, 0}, 5}, {[]int{1, 1}, 2}, {[]int{6, 0, 6, 0, 6}, 65},
		{[]int{0, 1, 2, 3, 4, 5, 6, 7}, 255}, {[]int{7, 6, 5, 4, 3, 2, 1, 0}, 255}, {[]int{3, 5, 7}, 168},
	} {
		if got := Of(x.l...); got != x.want {
			t.Errorf("Of(%d) = %d, want %d", x.l, got, x.want)
		}
	}
	for p := range api.Phases {
		if got, want := Of(p), int(math.Pow(2, float64(p))); got != want {
			t.Errorf("Of(%d) = %d, want %d", p, got, want)
		}
	}
}

// P3.1: Of ignores numbers that are not phases, and only these.
func TestOfIgnores(t *testing.T) {
	if got := Of(others...); got != 0 {
		t.Errorf("Of(%d) = %d, want 0", others, got)
	}
	for _, p := range others {
		if got := Of(p); got != 0 {
			t.Errorf("Of(%d) = %d, want 0", p, got)
		}
		if got := Of(0, p, 3); got != 9 {
			t.Errorf("Of(0, %d, 3) = %d, want 9", p, got)
		}
		if got := Of(p, 7, p); got != 128 {
			t.Errorf("Of(%d, 7, %d) = %d, want 128", p, p, got)
		}
	}
}

// R3: the list is not changed, nor is the memory behind its length.
func TestOfKeepsList(t *testing.T) {
	l := []int{9, 3, -1, 3, 0, 12, 5}
	was := slices.Clone(l)
	Of(l[:4]...)
	if !slices.Equal(l, was) {
		t.Errorf("Of changed its list to %d", l)
	}
}

// P3.1: Has, With and Without of every set and every phase.
func TestPhases(t *testing.T) {
	forAll(func(s int, has [api.Phases]bool) {
		for p := range api.Phases {
			with, without := has, has
			with[p], without[p] = true, false
			if got := Has(s, p); got != has[p] {
				t.Fatalf("Has(%d, %d) = %t", s, p, got)
			}
			if got := With(s, p); got != number(with) {
				t.Fatalf("With(%d, %d) = %d, want %d", s, p, got, number(with))
			}
			if got := Without(s, p); got != number(without) {
				t.Fatalf("Without(%d, %d) = %d, want %d", s, p, got, number(without))
			}
		}
	})
}

// P3.1: Has, With and Without of every set and of numbers that are not phases.
func TestOthers(t *testing.T) {
	forAll(func(s int, has [api.Phases]bool) {
		for _, p := range others {
			if Has(s, p) {
				t.Fatalf("Has(%d, %d) = true", s, p)
			}
			if got := With(s, p); got != number(has) {
				t.Fatalf("With(%d, %d) = %d, want %d", s, p, got, number(has))
			}
			if got := Without(s, p); got != number(has) {
				t.Fatalf("Without(%d, %d) = %d, want %d", s, p, got, number(has))
			}
		}
	})
}

// P3.1: Count and First of every set; First of an empty one is -1, also if there are bits beyond the lowest eight.
func TestCountFirst(t *testing.T) {
	forAll(func(s int, has [api.Phases]bool) {
		l := list(has)
		if got := Count(s); got != len(l) {
			t.Fatalf("Count(%d) = %d, want %d", s, got, len(l))
		}
		want := -1
		if len(l) > 0 {
			want = l[0]
		}
		if got := First(s); got != want {
			t.Fatalf("First(%d) = %d, want %d", s, got, want)
		}
	})
	for _, x := range []struct{ s, count, first int }{
		{0, 0, -1}, {256, 0, -1}, {math.MinInt, 0, -1}, {1, 1, 0}, {128, 1, 7}, {384, 1, 7}, {6, 2, 1}, {255, 8, 0}, {-1, 8, 0}, {math.MaxInt, 8, 0}, {-2, 7, 1},
	} {
		if count, first := Count(x.s), First(x.s); count != x.count || first != x.first {
			t.Errorf("Count, First of %d = %d, %d, want %d, %d", x.s, count, first, x.count, x.first)
		}
	}
}

// P3.1: Each yields the phases of every set in ascending order, as often as it is iterated.
func TestEach(t *testing.T) {
	forAll(func(s int, has [api.Phases]bool) {
		each := Each(s)
		for range 3 {
			var got []int
			for p := range each {
				got = append(got, p)
			}
			if want := list(has); !slices.Equal(got, want) {
				t.Fatalf("Each(%d) yields %d, want %d", s, got, want)
			}
		}
	})
}

// P3.1: a loop over Each may be left behind any of its phases: nothing more is yielded, and the next loop begins anew.
func TestEachLeft(t *testing.T) {
	forAll(func(s int, has [api.Phases]bool) {
		each, want := Each(s), list(has)
		for most := range want {
			var got []int
			each(func(p int) bool {
				got = append(got, p)
				return len(got) <= most
			})
			if !slices.Equal(got, want[:most+1]) {
				t.Fatalf("Each(%d), left behind %d, yields %d", s, most, got)
			}
		}
		if got := slices.Collect(each); !slices.Equal(got, want) {
			t.Fatalf("Each(%d), once left, yields %d, want %d", s, got, want)
		}
	})
}

// P3.1: break, return and a label leave the loop.
func TestEachLeftByWords(t *testing.T) {
	var got []int
	for p := range Each(0b10110110) {
		if p == 4 {
			break
		}
		got = append(got, p)
	}
	second := func() int {
		n := 0
		for p := range Each(0b10110110) {
			if n++; n == 2 {
				return p
			}
		}
		return -1
	}
	got = append(got, second())
outer:
	for p := range Each(0b111) {
		for q := range Each(0b1000011) {
			if q > p {
				continue outer
			}
			if p == 2 {
				break outer
			}
			got = append(got, 10*p+q)
		}
	}
	if want := []int{1, 2, 2, 0, 10, 11}; !slices.Equal(got, want) {
		t.Errorf("the loops got %d, want %d", got, want)
	}
}

// P3.1: loops over one iterator do not disturb each other, one inside of the other.
func TestEachNested(t *testing.T) {
	each := Each(0b10010100)
	var got []int
	for p := range each {
		for q := range each {
			got = append(got, 10*p+q)
		}
	}
	if want := []int{22, 24, 27, 42, 44, 47, 72, 74, 77}; !slices.Equal(got, want) {
		t.Errorf("the loops got %d, want %d", got, want)
	}
}

// P3.2: Of undoes Each, but for the bits beyond the lowest eight.
func TestOfEach(t *testing.T) {
	forAll(func(s int, has [api.Phases]bool) {
		if got := Of(slices.Collect(Each(s))...); got != number(has) {
			t.Fatalf("Of the phases of %d is %d, want %d", s, got, number(has))
		}
	})
}
