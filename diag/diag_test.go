package diag

import (
	"math"
	"math/rand"
	"testing"

	"crossbuck/api"
)

// counts are numbers of all kinds, with what one more than each is.
var counts = []struct{ n, more int }{
	{0, 1}, {1, 2}, {2, 3}, {3, 4}, {255, 256}, {256, 257}, {5000, 5001}, {9997, 9998}, {9998, 9999}, {9999, 10000},
	{10000, 10000}, {10001, 10000}, {65535, 10000}, {65536, 10000}, {1 << 31, 10000}, {1 << 32, 10000}, {1<<32 + 5, 10000}, {math.MaxInt - 1, 10000}, {math.MaxInt, 10000},
	{-1, 1}, {-2, 1}, {-9999, 1}, {-10000, 1}, {math.MinInt32, 1}, {-(1 << 32), 1}, {-(1 << 32) + 5, 1}, {math.MinInt + 1, 1}, {math.MinInt, 1},
}

func step(t *testing.T, s api.Watch, in bool, want api.Watch) {
	t.Helper()
	if got := Step(s, in); got != want {
		t.Errorf("Step(%v, %t) = %v, want %v", s, in, got, want)
	}
}

func stuck(t *testing.T, maxOn, maxOff int, s api.Watch, want bool) {
	t.Helper()
	if got := Stuck(maxOn, maxOff, s); got != want {
		t.Errorf("Stuck(%d, %d, %v) = %t", maxOn, maxOff, s, got)
	}
}

// P13.1: On or Off is one more, by what the input is, and the other is 0, whatever both were.
func TestStep(t *testing.T) {
	for _, on := range counts {
		for _, off := range counts {
			s := api.Watch{On: on.n, Off: off.n}
			step(t, s, true, api.Watch{On: on.more})
			step(t, s, false, api.Watch{Off: off.more})
		}
	}
}

// P13.1: an input that does not change is counted up to the end of the counts, and a changed one from 1 on.
func TestStepEndless(t *testing.T) {
	on, off := api.Watch{}, api.Watch{}
	for n := 1; n <= 2*api.MaxTime; n++ {
		on, off = Step(on, true), Step(off, false)
		want := min(n, api.MaxTime+1)
		if on != (api.Watch{On: want}) || off != (api.Watch{Off: want}) {
			t.Fatalf("after %d ticks %v and %v", n, on, off)
		}
	}
	step(t, on, false, api.Watch{Off: 1})
	step(t, off, true, api.Watch{On: 1})
}

// P13.1: a detector is stuck by its On, by its Off, by both, each at its limit and above it, but not below it.
func TestStuck(t *testing.T) {
	for _, x := range []struct {
		maxOn, maxOff, on, off int
		want                   bool
	}{
		{5, 7, 0, 0, false}, {5, 7, 4, 0, false}, {5, 7, 0, 6, false}, {5, 7, 4, 6, false},
		{5, 7, 5, 0, true}, {5, 7, 6, 0, true}, {5, 7, 5, 6, true}, {5, 7, 9, 6, true},
		{5, 7, 0, 7, true}, {5, 7, 0, 8, true}, {5, 7, 4, 7, true}, {5, 7, 4, 9, true},
		{5, 7, 5, 7, true}, {5, 7, 9, 9, true},
		{7, 5, 5, 4, false}, {7, 5, 6, 4, false}, {7, 5, 7, 4, true}, {7, 5, 6, 5, true},
		{5, 0, 4, 9, false}, {5, 0, 4, 0, false}, {5, 0, 5, 0, true}, {5, 0, 5, 9, true}, {5, 0, 4, math.MaxInt, false},
		{0, 7, 9, 6, false}, {0, 7, 0, 6, false}, {0, 7, 0, 7, true}, {0, 7, 9, 7, true}, {0, 7, math.MaxInt, 6, false},
		{1, 1, 0, 0, false}, {1, 1, 1, 0, true}, {1, 1, 0, 1, true}, {1, 0, 1, 0, true}, {0, 1, 0, 1, true}, {1, 0, 0, 1, false}, {0, 1, 1, 0, false},
		{5, 7, -5, -7, false}, {5, 7, -5, 7, true}, {5, 7, 5, -7, true},
		{9999, 9999, 9998, 9998, false}, {9999, 9999, 9999, 0, true}, {9999, 9999, 0, 9999, true},
	} {
		stuck(t, x.maxOn, x.maxOff, api.Watch{On: x.on, Off: x.off}, x.want)
	}
}

// P13.1: a limit of 0 or below does not count, not even for a count that is as far below.
func TestStuckNoLimit(t *testing.T) {
	for _, limit := range counts {
		if limit.n > 0 {
			continue
		}
		for _, n := range counts {
			s := api.Watch{On: n.n, Off: n.n}
			stuck(t, limit.n, 0, s, false)
			stuck(t, 0, limit.n, s, false)
			stuck(t, limit.n, limit.n, s, false)
			stuck(t, limit.n, 5, s, n.n >= 5)
			stuck(t, 5, limit.n, s, n.n >= 5)
		}
	}
}

// P13.1: neither the limits of Stuck nor its counts are limited to what the table or Step may have.
func TestStuckWide(t *testing.T) {
	for _, limit := range counts {
		for _, n := range counts {
			want := limit.n > 0 && n.n >= limit.n
			stuck(t, limit.n, 0, api.Watch{On: n.n}, want)
			stuck(t, limit.n, 0, api.Watch{On: n.n, Off: math.MaxInt}, want)
			stuck(t, 0, limit.n, api.Watch{Off: n.n}, want)
			stuck(t, 0, limit.n, api.Watch{On: math.MaxInt, Off: n.n}, want)
		}
	}
}

// wordedMore is "one more" of DOC.md.
func wordedMore(n int) int {
	if n < 0 {
		n = 0
	}
	if n > api.MaxTime {
		n = api.MaxTime
	}
	return n + 1
}

// wordedStep is the first sentence of P13.1.
func wordedStep(s api.Watch, in bool) api.Watch {
	next := api.Watch{On: wordedMore(s.On), Off: wordedMore(s.Off)}
	if !in {
		next.On = 0
	}
	if in {
		next.Off = 0
	}
	return next
}

// wordedStuck is the second sentence of P13.1.
func wordedStuck(maxOn, maxOff int, s api.Watch) bool {
	limits, counted := []int{maxOn, maxOff}, []int{s.On, s.Off}
	for i, limit := range limits {
		if limit > 0 && !(counted[i] < limit) {
			return true
		}
	}
	return false
}

// drawn is a small number or any of counts.
func drawn(r *rand.Rand) int {
	if r.Intn(2) == 0 {
		return r.Intn(16) - 2
	}
	return counts[r.Intn(len(counts))].n
}

// P13.1: Step and Stuck are what the words say, in sequences of drawn inputs; R4: and the same in a second call.
func TestWorded(t *testing.T) {
	r := rand.New(rand.NewSource(13))
	seen := map[bool]int{}
	for range 4000 {
		maxOn, maxOff := drawn(r), drawn(r)
		s := api.Watch{On: drawn(r), Off: drawn(r)}
		long := 1 + r.Intn(6)
		for range 30 {
			want := wordedStuck(maxOn, maxOff, s)
			seen[want]++
			stuck(t, maxOn, maxOff, s, want)
			stuck(t, maxOn, maxOff, s, want)
			in := r.Intn(long) > 0
			next := wordedStep(s, in)
			step(t, s, in, next)
			step(t, s, in, next)
			s = next
		}
	}
	if seen[true] < 5000 || seen[false] < 5000 {
		t.Errorf("drawn: %v", seen)
	}
}

// lasts tells for how many ticks up to tick i the input has been what it is there.
func lasts(in, i int) int {
	n := 1
	for n <= i && in>>(i-n)&1 == in>>i&1 {
		n++
	}
	return n
}

// P13.2: over all inputs of some ticks, the detector is stuck in exactly the ticks up to which the input has not changed for as long as the limit of what it is; P13.1: and the limit of the other does not count.
func TestChanges(t *testing.T) {
	const ticks = 11
	for maxOn := -1; maxOn <= 5; maxOn++ {
		for maxOff := -1; maxOff <= 5; maxOff++ {
			for in := range 1 << ticks {
				s := api.Watch{}
				for i := range ticks {
					s = Step(s, in>>i&1 == 1)
					limit := maxOff
					if in>>i&1 == 1 {
						limit = maxOn
					}
					want := limit > 0 && lasts(in, i) >= limit
					if Stuck(maxOn, maxOff, s) != want {
						t.Fatalf("limits %d and %d, inputs %011b: Stuck is %t in tick %d", maxOn, maxOff, in, !want, i)
					}
				}
			}
		}
	}
}

// stays makes n ticks of one input from s on, and tells the first of them in which the detector is stuck (-1: none).
func stays(maxOn, maxOff int, s api.Watch, in bool, n int) (api.Watch, int) {
	first := -1
	for i := range n {
		s = Step(s, in)
		if first < 0 && Stuck(maxOn, maxOff, s) {
			first = i
		}
	}
	return s, first
}

// P13.2: an input that changes just before the limits is never stuck, and one that changes a tick later is, at both ends of the times.
func TestOftenEnough(t *testing.T) {
	for _, maxOn := range []int{2, 3, 30, 9999, 10000} {
		for _, maxOff := range []int{2, 3, 30, 9999, 10000} {
			s, first := api.Watch{}, -1
			for round := range 4 {
				if s, first = stays(maxOn, maxOff, s, true, maxOn-1); first >= 0 {
					t.Fatalf("limits %d and %d: stuck on in round %d", maxOn, maxOff, round)
				}
				if s, first = stays(maxOn, maxOff, s, false, maxOff-1); first >= 0 {
					t.Fatalf("limits %d and %d: stuck off in round %d", maxOn, maxOff, round)
				}
			}
			if _, first = stays(maxOn, maxOff, s, true, maxOn); first != maxOn-1 {
				t.Errorf("limits %d and %d: stuck on from tick %d on", maxOn, maxOff, first)
			}
			if _, first = stays(maxOn, maxOff, Step(s, true), false, maxOff); first != maxOff-1 {
				t.Errorf("limits %d and %d: stuck off from tick %d on", maxOn, maxOff, first)
			}
		}
	}
}

// P13.2: one that is stuck is not so any more in the tick in which its input changes, whatever has been counted; but a limit of 1 allows no tick at all.
func TestChangeFrees(t *testing.T) {
	for _, n := range counts {
		on, off := api.Watch{On: n.n}, api.Watch{Off: n.n}
		stuck(t, 5, 2, on, n.n >= 5)
		stuck(t, 5, 2, Step(on, false), false)
		stuck(t, 5, 1, Step(on, false), true)
		stuck(t, 2, 5, off, n.n >= 5)
		stuck(t, 2, 5, Step(off, true), false)
		stuck(t, 1, 5, Step(off, true), true)
	}
}

// P13.1: an input that does not change is not stuck where the limit is 0 or above all counts, however long it stays.
func TestNeverStuck(t *testing.T) {
	for _, limit := range []int{math.MinInt, -1, 0, api.MaxTime + 2, 1 << 32, math.MaxInt} {
		for _, in := range []bool{true, false} {
			if s, first := stays(limit, limit, api.Watch{}, in, 2*api.MaxTime); first >= 0 {
				t.Errorf("limit %d, input %t: stuck from tick %d on, %v", limit, in, first, s)
			}
		}
	}
	for _, in := range []bool{true, false} {
		if _, first := stays(api.MaxTime+1, api.MaxTime+1, api.Watch{}, in, 2*api.MaxTime); first != api.MaxTime {
			t.Errorf("limit %d, input %t: stuck from tick %d on", api.MaxTime+1, in, first)
		}
	}
}

// The example of the chapter.
func TestExample(t *testing.T) {
	s := Step(api.Watch{}, true)
	stuck(t, 2, 0, s, false)
	s = Step(s, true)
	stuck(t, 2, 0, s, true)
	stuck(t, 2, 0, Step(s, false), false)
}
