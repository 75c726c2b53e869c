package gap

import (
	"math"
	"math/rand"
	"testing"

	"crossbuck/api"
	"crossbuck/check"
)

// numbers are of all kinds: within the ranges of a table, at their ends, beyond them, and such that must not overflow.
var numbers = []int{
	0, 1, 2, 3, 20, 255, 256, 257, 5000, 9997, 9998, 9999,
	10000, 10001, 65535, 65536, math.MaxInt32, 1 << 31, 1 << 32, 1<<32 + 5, 1 << 62, math.MaxInt - 1, math.MaxInt,
	-1, -2, -20, -9999, -10000, math.MinInt32, -(1 << 32), -(1 << 32) + 5, math.MinInt + 1, math.MinInt,
}

// times are numbers that a table may have, with both ends.
var times = []int{0, 1, 2, 3, 4, 5, 19, 20, 21, 255, 256, 4999, 5000, 5001, 9997, 9998, 9999}

func left(t *testing.T, p api.Phase, n int, here bool, want int) {
	t.Helper()
	if got := Left(p, n, here); got != want {
		t.Fatalf("Left(Gap %d, %d, %t) = %d, want %d", p.Gap, n, here, got, want)
	}
}

func limit(t *testing.T, p api.Phase, s api.Trend, want int) {
	t.Helper()
	if got := Limit(p, s); got != want {
		t.Fatalf("Limit(Max %d, Top %d, %v) = %d, want %d", p.Max, p.Top, s, got, want)
	}
}

func grow(t *testing.T, p api.Phase, s api.Trend, maxed bool, want api.Trend) {
	t.Helper()
	if got := Grow(p, s, maxed); got != want {
		t.Fatalf("Grow(Max %d, Top %d, Step %d, %v, %t) = %v, want %v", p.Max, p.Top, p.Step, s, maxed, got, want)
	}
}

// P16.1: with a car here, the gap timer is the Gap, as it is, whatever was left.
func TestLeftHere(t *testing.T) {
	for _, g := range numbers {
		for _, n := range numbers {
			left(t, api.Phase{Gap: g}, n, true, g)
		}
	}
}

// P16.1: without one, it is one less, from 0 to MaxTime - 1, whatever the Gap.
func TestLeftAway(t *testing.T) {
	for _, g := range numbers {
		p := api.Phase{Gap: g}
		for _, x := range [][2]int{
			{1, 0}, {2, 1}, {3, 2}, {20, 19}, {256, 255}, {9997, 9996}, {9998, 9997}, {9999, 9998},
			{10000, 9998}, {10001, 9998}, {65536, 9998}, {1 << 31, 9998}, {1 << 32, 9998}, {1<<32 + 5, 9998}, {1 << 62, 9998}, {math.MaxInt, 9998},
			{0, 0}, {-1, 0}, {-2, 0}, {-9999, 0}, {math.MinInt32, 0}, {-(1 << 32) + 5, 0}, {math.MinInt + 1, 0}, {math.MinInt, 0},
		} {
			left(t, p, x[0], false, x[1])
		}
	}
}

// P16.1: a gap ends as many ticks after the last car as the Gap says, and stays at 0.
func TestLeftRuns(t *testing.T) {
	for _, g := range times {
		p := api.Phase{Gap: g}
		n := Left(p, 7, true)
		for i := range g + 3 {
			if n != max(g-i, 0) {
				t.Fatalf("Gap %d: after %d ticks %d are left", g, i, n)
			}
			n = Left(p, n, false)
		}
		left(t, p, n, true, g)
	}
}

// P16.1: Begin has the Max, as it is, and nothing else.
func TestBegin(t *testing.T) {
	for _, m := range numbers {
		p := api.Phase{On: true, Min: 3, Gap: 4, Max: m, Top: 6, Step: 7, Yellow: 8, Red: 9, Walk: 10, Blinks: 11, Recall: 2, Lock: true, Rest: true}
		if got := Begin(p); got != (api.Trend{Limit: m}) {
			t.Errorf("Begin(Max %d) = %v", m, got)
		}
	}
}

// P16.1: the limit is that of the trend between Max and Top; a Top below Max does not count.
func TestLimit(t *testing.T) {
	for _, x := range []struct{ max, top, limit, want int }{
		{20, 30, 20, 20}, {20, 30, 21, 21}, {20, 30, 25, 25}, {20, 30, 29, 29}, {20, 30, 30, 30},
		{20, 30, 19, 20}, {20, 30, 0, 20}, {20, 30, -1, 20}, {20, 30, math.MinInt, 20},
		{20, 30, 31, 30}, {20, 30, 9999, 30}, {20, 30, math.MaxInt, 30},
		{20, 20, 19, 20}, {20, 20, 20, 20}, {20, 20, 21, 20},
		{20, 10, 5, 20}, {20, 10, 10, 20}, {20, 10, 15, 20}, {20, 10, 20, 20}, {20, 10, 25, 20},
		{0, 0, 0, 0}, {0, 0, 5, 0}, {0, 0, -5, 0}, {0, 9999, 5, 5}, {0, 9999, 9999, 9999}, {0, 9999, 10000, 9999},
		{-20, -10, -15, -15}, {-20, -10, 0, -10}, {-20, -10, -30, -20}, {-10, -20, -15, -10}, {-5, 5, 0, 0},
		{10000, 20000, 15000, 15000}, {math.MinInt, math.MaxInt, 7, 7}, {math.MaxInt, math.MinInt, 7, math.MaxInt}, {math.MinInt, math.MinInt, 7, math.MinInt},
	} {
		for _, n := range []int{0, 1, 2, -1, math.MaxInt} {
			limit(t, api.Phase{Max: x.max, Top: x.top}, api.Trend{Limit: x.limit, Up: n, Down: n}, x.want)
		}
	}
}

// wordedLimit is P16.1: the Limit of s, but at most the Top, and then at least the Max.
func wordedLimit(p api.Phase, s api.Trend) int {
	n := s.Limit
	if n > p.Top {
		n = p.Top
	}
	if n < p.Max {
		n = p.Max
	}
	return n
}

// P16.1: Limit is what the words say, for numbers of all kinds.
func TestLimitWorded(t *testing.T) {
	for _, m := range numbers {
		for _, top := range numbers {
			for _, n := range numbers {
				p, s := api.Phase{Max: m, Top: top}, api.Trend{Limit: n}
				limit(t, p, s, wordedLimit(p, s))
			}
		}
	}
}

// P16.2: each first and each second green time of a kind, within the limits and at them.
func TestGrow(t *testing.T) {
	p := api.Phase{Max: 20, Top: 33, Step: 5}
	for _, x := range []struct {
		limit, up, down int
		maxed           bool
		want            api.Trend
	}{
		{20, 0, 0, true, api.Trend{Limit: 20, Up: 1}}, {25, 0, 0, true, api.Trend{Limit: 25, Up: 1}}, {33, 0, 0, true, api.Trend{Limit: 33, Up: 1}},
		{20, 1, 0, true, api.Trend{Limit: 25}}, {25, 1, 0, true, api.Trend{Limit: 30}}, {27, 1, 0, true, api.Trend{Limit: 32}}, {28, 1, 0, true, api.Trend{Limit: 33}}, {29, 1, 0, true, api.Trend{Limit: 33}}, {33, 1, 0, true, api.Trend{Limit: 33}},
		{20, 0, 0, false, api.Trend{Limit: 20, Down: 1}}, {25, 0, 0, false, api.Trend{Limit: 25, Down: 1}}, {33, 0, 0, false, api.Trend{Limit: 33, Down: 1}},
		{33, 0, 1, false, api.Trend{Limit: 28}}, {30, 0, 1, false, api.Trend{Limit: 25}}, {26, 0, 1, false, api.Trend{Limit: 21}}, {25, 0, 1, false, api.Trend{Limit: 20}}, {24, 0, 1, false, api.Trend{Limit: 20}}, {20, 0, 1, false, api.Trend{Limit: 20}},
		{25, 0, 1, true, api.Trend{Limit: 25, Up: 1}}, {25, 1, 1, true, api.Trend{Limit: 30}},
		{25, 1, 0, false, api.Trend{Limit: 25, Down: 1}}, {25, 1, 1, false, api.Trend{Limit: 20}},
	} {
		grow(t, p, api.Trend{Limit: x.limit, Up: x.up, Down: x.down}, x.maxed, x.want)
	}
}

// P16.2: Up and Down are limited to 0 to 1 first, and the Limit to Max to Top before a Step is made.
func TestGrowLimits(t *testing.T) {
	p := api.Phase{Max: 20, Top: 33, Step: 5}
	for _, n := range numbers {
		for _, other := range numbers {
			first := api.Trend{Limit: 25, Up: 1}
			if n >= 1 {
				first = api.Trend{Limit: 30}
			}
			grow(t, p, api.Trend{Limit: 25, Up: n, Down: other}, true, first)
			second := api.Trend{Limit: 25, Down: 1}
			if n >= 1 {
				second = api.Trend{Limit: 20}
			}
			grow(t, p, api.Trend{Limit: 25, Up: other, Down: n}, false, second)
		}
		if n < 20 {
			grow(t, p, api.Trend{Limit: n}, true, api.Trend{Limit: 20, Up: 1})
			grow(t, p, api.Trend{Limit: n, Up: 1}, true, api.Trend{Limit: 25})
			grow(t, p, api.Trend{Limit: n}, false, api.Trend{Limit: 20, Down: 1})
			grow(t, p, api.Trend{Limit: n, Down: 1}, false, api.Trend{Limit: 20})
		}
		if n > 33 {
			grow(t, p, api.Trend{Limit: n}, true, api.Trend{Limit: 33, Up: 1})
			grow(t, p, api.Trend{Limit: n, Up: 1}, true, api.Trend{Limit: 33})
			grow(t, p, api.Trend{Limit: n}, false, api.Trend{Limit: 33, Down: 1})
			grow(t, p, api.Trend{Limit: n, Down: 1}, false, api.Trend{Limit: 28})
		}
	}
}

// P16.2: phases at the ends of the ranges, also such that no well-formed table has: without a Step, with a Step beyond all limits, with a Top below Max.
func TestGrowEnds(t *testing.T) {
	for _, x := range []struct{ max, top, step, limit, up, down int }{
		{20, 33, 0, 25, 25, 25}, {20, 33, 1, 25, 26, 24}, {20, 33, 9999, 25, 33, 20}, {20, 20, 5, 20, 20, 20},
		{0, 0, 0, 0, 0, 0}, {0, 0, 9999, 0, 0, 0}, {0, 9999, 9999, 0, 9999, 0}, {0, 9999, 9999, 9999, 9999, 0}, {0, 9999, 9999, 5000, 9999, 0}, {0, 9999, 9998, 0, 9998, 0}, {0, 9999, 9998, 9999, 9999, 1},
		{9999, 9999, 9999, 9999, 9999, 9999}, {9998, 9999, 1, 9998, 9999, 9998}, {9998, 9999, 1, 9999, 9999, 9998},
		{20, 10, 5, 20, 20, 20}, {20, 10, 5, 15, 20, 20}, {20, 10, 9999, 12, 20, 20}, {9999, 0, 5, 9999, 9999, 9999},
	} {
		p := api.Phase{Max: x.max, Top: x.top, Step: x.step}
		grow(t, p, api.Trend{Limit: x.limit, Up: 1}, true, api.Trend{Limit: x.up})
		grow(t, p, api.Trend{Limit: x.limit, Down: 1}, false, api.Trend{Limit: x.down})
	}
}

func limited(n, a, b int) int {
	if n < a {
		return a
	}
	if n > b {
		return b
	}
	return n
}

// wordedGrow is P16.2, in the order of its words.
func wordedGrow(p api.Phase, s api.Trend, maxed bool) api.Trend {
	s.Up, s.Down = limited(s.Up, 0, 1), limited(s.Down, 0, 1)
	s.Limit = wordedLimit(p, s)
	if maxed {
		s.Up++
		s.Down = 0
		if s.Up == 2 {
			s.Up = 0
			s.Limit += p.Step
			s.Limit = wordedLimit(p, s)
		}
		return s
	}
	s.Down++
	s.Up = 0
	if s.Down == 2 {
		s.Down = 0
		s.Limit -= p.Step
		s.Limit = wordedLimit(p, s)
	}
	return s
}

// P16.2: Grow is what the words say, for all phases of some numbers, and for trends of all kinds.
func TestGrowWorded(t *testing.T) {
	some := []int{0, 1, 2, 5, 20, 9998, 9999}
	for _, m := range some {
		for _, top := range some {
			for _, step := range some {
				p := api.Phase{Max: m, Top: top, Step: step}
				for _, n := range numbers {
					for both := range 16 {
						s := api.Trend{Limit: n, Up: both%4 - 1, Down: both/4 - 1}
						grow(t, p, s, true, wordedGrow(p, s, true))
						grow(t, p, s, false, wordedGrow(p, s, false))
					}
				}
			}
		}
	}
}

func drawnTime(r *rand.Rand) int {
	if r.Intn(2) == 0 {
		return r.Intn(40)
	}
	return times[r.Intn(len(times))]
}

// drawn is a small number or one of numbers.
func drawn(r *rand.Rand) int {
	if r.Intn(2) == 0 {
		return r.Intn(40) - 2
	}
	return numbers[r.Intn(len(numbers))]
}

func drawnPhase(r *rand.Rand) api.Phase {
	return api.Phase{
		On: r.Intn(2) == 0, Lock: r.Intn(2) == 0, Rest: r.Intn(2) == 0, Recall: r.Intn(4),
		Min: drawnTime(r), Gap: drawnTime(r), Max: drawnTime(r), Top: drawnTime(r), Step: drawnTime(r),
		Yellow: drawnTime(r), Red: drawnTime(r), Walk: drawnTime(r), Blinks: drawnTime(r),
	}
}

// P16.1, P16.2: in sequences of drawn green times; R4: and the same in a second call.
func TestWorded(t *testing.T) {
	r := rand.New(rand.NewSource(16))
	seen := map[api.Trend]bool{}
	for range 4000 {
		p := drawnPhase(r)
		s := api.Trend{Limit: drawn(r), Up: drawn(r), Down: drawn(r)}
		often := 1 + r.Intn(4)
		for range 20 {
			limit(t, p, s, wordedLimit(p, s))
			maxed := r.Intn(often) > 0
			next := wordedGrow(p, s, maxed)
			grow(t, p, s, maxed, next)
			grow(t, p, s, maxed, next)
			s = next
			seen[s] = true
		}
	}
	if len(seen) < 500 {
		t.Errorf("drawn: %d different trends", len(seen))
	}
}

// R4: of the phase, only the Gap counts for Left, only the Max for Begin, only Max and Top for Limit, and beside them only the Step for Grow.
func TestOtherFields(t *testing.T) {
	r := rand.New(rand.NewSource(160))
	for range 20000 {
		p, o := drawnPhase(r), drawnPhase(r)
		n, here := drawn(r), r.Intn(2) == 0
		s := api.Trend{Limit: drawn(r), Up: drawn(r), Down: drawn(r)}
		o.Gap = p.Gap
		left(t, o, n, here, Left(p, n, here))
		o.Gap, o.Max = p.Gap+1, p.Max
		if Begin(o) != Begin(p) {
			t.Fatalf("Begin of %+v = %v", o, Begin(o))
		}
		o.Top = p.Top
		limit(t, o, s, Limit(p, s))
		o.Step = p.Step
		grow(t, o, s, here, Grow(p, s, here))
	}
}

// wellFormed reports whether a table with p as its only phase is well-formed.
func wellFormed(p api.Phase) bool {
	x := api.Table{Groups: [][2][]int{{{0}, nil}}}
	x.Phases[0] = p
	x.Flash[0] = api.FlashRed
	return check.Check(x) == api.Fault{}
}

// lastsFor makes n green times of one kind.
func lastsFor(p api.Phase, s api.Trend, maxed bool, n int) api.Trend {
	for range n {
		s = Grow(p, s, maxed)
	}
	return s
}

// P16.3: from each trend of each small well-formed phase, two green times that reached the limit make it greater by a Step, but at most Top, and two that did not make it smaller by one, but at least Max.
func TestTwoGreens(t *testing.T) {
	phases := 0
	for m := 1; m <= 6; m++ {
		for top := m; top <= 14; top++ {
			for step := 0; step <= 15; step++ {
				p := api.Phase{On: true, Min: 1, Max: m, Top: top, Step: step, Yellow: 10}
				if !wellFormed(p) {
					continue
				}
				phases++
				twoGreens(t, p)
			}
		}
	}
	if phases < 900 {
		t.Errorf("%d phases", phases)
	}
}

func twoGreens(t *testing.T, p api.Phase) {
	t.Helper()
	for n := p.Max; n <= p.Top; n++ {
		for _, s := range []api.Trend{{Limit: n}, {Limit: n, Up: 1}, {Limit: n, Down: 1}} {
			up, down := Limit(p, lastsFor(p, s, true, 2)), Limit(p, lastsFor(p, s, false, 2))
			if up != min(n+p.Step, p.Top) || up == n && n < p.Top {
				t.Fatalf("%+v: from %v up to %d", p, s, up)
			}
			if down != max(n-p.Step, p.Max) || down == n && n > p.Max {
				t.Fatalf("%+v: from %v down to %d", p, s, down)
			}
		}
	}
}

// P16.3: the limit comes to Top and stays there, and back to Max and stays there, at each second green time.
func TestUpAndDown(t *testing.T) {
	for _, x := range []struct{ max, top, step int }{{20, 33, 5}, {20, 30, 5}, {1, 9999, 1}, {1, 9999, 9999}, {9999, 9999, 9999}, {20, 20, 0}, {500, 2000, 7}} {
		p := api.Phase{On: true, Min: 1, Max: x.max, Top: x.top, Step: x.step, Yellow: 10}
		if !wellFormed(p) {
			t.Fatalf("%+v is not well-formed", p)
		}
		s, last := Begin(p), 2*(x.top-x.max)+8
		for i := range last {
			if want := min(x.max+i/2*x.step, x.top); Limit(p, s) != want || s.Limit != want {
				t.Fatalf("%+v: after %d green times %v, want %d", p, i, s, want)
			}
			s = Grow(p, s, true)
		}
		for i := range last {
			if want := max(x.top-i/2*x.step, x.max); Limit(p, s) != want || s.Limit != want {
				t.Fatalf("%+v: back after %d green times %v, want %d", p, i, s, want)
			}
			s = Grow(p, s, false)
		}
	}
}

// P16.3: green times of the two kinds in turn change nothing, and a green time of the other kind makes the next two count anew.
func TestInTurn(t *testing.T) {
	p := api.Phase{Max: 20, Top: 33, Step: 5}
	for _, first := range []bool{true, false} {
		s := api.Trend{Limit: 26}
		for i := range 2 * api.MaxTime {
			s = Grow(p, s, (i%2 == 0) == first)
			if s.Limit != 26 {
				t.Fatalf("%d green times in turn: %v", i+1, s)
			}
		}
		grow(t, p, Grow(p, s, first), first, map[bool]api.Trend{true: {Limit: 31}, false: {Limit: 21}}[first])
	}
}

// P16.3: in drawn sequences, the limit never leaves Max to Top, and it changes only at a second green time of a kind, in its direction.
func TestSequences(t *testing.T) {
	r := rand.New(rand.NewSource(161))
	changes := map[bool]int{}
	for range 2000 {
		p := api.Phase{On: true, Min: 1, Max: 1 + r.Intn(40), Step: 1 + r.Intn(9), Yellow: 10}
		p.Top = p.Max + r.Intn(40)
		s, alike, was := Begin(p), 0, false
		for range 60 {
			maxed := r.Intn(3) > 0 == (r.Intn(4) > 0)
			if maxed != was {
				alike = 0
			}
			alike, was = alike+1, maxed
			want := s.Limit
			switch {
			case alike%2 == 0 && maxed:
				want = min(s.Limit+p.Step, p.Top)
			case alike%2 == 0:
				want = max(s.Limit-p.Step, p.Max)
			}
			next := Grow(p, s, maxed)
			if next.Limit != want || Limit(p, next) != want || want < p.Max || want > p.Top {
				t.Fatalf("%+v: from %v to %v by %t", p, s, next, maxed)
			}
			if want != s.Limit {
				changes[maxed]++
			}
			s = next
		}
	}
	if changes[true] < 1000 || changes[false] < 1000 {
		t.Errorf("drawn: %v", changes)
	}
}

// R1: also for phases that Grow is not specified for, each call ends without a panic.
func TestUnspecified(t *testing.T) {
	for _, m := range numbers {
		for _, top := range numbers {
			for _, step := range numbers {
				p := api.Phase{Max: m, Top: top, Step: step}
				for both := range 4 {
					s := api.Trend{Limit: step, Up: both % 2, Down: both / 2}
					Grow(p, s, true)
					Grow(p, s, false)
				}
			}
		}
	}
}

// The example of the chapter.
func TestExample(t *testing.T) {
	p := api.Phase{Max: 20, Top: 30, Step: 5}
	s := Grow(p, Begin(p), true)
	grow(t, p, s, true, api.Trend{Limit: 25})
	limit(t, p, s, 20)
	limit(t, p, Grow(p, s, true), 25)
}
