package ped

import (
	"math"
	"math/rand"
	"testing"

	"crossbuck/api"
	"crossbuck/check"
)

// numbers are of all kinds: within the ranges of a table, at their ends, beyond them, and such that must not overflow.
var numbers = []int{
	0, 1, 2, 3, 4, 20, 255, 256, 257, 5000, 9997, 9998, 9999,
	10000, 10001, 65535, 65536, math.MaxInt32, 1 << 31, 1 << 32, 1<<32 + 1, 1<<32 + 2, 1 << 62, math.MaxInt - 1, math.MaxInt,
	-1, -2, -3, -20, -9999, -10000, math.MinInt32, -(1 << 32), -(1 << 32) + 1, -(1 << 32) + 2, math.MinInt + 1, math.MinInt,
}

// others are numbers that are neither Walk nor Blinks.
func others() []int {
	var l []int
	for _, n := range numbers {
		if n != 1 && n != 2 {
			l = append(l, n)
		}
	}
	return l
}

func step(t *testing.T, p api.Phase, f api.Foot, begin bool, want api.Foot) {
	t.Helper()
	if got := Step(p, f, begin); got != want {
		t.Fatalf("Step(Walk %d, Blinks %d, %v, %t) = %v, want %v", p.Walk, p.Blinks, f, begin, got, want)
	}
}

func cut(t *testing.T, f, want api.Foot) {
	t.Helper()
	if got := Cut(f); got != want {
		t.Fatalf("Cut(%v) = %v, want %v", f, got, want)
	}
}

func over(t *testing.T, f api.Foot, least int, want bool) {
	t.Helper()
	if got := Over(f, least); got != want {
		t.Fatalf("Over(%v, %d) = %t, want %t", f, least, got, want)
	}
}

// P17.1: the states are those that the other layers know by package api.
func TestStates(t *testing.T) {
	if stop != api.Stop || walk != api.Walk || blinks != api.Blinks {
		t.Errorf("%d, %d and %d", stop, walk, blinks)
	}
	if got := [3]int{api.Stop, api.Walk, api.Blinks}; got != [3]int{0, 1, 2} {
		t.Errorf("package api has %v", got)
	}
}

// P17.1: a walk gets one tick older until it is as old as the Walk of the phase; then it blinks, whatever the Blinks.
func TestStepWalk(t *testing.T) {
	for _, x := range []struct {
		walk, time int
		want       api.Foot
	}{
		{3, 1, api.Foot{State: 1, Time: 2}}, {3, 2, api.Foot{State: 1, Time: 3}}, {3, 3, api.Foot{State: 2, Time: 1}}, {3, 4, api.Foot{State: 2, Time: 1}}, {3, math.MaxInt, api.Foot{State: 2, Time: 1}},
		{3, 0, api.Foot{State: 1, Time: 1}}, {3, -1, api.Foot{State: 1, Time: 1}}, {3, math.MinInt, api.Foot{State: 1, Time: 1}},
		{1, 0, api.Foot{State: 1, Time: 1}}, {1, 1, api.Foot{State: 2, Time: 1}}, {1, 2, api.Foot{State: 2, Time: 1}},
		{0, -1, api.Foot{State: 1, Time: 1}}, {0, 0, api.Foot{State: 2, Time: 1}}, {0, 1, api.Foot{State: 2, Time: 1}},
		{-5, -6, api.Foot{State: 1, Time: 1}}, {-5, -5, api.Foot{State: 2, Time: 1}}, {-5, 0, api.Foot{State: 2, Time: 1}}, {math.MinInt, math.MinInt, api.Foot{State: 2, Time: 1}},
		{9999, 9997, api.Foot{State: 1, Time: 9998}}, {9999, 9998, api.Foot{State: 1, Time: 9999}}, {9999, 9999, api.Foot{State: 2, Time: 1}}, {9999, 10000, api.Foot{State: 2, Time: 1}},
		{10000, 9999, api.Foot{State: 1, Time: 10000}}, {10000, 10000, api.Foot{State: 2, Time: 1}},
		{10001, 9999, api.Foot{State: 1, Time: 10000}}, {10001, 10000, api.Foot{State: 1, Time: 10000}}, {10001, 10001, api.Foot{State: 2, Time: 1}},
		{1 << 40, 10001, api.Foot{State: 1, Time: 10000}}, {1 << 40, 1<<40 - 1, api.Foot{State: 1, Time: 10000}}, {1 << 40, 1 << 40, api.Foot{State: 2, Time: 1}},
		{math.MaxInt, math.MaxInt - 1, api.Foot{State: 1, Time: 10000}}, {math.MaxInt, math.MaxInt, api.Foot{State: 2, Time: 1}},
	} {
		for _, n := range numbers {
			p := api.Phase{Walk: x.walk, Blinks: n}
			step(t, p, api.Foot{State: 1, Time: x.time}, false, x.want)
			step(t, p, api.Foot{State: 1, Time: x.time}, true, x.want)
		}
	}
}

// P17.1: the clearance gets one tick older until it is as old as the Blinks of the phase; then it stops, whatever the Walk, and also if a walk should begin.
func TestStepBlinks(t *testing.T) {
	for _, x := range []struct {
		blinks, time int
		want         api.Foot
	}{
		{3, 1, api.Foot{State: 2, Time: 2}}, {3, 2, api.Foot{State: 2, Time: 3}}, {3, 3, api.Foot{}}, {3, 4, api.Foot{}}, {3, math.MaxInt, api.Foot{}},
		{3, 0, api.Foot{State: 2, Time: 1}}, {3, -1, api.Foot{State: 2, Time: 1}}, {3, math.MinInt, api.Foot{State: 2, Time: 1}},
		{1, 0, api.Foot{State: 2, Time: 1}}, {1, 1, api.Foot{}}, {1, 2, api.Foot{}},
		{0, -1, api.Foot{State: 2, Time: 1}}, {0, 0, api.Foot{}}, {0, 1, api.Foot{}},
		{-5, -6, api.Foot{State: 2, Time: 1}}, {-5, -5, api.Foot{}}, {-5, 0, api.Foot{}}, {math.MinInt, math.MinInt, api.Foot{}},
		{9999, 9997, api.Foot{State: 2, Time: 9998}}, {9999, 9998, api.Foot{State: 2, Time: 9999}}, {9999, 9999, api.Foot{}}, {9999, 10000, api.Foot{}},
		{10000, 9999, api.Foot{State: 2, Time: 10000}}, {10000, 10000, api.Foot{}},
		{10001, 9999, api.Foot{State: 2, Time: 10000}}, {10001, 10000, api.Foot{State: 2, Time: 10000}}, {10001, 10001, api.Foot{}},
		{1 << 40, 10001, api.Foot{State: 2, Time: 10000}}, {1 << 40, 1<<40 - 1, api.Foot{State: 2, Time: 10000}}, {1 << 40, 1 << 40, api.Foot{}},
		{math.MaxInt, math.MaxInt - 1, api.Foot{State: 2, Time: 10000}}, {math.MaxInt, math.MaxInt, api.Foot{}},
	} {
		for _, n := range numbers {
			p := api.Phase{Walk: n, Blinks: x.blinks}
			step(t, p, api.Foot{State: 2, Time: x.time}, false, x.want)
			step(t, p, api.Foot{State: 2, Time: x.time}, true, x.want)
		}
	}
}

// P17.1: from Stop and from any number that is no state, a walk begins if it should and the phase has one; otherwise it is Stop, and nothing of the number or of the time is kept.
func TestStepStop(t *testing.T) {
	for _, state := range others() {
		for _, n := range numbers {
			f := api.Foot{State: state, Time: n}
			for _, b := range numbers {
				for _, w := range []int{1, 2, 3, 9999, 10000, 1 << 32, math.MaxInt} {
					step(t, api.Phase{Walk: w, Blinks: b}, f, true, api.Foot{State: 1, Time: 1})
					step(t, api.Phase{Walk: w, Blinks: b}, f, false, api.Foot{})
				}
				for _, w := range []int{0, -1, -2, -9999, -(1 << 32), math.MinInt} {
					step(t, api.Phase{Walk: w, Blinks: b}, f, true, api.Foot{})
					step(t, api.Phase{Walk: w, Blinks: b}, f, false, api.Foot{})
				}
			}
		}
	}
}

// P17.1: Cut makes a walk of any time blink for its first tick, and leaves everything else as it is.
func TestCut(t *testing.T) {
	for _, n := range numbers {
		cut(t, api.Foot{State: 1, Time: n}, api.Foot{State: 2, Time: 1})
		cut(t, api.Foot{State: 2, Time: n}, api.Foot{State: 2, Time: n})
		for _, state := range others() {
			cut(t, api.Foot{State: state, Time: n}, api.Foot{State: state, Time: n})
		}
	}
}

// P17.1: a walk is not over, a clearance is from its time of least on, and anything else is, whatever the numbers.
func TestOver(t *testing.T) {
	for _, x := range []struct {
		time, least int
		want        bool
	}{
		{4, 5, false}, {5, 5, true}, {6, 5, true}, {0, 1, false}, {1, 1, true}, {1, 2, false}, {2, 1, true},
		{0, 0, true}, {1, 0, true}, {-1, 0, false}, {0, -1, true}, {-1, -1, true}, {-2, -1, false},
		{9998, 9999, false}, {9999, 9999, true}, {10000, 9999, true}, {9999, 10000, false}, {10000, 10000, true}, {10000, 10001, false}, {10001, 10001, true}, {10001, 10002, false},
		{math.MaxInt, math.MaxInt, true}, {math.MaxInt - 1, math.MaxInt, false}, {math.MinInt, math.MinInt, true}, {math.MinInt, math.MaxInt, false}, {math.MaxInt, math.MinInt, true},
	} {
		over(t, api.Foot{State: 2, Time: x.time}, x.least, x.want)
	}
	for _, n := range numbers {
		for _, least := range numbers {
			over(t, api.Foot{State: 1, Time: n}, least, false)
			for _, state := range others() {
				over(t, api.Foot{State: state, Time: n}, least, true)
			}
		}
	}
}

// wordedMore is "one more" of DOC.md.
func wordedMore(n int) int {
	if n < 0 {
		n = 0
	}
	if n > 9999 {
		n = 9999
	}
	return n + 1
}

// wordedStep is P17.1, in the order of its words.
func wordedStep(p api.Phase, f api.Foot, begin bool) api.Foot {
	if f.State == 1 {
		if f.Time >= p.Walk {
			return api.Foot{State: 2, Time: 1}
		}
		return api.Foot{State: 1, Time: wordedMore(f.Time)}
	}
	if f.State == 2 {
		if f.Time >= p.Blinks {
			return api.Foot{State: 0, Time: 0}
		}
		return api.Foot{State: 2, Time: wordedMore(f.Time)}
	}
	if begin && p.Walk > 0 {
		return api.Foot{State: 1, Time: 1}
	}
	return api.Foot{State: 0, Time: 0}
}

func wordedCut(f api.Foot) api.Foot {
	if f.State != 1 {
		return f
	}
	return api.Foot{State: 2, Time: 1}
}

func wordedOver(f api.Foot, least int) bool {
	return f.State != 1 && f.State != 2 || f.State == 2 && f.Time >= least
}

// P17.1: each function is what the words say, for numbers of all kinds.
func TestWorded(t *testing.T) {
	for _, state := range numbers {
		for _, n := range numbers {
			f := api.Foot{State: state, Time: n}
			cut(t, f, wordedCut(f))
			for _, a := range numbers {
				over(t, f, a, wordedOver(f, a))
				for _, b := range numbers {
					p := api.Phase{Walk: a, Blinks: b}
					step(t, p, f, false, wordedStep(p, f, false))
					step(t, p, f, true, wordedStep(p, f, true))
				}
			}
		}
	}
}

// drawn is a small number or one of numbers.
func drawn(r *rand.Rand) int {
	if r.Intn(3) > 0 {
		return r.Intn(12) - 1
	}
	return numbers[r.Intn(len(numbers))]
}

func drawnPhase(r *rand.Rand) api.Phase {
	return api.Phase{
		On: r.Intn(2) == 0, Lock: r.Intn(2) == 0, Rest: r.Intn(2) == 0, Recall: r.Intn(5) - 1,
		Min: drawn(r), Gap: drawn(r), Max: drawn(r), Top: drawn(r), Step: drawn(r),
		Yellow: drawn(r), Red: drawn(r), Walk: drawn(r), Blinks: drawn(r),
	}
}

// P17.1: in drawn sequences with cuts; R4: and the same in a second call.
func TestSequences(t *testing.T) {
	r := rand.New(rand.NewSource(17))
	seen := map[api.Foot]bool{}
	for range 4000 {
		p, f := drawnPhase(r), api.Foot{State: drawn(r), Time: drawn(r)}
		often := 1 + r.Intn(4)
		for range 40 {
			begin, least := r.Intn(often) == 0, drawn(r)
			over(t, f, least, wordedOver(f, least))
			cut(t, f, wordedCut(f))
			cut(t, f, wordedCut(f))
			next := wordedStep(p, f, begin)
			step(t, p, f, begin, next)
			step(t, p, f, begin, next)
			if r.Intn(20) == 0 {
				next = wordedCut(f)
			}
			f = next
			seen[f] = true
		}
	}
	if len(seen) < 50 {
		t.Errorf("drawn: %d different states", len(seen))
	}
}

// R4: of the phase, only Walk and Blinks count, so also one that is not On has a signal.
func TestOtherFields(t *testing.T) {
	r := rand.New(rand.NewSource(170))
	for range 50000 {
		p, o := drawnPhase(r), drawnPhase(r)
		f, begin := api.Foot{State: r.Intn(4), Time: drawn(r)}, r.Intn(2) == 0
		o.Walk, o.Blinks = p.Walk, p.Blinks
		step(t, o, f, begin, Step(p, f, begin))
	}
}

// wellFormed reports whether a table with a phase of these ticks is well-formed.
func wellFormed(walk, blinks int) bool {
	x := api.Table{Groups: [][2][]int{{{0}, nil}}}
	x.Phases[0] = api.Phase{On: true, Min: 1, Max: 20, Top: 20, Yellow: 10, Walk: walk, Blinks: blinks}
	x.Flash[0] = api.FlashRed
	return check.Check(x) == api.Fault{}
}

// lasted expects ticks of a state, with times from 1 on, and returns what is there behind them; what begin says is of no account meanwhile.
func lasted(t *testing.T, r *rand.Rand, p api.Phase, f api.Foot, state, ticks int) api.Foot {
	t.Helper()
	for i := range ticks {
		if want := (api.Foot{State: state, Time: i + 1}); f != want {
			t.Fatalf("Walk %d, Blinks %d: %v, want %v", p.Walk, p.Blinks, f, want)
		}
		f = Step(p, f, r.Intn(2) == 0)
	}
	return f
}

// P17.2: of each phase with a signal that a well-formed table may have, a walk lasts for its number of ticks, and so do the Blinks behind it; then it is Stop for a tick, and for longer only if no walk begins.
func TestLasts(t *testing.T) {
	r := rand.New(rand.NewSource(171))
	some := []int{1, 2, 3, 4, 5, 6, 7, 20, 40, 60, 255, 256, 257, 9997, 9998, 9999}
	for _, w := range some {
		for _, b := range some {
			if !wellFormed(w, b) {
				t.Fatalf("Walk %d and Blinks %d are not well-formed", w, b)
			}
			p := api.Phase{Walk: w, Blinks: b}
			f := api.Foot{}
			for round := range 3 {
				for range round {
					f = Step(p, f, false)
					cut(t, f, api.Foot{})
				}
				f = Step(p, f, true)
				f = lasted(t, r, p, f, api.Walk, w)
				f = lasted(t, r, p, f, api.Blinks, b)
				if f != (api.Foot{}) {
					t.Fatalf("Walk %d, Blinks %d: in the end %v", w, b, f)
				}
			}
		}
	}
}

// P17.2: behind a walk that is cut in any of its ticks, the Blinks last for their number of ticks all the same.
func TestCutLasts(t *testing.T) {
	r := rand.New(rand.NewSource(172))
	for w := 1; w <= 12; w++ {
		for b := 1; b <= 12; b++ {
			p := api.Phase{Walk: w, Blinks: b}
			for n := range w {
				f := lasted(t, r, p, Step(p, api.Foot{}, true), api.Walk, n)
				f = lasted(t, r, p, Cut(f), api.Blinks, b)
				if f != (api.Foot{}) {
					t.Fatalf("Walk %d, Blinks %d, cut after %d: in the end %v", w, b, n+1, f)
				}
			}
		}
	}
}

// P17.2: a phase without a Walk never walks, whatever its Blinks, and however often a walk should begin.
func TestNoWalk(t *testing.T) {
	for _, w := range []int{0, -1, math.MinInt} {
		f := api.Foot{}
		for range 100 {
			f = Step(api.Phase{Walk: w, Blinks: 9}, f, true)
			if f != (api.Foot{}) {
				t.Fatalf("Walk %d: %v", w, f)
			}
		}
	}
}

// P17.1: a crossing is over from the tick on in which the clearance has lasted for least ticks, and at the latest when it ends.
func TestOverRuns(t *testing.T) {
	for b := 1; b <= 9; b++ {
		for least := -1; least <= 12; least++ {
			p := api.Phase{Walk: 4, Blinks: b}
			f := Step(p, api.Foot{}, true)
			for tick := 1; tick <= 4+b+3; tick++ {
				over(t, f, least, tick > 4 && (tick-4 >= least || tick > 4+b))
				f = Step(p, f, false)
			}
		}
	}
}

// The example of the chapter.
func TestExample(t *testing.T) {
	p := api.Phase{Walk: 2, Blinks: 1}
	f := Step(p, api.Foot{}, true)
	for i, want := range []int{api.Walk, api.Walk, api.Blinks, api.Stop} {
		if f.State != want {
			t.Errorf("tick %d: %v, want state %d", i, f, want)
		}
		f = Step(p, f, false)
	}
}
