package phase

import (
	"math"
	"math/rand"
	"testing"

	"crossbuck/api"
	"crossbuck/check"
	"crossbuck/gap"
	"crossbuck/ped"
)

// numbers are of all kinds: within the ranges of a table, at their ends, beyond them, and such that must not overflow.
var numbers = []int{
	0, 1, 2, 3, 4, 20, 255, 256, 257, 5000, 9997, 9998, 9999,
	10000, 10001, 65535, 65536, math.MaxInt32, 1 << 31, 1 << 32, 1<<32 + 1, 1<<32 + 2, 1 << 62, math.MaxInt - 1, math.MaxInt,
	-1, -2, -3, -20, -9999, -10000, math.MinInt32, -(1 << 32), -(1 << 32) + 1, -(1 << 32) + 3, math.MinInt + 1, math.MinInt,
}

// some is a phase whose numbers all differ.
func some() api.Phase {
	return api.Phase{On: true, Min: 6, Gap: 3, Max: 11, Top: 19, Step: 5, Yellow: 10, Red: 2, Walk: 4, Blinks: 7}
}

// full is a run with a value in each field but the Colour.
func full(colour int) api.Run {
	return api.Run{
		Colour: colour, Time: 8, Foot: api.Foot{State: 2, Time: 5}, Left: 2, Press: 9, Extra: 7,
		Done: true, Maxed: true, Trend: api.Trend{Limit: 13, Up: 1, Down: 1},
	}
}

// cues are all that a phase may be told.
func cues() []api.Cue {
	var l []api.Cue
	for n := range 256 {
		l = append(l, cueOf(n))
	}
	return l
}

func cueOf(n int) api.Cue {
	return api.Cue{
		Start: n&1 != 0, End: n&2 != 0, Here: n&4 != 0, Push: n&8 != 0,
		Pressed: n&16 != 0, Hold: n&32 != 0, Early: n&64 != 0, Cut: n&128 != 0,
	}
}

// stayCues are those without an End; Start is of no account for them.
func stayCues() []api.Cue {
	var l []api.Cue
	for _, c := range cues() {
		if !c.End {
			l = append(l, c)
		}
	}
	return l
}

func step(t *testing.T, p api.Phase, r api.Run, c api.Cue, want api.Run) {
	t.Helper()
	if got := Step(p, r, c); got != want {
		t.Fatalf("Step(%+v,\n\t%+v,\n\t%+v)\n\t= %+v,\nwant %+v", p, r, c, got, want)
	}
}

func held(t *testing.T, p api.Phase, r api.Run, c api.Cue, want bool) {
	t.Helper()
	if got := Held(p, r, c); got != want {
		t.Fatalf("Held(%+v,\n\t%+v,\n\t%+v) = %t, want %t", p, r, c, got, want)
	}
}

// P18.1: Begin is Red for MaxTime, with the Max as its limit, and nothing else.
func TestBegin(t *testing.T) {
	for _, n := range numbers {
		p := some()
		p.Max = n
		if got := Begin(p); got != (api.Run{Colour: 0, Time: 9999, Trend: api.Trend{Limit: n}}) {
			t.Errorf("Begin(Max %d) = %+v", n, got)
		}
	}
	if got := Begin(api.Phase{}); got != (api.Run{Time: 9999}) {
		t.Errorf("Begin of the zero Phase = %+v", got)
	}
}

// P18.1: without Start, a phase that is Red, or of none of the Colours, is Red for a tick more, and only its Trend is kept.
func TestRedStays(t *testing.T) {
	for _, colour := range numbers {
		if colour >= 1 && colour <= 3 {
			continue
		}
		for _, x := range [][2]int{
			{0, 1}, {1, 2}, {2, 3}, {9997, 9998}, {9998, 9999}, {9999, 10000}, {10000, 10000}, {10001, 10000}, {1 << 32, 10000}, {math.MaxInt, 10000},
			{-1, 1}, {-2, 1}, {-9999, 1}, {math.MinInt, 1},
		} {
			r := full(colour)
			r.Time = x[0]
			for _, c := range cues() {
				if !c.Start {
					step(t, some(), r, c, api.Run{Colour: 0, Time: x[1], Trend: r.Trend})
				}
				held(t, some(), r, c, false)
			}
		}
	}
}

// P18.1: with Start, it is Green for its first tick, with the Gap left, with a walk if Push is true, and with nothing of before but its Trend, whatever else it is told.
func TestRedStarts(t *testing.T) {
	for _, colour := range numbers {
		if colour >= 1 && colour <= 3 {
			continue
		}
		for _, n := range numbers {
			p, r := some(), full(colour)
			r.Time, r.Trend.Limit, p.Gap = n, n, n
			for _, c := range cues() {
				want := api.Run{Colour: 1, Time: 1, Left: n, Trend: r.Trend}
				if c.Push {
					want.Foot = api.Foot{State: 1, Time: 1}
				}
				if c.Start {
					step(t, p, r, c, want)
				}
				held(t, p, r, c, false)
			}
		}
	}
}

// P18.1: the walk of the first tick is a new one, whatever the Foot was, and there is none for a phase without a Walk.
func TestRedWalks(t *testing.T) {
	for _, state := range numbers {
		r := full(api.Red)
		r.Foot.State = state
		for _, n := range numbers {
			p := some()
			p.Walk, r.Foot.Time = n, n
			want := api.Run{Colour: 1, Time: 1, Left: 3, Trend: r.Trend}
			step(t, p, r, api.Cue{Start: true}, want)
			if n > 0 {
				want.Foot = api.Foot{State: 1, Time: 1}
			}
			step(t, p, r, api.Cue{Start: true, Push: true}, want)
		}
	}
}

// P18.1: with End, a Green phase is Yellow for its first tick; its Trend grows if it was Done, by whether it was Maxed, and only that is kept.
func TestGreenEnds(t *testing.T) {
	p := some()
	for _, x := range []struct {
		done, maxed bool
		was, trend  api.Trend
	}{
		{false, false, api.Trend{Limit: 13, Up: 1, Down: 1}, api.Trend{Limit: 13, Up: 1, Down: 1}}, {false, true, api.Trend{Limit: 13, Up: 1, Down: 1}, api.Trend{Limit: 13, Up: 1, Down: 1}},
		{true, false, api.Trend{Limit: 13}, api.Trend{Limit: 13, Down: 1}}, {true, false, api.Trend{Limit: 17, Down: 1}, api.Trend{Limit: 12}}, {true, false, api.Trend{Limit: 13, Down: 1}, api.Trend{Limit: 11}},
		{true, true, api.Trend{Limit: 13}, api.Trend{Limit: 13, Up: 1}}, {true, true, api.Trend{Limit: 13, Up: 1}, api.Trend{Limit: 18}}, {true, true, api.Trend{Limit: 18, Up: 1}, api.Trend{Limit: 19}},
		{true, false, api.Trend{Limit: 13, Up: 1}, api.Trend{Limit: 13, Down: 1}}, {true, true, api.Trend{Limit: 13, Down: 1}, api.Trend{Limit: 13, Up: 1}},
		{false, true, api.Trend{Limit: 99, Up: 7, Down: -7}, api.Trend{Limit: 99, Up: 7, Down: -7}}, {false, false, api.Trend{}, api.Trend{}},
	} {
		for _, c := range cues() {
			r := full(api.Green)
			r.Done, r.Maxed, r.Trend = x.done, x.maxed, x.was
			if c.End {
				step(t, p, r, c, api.Run{Colour: 2, Time: 1, Trend: x.trend})
				held(t, p, r, c, false)
				r.Done, r.Left, r.Press, r.Foot = false, 0, 9999, api.Foot{}
				held(t, p, r, c, false)
			}
		}
	}
}

// green is a green time of some that is not due: it is long enough, but has a gap that is left, and others have not waited for long.
func green() api.Run {
	return api.Run{Colour: 1, Time: 8, Left: 5, Press: 4, Extra: 2, Trend: api.Trend{Limit: 13, Up: 1, Down: 1}}
}

// P18.1: a green time that goes on gets a tick older, up to MaxTime + 1, and its Trend stays as it is.
func TestGreenTime(t *testing.T) {
	for _, x := range [][2]int{{0, 1}, {1, 2}, {8, 9}, {9998, 9999}, {9999, 10000}, {10000, 10000}, {1 << 32, 10000}, {math.MaxInt, 10000}, {-1, 1}, {math.MinInt, 1}} {
		r := green()
		r.Time = x[0]
		want := r
		want.Time, want.Left = x[1], 4
		step(t, some(), r, api.Cue{}, want)
		step(t, some(), r, api.Cue{Start: true, Hold: true, Early: true, Cut: true}, want)
	}
	for _, n := range numbers {
		r := green()
		r.Trend = api.Trend{Limit: n, Up: n, Down: n}
		want := r
		want.Time, want.Left = 9, 4
		step(t, some(), r, api.Cue{}, want)
	}
}

// P18.1: Left is the Gap with a car here, and one less without one.
func TestGreenLeft(t *testing.T) {
	for _, x := range []struct {
		gap, left int
		here      bool
		want      int
	}{
		{3, 5, true, 3}, {3, 0, true, 3}, {3, -1, true, 3}, {0, 5, true, 0}, {9999, 0, true, 9999}, {-4, 5, true, -4}, {math.MaxInt, 0, true, math.MaxInt}, {math.MinInt, 0, true, math.MinInt},
		{3, 5, false, 4}, {3, 2, false, 1}, {3, 1, false, 0}, {3, 0, false, 0}, {3, -1, false, 0}, {3, 9999, false, 9998}, {3, 10000, false, 9998}, {3, math.MaxInt, false, 9998}, {3, math.MinInt, false, 0},
	} {
		p, r := some(), green()
		p.Gap, r.Left = x.gap, x.left
		want := r
		want.Time, want.Left = 9, x.want
		step(t, p, r, api.Cue{Here: x.here}, want)
		r.Done, want.Done = true, true
		want.Press = 5
		step(t, p, r, api.Cue{Here: x.here, Pressed: true}, want)
	}
}

// P18.1: Press is one more with Pressed, and as it is without.
func TestGreenPress(t *testing.T) {
	for _, x := range [][2]int{{0, 1}, {1, 2}, {4, 5}, {9998, 9999}, {9999, 10000}, {10000, 10000}, {10001, 10000}, {1 << 32, 10000}, {math.MaxInt, 10000}, {-1, 1}, {-20, 1}, {math.MinInt, 1}} {
		for _, done := range []bool{false, true} {
			r := green()
			r.Press, r.Done = x[0], done
			want := r
			want.Time, want.Left = 9, 4
			step(t, some(), r, api.Cue{}, want)
			want.Press = x[1]
			if x[1] >= 13 && !done {
				want.Done, want.Maxed = true, true
			}
			step(t, some(), r, api.Cue{Pressed: true}, want)
		}
	}
}

// P18.1: the signal for those on foot goes its way; a walk that has to be cut is, and one begins only while nobody waits.
func TestGreenFoot(t *testing.T) {
	for _, x := range []struct {
		was                api.Foot
		push, pressed, cut bool
		want               api.Foot
	}{
		{api.Foot{State: 1, Time: 2}, false, false, false, api.Foot{State: 1, Time: 3}}, {api.Foot{State: 1, Time: 2}, true, true, false, api.Foot{State: 1, Time: 3}}, {api.Foot{State: 1, Time: 4}, false, false, false, api.Foot{State: 2, Time: 1}},
		{api.Foot{State: 1, Time: 2}, false, false, true, api.Foot{State: 2, Time: 1}}, {api.Foot{State: 1, Time: 2}, true, false, true, api.Foot{State: 2, Time: 1}}, {api.Foot{State: 1, Time: 2}, true, true, true, api.Foot{State: 2, Time: 1}}, {api.Foot{State: 1, Time: 4}, false, true, true, api.Foot{State: 2, Time: 1}}, {api.Foot{State: 1, Time: -9}, false, true, true, api.Foot{State: 2, Time: 1}},
		{api.Foot{State: 2, Time: 6}, false, false, false, api.Foot{State: 2, Time: 7}}, {api.Foot{State: 2, Time: 6}, true, false, true, api.Foot{State: 2, Time: 7}}, {api.Foot{State: 2, Time: 7}, true, false, false, api.Foot{}}, {api.Foot{State: 2, Time: 7}, true, false, true, api.Foot{}}, {api.Foot{State: 2, Time: 7}, true, true, true, api.Foot{}},
		{api.Foot{}, false, false, false, api.Foot{}}, {api.Foot{}, true, false, false, api.Foot{State: 1, Time: 1}}, {api.Foot{}, true, true, false, api.Foot{}}, {api.Foot{}, false, true, false, api.Foot{}},
		{api.Foot{}, false, false, true, api.Foot{}}, {api.Foot{}, true, false, true, api.Foot{State: 1, Time: 1}}, {api.Foot{}, true, true, true, api.Foot{}},
		{api.Foot{State: 3, Time: 5}, false, false, true, api.Foot{}}, {api.Foot{State: 3, Time: 5}, true, false, true, api.Foot{State: 1, Time: 1}}, {api.Foot{State: -1, Time: 5}, true, true, false, api.Foot{}}, {api.Foot{State: 1<<32 + 1, Time: 5}, true, false, false, api.Foot{State: 1, Time: 1}},
	} {
		r := green()
		r.Foot = x.was
		want := r
		want.Time, want.Left, want.Foot = 9, 4, x.want
		if x.pressed {
			want.Press = 5
		}
		step(t, some(), r, api.Cue{Push: x.push, Pressed: x.pressed, Cut: x.cut}, want)
	}
	p, r := some(), green()
	p.Walk = 0
	step(t, p, r, api.Cue{Push: true}, api.Run{Colour: 1, Time: 9, Left: 4, Press: 4, Extra: 2, Trend: r.Trend})
}

// P18.1: Done and Maxed are taken back in the tick in which a walk begins, and in no other one.
func TestWalkBegins(t *testing.T) {
	for _, state := range numbers {
		for _, n := range numbers {
			for both := range 4 {
				r := green()
				r.Foot, r.Done, r.Maxed = api.Foot{State: state, Time: n}, both&1 != 0, both&2 != 0
				for _, c := range []api.Cue{{}, {Push: true}, {Push: true, Cut: true}, {Push: true, Hold: true, Early: true}} {
					got := Step(some(), r, c)
					begins := c.Push && state != api.Walk && state != api.Blinks
					if got.Done != (r.Done && !begins) || got.Maxed != (r.Maxed && !begins) || begins != (got.Foot == api.Foot{State: 1, Time: 1} && state != 1) {
						t.Fatalf("from %+v by %+v to %+v", r, c, got)
					}
				}
				if got := Step(some(), r, api.Cue{Push: true, Pressed: true}); got.Done != r.Done || got.Maxed != r.Maxed {
					t.Fatalf("from %+v, pressed, to %+v", r, got)
				}
			}
		}
	}
}

// P18.1: each condition of a due phase by itself, at its ends. Where it is due, it is Done without Hold, and held with it.
func TestDue(t *testing.T) {
	for i, x := range []struct {
		change          func(r *api.Run, c *api.Cue)
		due, full, left bool
	}{
		{func(r *api.Run, c *api.Cue) {}, false, false, true},
		{func(r *api.Run, c *api.Cue) { c.Early = true }, true, false, true},
		{func(r *api.Run, c *api.Cue) { c.Early = true; c.Pressed = false }, false, false, true},
		{func(r *api.Run, c *api.Cue) { c.Early = true; r.Done = true }, false, false, true},
		{func(r *api.Run, c *api.Cue) { c.Early = true; r.Maxed = true }, true, false, true},
		{func(r *api.Run, c *api.Cue) { c.Early = true; r.Time = 4 }, false, false, true},
		{func(r *api.Run, c *api.Cue) { c.Early = true; r.Time = 5 }, true, false, true},
		{func(r *api.Run, c *api.Cue) { c.Early = true; r.Time = 10000 }, true, false, true},
		{func(r *api.Run, c *api.Cue) { c.Early = true; r.Time = math.MinInt }, false, false, true},
		{func(r *api.Run, c *api.Cue) { c.Early = true; r.Foot = api.Foot{State: 1, Time: 2} }, false, false, true},
		{func(r *api.Run, c *api.Cue) { c.Early = true; r.Foot = api.Foot{State: 1, Time: 4} }, false, false, true},
		{func(r *api.Run, c *api.Cue) { c.Early = true; r.Foot = api.Foot{State: 2, Time: 6} }, false, false, true},
		{func(r *api.Run, c *api.Cue) { c.Early = true; r.Foot = api.Foot{State: 2, Time: 7} }, true, false, true},
		{func(r *api.Run, c *api.Cue) { c.Early = true; r.Foot = api.Foot{State: 5, Time: 2} }, true, false, true},
		{func(r *api.Run, c *api.Cue) { c.Early = true; c.Push = true }, true, false, true},
		{func(r *api.Run, c *api.Cue) { c.Early = true; c.Here = true }, true, false, true},
		{func(r *api.Run, c *api.Cue) { r.Left = 2 }, false, false, true},
		{func(r *api.Run, c *api.Cue) { r.Left = 1 }, true, false, false},
		{func(r *api.Run, c *api.Cue) { r.Left = 0 }, true, false, false},
		{func(r *api.Run, c *api.Cue) { r.Left = -7 }, true, false, false},
		{func(r *api.Run, c *api.Cue) { r.Left = 0; c.Here = true }, false, false, true},
		{func(r *api.Run, c *api.Cue) { r.Left = 0; c.Pressed = false }, false, false, false},
		{func(r *api.Run, c *api.Cue) { r.Left = 0; r.Done = true }, false, false, false},
		{func(r *api.Run, c *api.Cue) { r.Left = 0; r.Time = 4 }, false, false, false},
		{func(r *api.Run, c *api.Cue) { r.Left = 0; r.Foot = api.Foot{State: 1, Time: 1} }, false, false, false},
		{func(r *api.Run, c *api.Cue) { r.Press = 11 }, false, false, true},
		{func(r *api.Run, c *api.Cue) { r.Press = 12 }, true, true, true},
		{func(r *api.Run, c *api.Cue) { r.Press = 13 }, true, true, true},
		{func(r *api.Run, c *api.Cue) { r.Press = 9999 }, true, true, true},
		{func(r *api.Run, c *api.Cue) { r.Press = math.MinInt }, false, false, true},
		{func(r *api.Run, c *api.Cue) { r.Press = 13; c.Pressed = false }, false, true, true},
		{func(r *api.Run, c *api.Cue) { r.Press = 13; r.Done = true }, false, true, true},
		{func(r *api.Run, c *api.Cue) { r.Press = 13; r.Time = 4 }, false, true, true},
		{func(r *api.Run, c *api.Cue) { r.Press = 13; r.Foot = api.Foot{State: 2, Time: 1} }, false, true, true},
		{func(r *api.Run, c *api.Cue) { r.Press = 12; r.Left = 1 }, true, true, false},
		{func(r *api.Run, c *api.Cue) { r.Press = 12; r.Left = 1; c.Here = true }, true, true, true},
		{func(r *api.Run, c *api.Cue) { r.Press = 12; c.Early = true }, true, true, true},
		{func(r *api.Run, c *api.Cue) { r.Press = 11; r.Trend.Limit = 12 }, true, true, true},
		{func(r *api.Run, c *api.Cue) { r.Press = 10; r.Trend.Limit = 12 }, false, false, true},
		{func(r *api.Run, c *api.Cue) { r.Press = 10; r.Trend.Limit = 5 }, true, true, true},
		{func(r *api.Run, c *api.Cue) { r.Press = 9; r.Trend.Limit = 5 }, false, false, true},
		{func(r *api.Run, c *api.Cue) { r.Press = 18; r.Trend.Limit = 25 }, true, true, true},
		{func(r *api.Run, c *api.Cue) { r.Press = 17; r.Trend.Limit = 25 }, false, false, true},
	} {
		r, c := green(), api.Cue{Pressed: true}
		x.change(&r, &c)
		without := Step(some(), r, c)
		done, maxed := r.Done || x.due, r.Maxed
		if x.due {
			maxed = x.full && x.left
		}
		if without.Done != done || without.Maxed != maxed || without.Extra != 2 || (without.Left > 0) != x.left || Held(some(), r, c) {
			t.Errorf("%d: from %+v by %+v to %+v", i, r, c, without)
		}
		c.Hold = true
		want := without
		want.Done, want.Maxed = r.Done, r.Maxed
		if x.due {
			want.Extra = 3
		}
		step(t, some(), r, c, want)
		held(t, some(), r, c, x.due)
	}
}

// P18.1: a Left that is below 0, by a Gap that is, is neither 0 nor above 0.
func TestLeftBelow(t *testing.T) {
	p, r := some(), green()
	p.Gap = -1
	c := api.Cue{Pressed: true, Here: true}
	step(t, p, r, c, api.Run{Colour: 1, Time: 9, Left: -1, Press: 5, Extra: 2, Trend: r.Trend})
	r.Press = 12
	step(t, p, r, c, api.Run{Colour: 1, Time: 9, Left: -1, Press: 13, Extra: 2, Done: true, Trend: r.Trend})
}

// P18.1: the Min is compared with the new Time, whatever the Min.
func TestMin(t *testing.T) {
	for _, x := range []struct {
		min, time int
		want      bool
	}{
		{1, 0, true}, {1, 1, true}, {2, 1, true}, {3, 1, false}, {3, 2, true}, {0, 0, true}, {-1, -5, true}, {math.MinInt, math.MinInt, true},
		{9999, 9997, false}, {9999, 9998, true}, {9999, 9999, true}, {10000, 9998, false}, {10000, 9999, true}, {10001, 10000, false}, {10001, 10001, false}, {math.MaxInt, math.MaxInt, false},
	} {
		p, r := some(), green()
		p.Min, r.Time = x.min, x.time
		c := api.Cue{Pressed: true, Early: true}
		if got := Step(p, r, c).Done; got != x.want {
			t.Errorf("Min %d, Time %d: Done %t", x.min, x.time, got)
		}
		c.Hold = true
		held(t, p, r, c, x.want)
	}
}

// P18.1: Extra is one more in each tick in which the phase is held, up to MaxTime + 1, and as it is in each other one.
func TestExtra(t *testing.T) {
	for _, x := range [][2]int{{0, 1}, {1, 2}, {9998, 9999}, {9999, 10000}, {10000, 10000}, {10001, 10000}, {math.MaxInt, 10000}, {-1, 1}, {math.MinInt, 1}} {
		for _, done := range []bool{false, true} {
			for _, c := range stayCues() {
				r := green()
				r.Extra, r.Done = x[0], done
				want := r.Extra
				if c.Pressed && c.Early && c.Hold && !done {
					want = x[1]
				}
				if got := Step(some(), r, c); got.Extra != want {
					t.Fatalf("from %+v by %+v to %+v, want Extra %d", r, c, got, want)
				}
			}
		}
	}
}

// P18.1: Yellow goes on until its Time is at least the Yellow; then it is Clear if there is a Red, and Red if not, for the first tick. Only the Trend is kept, whatever the phase is told.
func TestYellow(t *testing.T) {
	for _, x := range []struct {
		yellow, red, time, colour, want int
	}{
		{10, 2, 1, 2, 2}, {10, 2, 9, 2, 10}, {10, 2, 10, 3, 1}, {10, 2, 11, 3, 1}, {10, 2, math.MaxInt, 3, 1}, {10, 2, 0, 2, 1}, {10, 2, -1, 2, 1}, {10, 2, math.MinInt, 2, 1},
		{10, 1, 9, 2, 10}, {10, 1, 10, 3, 1}, {10, 0, 9, 2, 10}, {10, 0, 10, 0, 1}, {10, 0, 11, 0, 1}, {10, -1, 10, 0, 1}, {10, math.MinInt, 10, 0, 1}, {10, math.MaxInt, 10, 3, 1},
		{0, 2, 0, 3, 1}, {0, 2, -1, 2, 1}, {1, 2, 0, 2, 1}, {1, 2, 1, 3, 1}, {-5, 0, -5, 0, 1}, {-5, 0, -6, 2, 1},
		{9999, 2, 9998, 2, 9999}, {9999, 2, 9999, 3, 1}, {9999, 2, 10000, 3, 1}, {10000, 2, 9999, 2, 10000}, {10000, 2, 10000, 3, 1}, {10001, 2, 10000, 2, 10000}, {math.MaxInt, 2, math.MaxInt - 1, 2, 10000}, {math.MaxInt, 2, math.MaxInt, 3, 1},
	} {
		p, r := some(), full(api.Yellow)
		p.Yellow, p.Red, r.Time = x.yellow, x.red, x.time
		for _, c := range cues() {
			step(t, p, r, c, api.Run{Colour: x.colour, Time: x.want, Trend: r.Trend})
			held(t, p, r, c, false)
		}
	}
}

// P18.1: Clear goes on until its Time is at least the Red; then it is Red for the first tick. Only the Trend is kept, whatever the phase is told.
func TestClear(t *testing.T) {
	for _, x := range []struct {
		red, time, colour, want int
	}{
		{5, 1, 3, 2}, {5, 4, 3, 5}, {5, 5, 0, 1}, {5, 6, 0, 1}, {5, math.MaxInt, 0, 1}, {5, 0, 3, 1}, {5, -1, 3, 1}, {5, math.MinInt, 3, 1},
		{1, 0, 3, 1}, {1, 1, 0, 1}, {0, 0, 0, 1}, {0, 1, 0, 1}, {0, -1, 3, 1}, {-5, -5, 0, 1}, {-5, -6, 3, 1},
		{9999, 9998, 3, 9999}, {9999, 9999, 0, 1}, {9999, 10000, 0, 1}, {10000, 9999, 3, 10000}, {10000, 10000, 0, 1}, {10001, 10000, 3, 10000}, {math.MaxInt, math.MaxInt - 1, 3, 10000}, {math.MaxInt, math.MaxInt, 0, 1},
	} {
		p, r := some(), full(api.Clear)
		p.Red, r.Time = x.red, x.time
		for _, c := range cues() {
			step(t, p, r, c, api.Run{Colour: x.colour, Time: x.want, Trend: r.Trend})
			held(t, p, r, c, false)
		}
	}
}

// wordedMore is "one more" of DOC.md.
func wordedMore(n int) int {
	if n < 0 {
		n = 0
	}
	if n > 9999 {
		n = 9999
	}
	return n + 1
}

// wordedGreen is P18.1 for Green without End, in the order of its words; it also tells whether the phase is due.
func wordedGreen(p api.Phase, r api.Run, c api.Cue) (api.Run, bool) {
	var n api.Run
	n.Colour, n.Time = 1, wordedMore(r.Time)
	if c.Cut && r.Foot.State == 1 {
		n.Foot = ped.Cut(r.Foot)
	} else {
		begin := false
		if c.Push && !c.Pressed {
			begin = true
		}
		n.Foot = ped.Step(p, r.Foot, begin)
	}
	n.Left = gap.Left(p, r.Left, c.Here)
	n.Press = r.Press
	if c.Pressed {
		n.Press = wordedMore(r.Press)
	}
	n.Extra, n.Done, n.Maxed, n.Trend = r.Extra, r.Done, r.Maxed, r.Trend
	if !(r.Foot.State == 1 || r.Foot.State == 2) && n.Foot.State == 1 {
		n.Done, n.Maxed = false, false
	}
	limit := gap.Limit(p, n.Trend)
	due := c.Pressed && n.Done == false && n.Time >= p.Min && !(n.Foot.State == 1 || n.Foot.State == 2)
	if n.Left != 0 && n.Press < limit && !c.Early {
		due = false
	}
	if due && c.Hold {
		n.Extra = wordedMore(n.Extra)
	}
	if due && !c.Hold {
		n.Done = true
		n.Maxed = false
		if n.Left > 0 && n.Press >= limit {
			n.Maxed = true
		}
	}
	return n, due
}

// wordedStep is P18.1, in the order of its words.
func wordedStep(p api.Phase, r api.Run, c api.Cue) api.Run {
	switch r.Colour {
	case 1:
		if !c.End {
			n, _ := wordedGreen(p, r, c)
			return n
		}
		if r.Done {
			return api.Run{Colour: 2, Time: 1, Trend: gap.Grow(p, r.Trend, r.Maxed)}
		}
		return api.Run{Colour: 2, Time: 1, Trend: r.Trend}
	case 2:
		if r.Time >= p.Yellow && p.Red > 0 {
			return api.Run{Colour: 3, Time: 1, Trend: r.Trend}
		}
		if r.Time >= p.Yellow {
			return api.Run{Colour: 0, Time: 1, Trend: r.Trend}
		}
		return api.Run{Colour: 2, Time: wordedMore(r.Time), Trend: r.Trend}
	case 3:
		if r.Time >= p.Red {
			return api.Run{Colour: 0, Time: 1, Trend: r.Trend}
		}
		return api.Run{Colour: 3, Time: wordedMore(r.Time), Trend: r.Trend}
	}
	if c.Start {
		return api.Run{Colour: 1, Time: 1, Foot: ped.Step(p, api.Foot{}, c.Push), Left: p.Gap, Trend: r.Trend}
	}
	return api.Run{Colour: 0, Time: wordedMore(r.Time), Trend: r.Trend}
}

func wordedHeld(p api.Phase, r api.Run, c api.Cue) bool {
	if r.Colour != 1 || c.End || !c.Hold {
		return false
	}
	_, due := wordedGreen(p, r, c)
	return due
}

// worded compares both functions with the words, and returns the run a tick later. R4: each is called twice.
func worded(t *testing.T, p api.Phase, r api.Run, c api.Cue) api.Run {
	t.Helper()
	next, isHeld := wordedStep(p, r, c), wordedHeld(p, r, c)
	for range 2 {
		step(t, p, r, c, next)
		held(t, p, r, c, isHeld)
	}
	return next
}

// P18.1: all combinations of what makes a green time due, at the ends of each, are what the words say.
func TestGreenWorded(t *testing.T) {
	p := some()
	feet := []api.Foot{{}, {State: 1, Time: 3}, {State: 1, Time: 4}, {State: 2, Time: 6}, {State: 2, Time: 7}, {State: 3, Time: 1}}
	for _, foot := range feet {
		for _, time := range []int{1, 4, 5, 6} {
			for _, left := range []int{-1, 0, 1, 2} {
				for _, press := range []int{0, 9, 10, 11, 12, 13} {
					for _, limit := range []int{0, 11, 13, 30} {
						for both := range 4 {
							r := api.Run{
								Colour: 1, Time: time, Foot: foot, Left: left, Press: press, Extra: 7,
								Done: both&1 != 0, Maxed: both&2 != 0, Trend: api.Trend{Limit: limit, Up: 1},
							}
							for n := 0; n < 256; n += 2 {
								worded(t, p, r, cueOf(n|both&1))
							}
						}
					}
				}
			}
		}
	}
}

// drawn is a small number or, less often, one of numbers.
func drawn(r *rand.Rand) int {
	if r.Intn(8) > 0 {
		return r.Intn(12) - 1
	}
	return numbers[r.Intn(len(numbers))]
}

func drawnPhase(r *rand.Rand) api.Phase {
	return api.Phase{
		On: r.Intn(2) == 0, Lock: r.Intn(2) == 0, Rest: r.Intn(2) == 0, Recall: r.Intn(6) - 1,
		Min: drawn(r), Gap: drawn(r), Max: drawn(r), Top: drawn(r), Step: drawn(r),
		Yellow: drawn(r), Red: drawn(r), Walk: drawn(r), Blinks: drawn(r),
	}
}

func drawnRun(r *rand.Rand) api.Run {
	return api.Run{
		Colour: drawn(r), Time: drawn(r), Foot: api.Foot{State: drawn(r), Time: drawn(r)},
		Left: drawn(r), Press: drawn(r), Extra: drawn(r), Done: r.Intn(2) == 0, Maxed: r.Intn(2) == 0,
		Trend: api.Trend{Limit: drawn(r), Up: drawn(r), Down: drawn(r)},
	}
}

// drawnCue has each part by itself, each with a chance of its own.
func drawnCue(r *rand.Rand, often [8]int) api.Cue {
	n := 0
	for i, o := range often {
		if r.Intn(10) < o {
			n |= 1 << i
		}
	}
	return cueOf(n)
}

func drawnOften(r *rand.Rand) [8]int {
	var often [8]int
	for i := range often {
		often[i] = []int{0, 1, 3, 5, 9, 10}[r.Intn(6)]
	}
	return often
}

// P18.1, R1: single steps of drawn runs, with numbers of all kinds.
func TestDrawn(t *testing.T) {
	r := rand.New(rand.NewSource(18))
	for range 200000 {
		x := drawnRun(r)
		if r.Intn(2) == 0 {
			x.Colour = api.Green
		}
		worded(t, drawnPhase(r), x, cueOf(r.Intn(256)))
	}
}

// P18.1, R1: each field of a phase and of a run, with each of numbers, in each Colour.
func TestEachNumber(t *testing.T) {
	for colour := range 5 {
		for _, n := range numbers {
			for field := range 16 {
				p, x := some(), green()
				x.Colour = colour
				*[]*int{
					&p.Min, &p.Gap, &p.Max, &p.Top, &p.Step, &p.Yellow, &p.Red, &p.Walk, &p.Blinks,
					&x.Time, &x.Left, &x.Press, &x.Extra, &x.Trend.Limit, &x.Foot.State, &x.Foot.Time,
				}[field] = n
				for _, c := range cues() {
					worded(t, p, x, c)
					x.Done = !x.Done
				}
			}
		}
	}
}

// P18.1: drawn sequences from Begin on, which come to all Colours, to walks, to green times that are held, Done and Maxed.
func TestSequences(t *testing.T) {
	r := rand.New(rand.NewSource(180))
	seen := map[string]int{}
	for range 6000 {
		p, often := drawnPhase(r), drawnOften(r)
		often[1] = r.Intn(3)
		x := Begin(p)
		for range 60 {
			c := drawnCue(r, often)
			if wordedHeld(p, x, c) {
				seen["held"]++
			}
			x = worded(t, p, x, c)
			count(seen, x)
		}
	}
	for _, k := range []string{"red", "green", "yellow", "clear", "walk", "blinks", "held", "done", "maxed", "grown"} {
		if seen[k] < 1000 {
			t.Errorf("drawn: %s %d times", k, seen[k])
		}
	}
}

func count(seen map[string]int, x api.Run) {
	seen[[]string{"red", "green", "yellow", "clear"}[x.Colour]]++
	seen[[]string{"stop", "walk", "blinks"}[x.Foot.State]]++
	if x.Done {
		seen["done"]++
	}
	if x.Maxed {
		seen["maxed"]++
	}
	if x.Trend.Up+x.Trend.Down > 0 {
		seen["grown"]++
	}
}

// P18.1: Held is true just where Extra grows, as long as it can.
func TestHeldExtra(t *testing.T) {
	r := rand.New(rand.NewSource(181))
	times := 0
	for range 100000 {
		p, x, c := drawnPhase(r), drawnRun(r), cueOf(r.Intn(256))
		x.Colour, x.Extra = api.Green, r.Intn(api.MaxTime)
		c.End = false
		grown := Step(p, x, c).Extra == x.Extra+1
		held(t, p, x, c, grown)
		if grown {
			times++
		}
	}
	if times < 1000 {
		t.Errorf("drawn: held %d times", times)
	}
}

// R4: of the phase, only its ticks count; one that is not On runs as well.
func TestOtherFields(t *testing.T) {
	r := rand.New(rand.NewSource(182))
	for range 50000 {
		p, o, x, c := drawnPhase(r), drawnPhase(r), drawnRun(r), cueOf(r.Intn(256))
		o.Min, o.Gap, o.Max, o.Top, o.Step = p.Min, p.Gap, p.Max, p.Top, p.Step
		o.Yellow, o.Red, o.Walk, o.Blinks = p.Yellow, p.Red, p.Walk, p.Blinks
		step(t, o, x, c, Step(p, x, c))
		held(t, o, x, c, Held(p, x, c))
	}
}

// wellFormed reports whether a table with p as its only phase is well-formed.
func wellFormed(p api.Phase) bool {
	x := api.Table{Groups: [][2][]int{{{0}, nil}}}
	x.Phases[0] = p
	x.Flash[0] = api.FlashRed
	return check.Check(x) == api.Fault{}
}

// lasts expects ticks of a colour, with times from 1 on, whatever the phase is told, and returns what is there behind them.
func lasts(t *testing.T, r *rand.Rand, p api.Phase, x api.Run, colour, ticks int) api.Run {
	t.Helper()
	for i := range ticks {
		if want := (api.Run{Colour: colour, Time: i + 1, Trend: x.Trend}); x != want {
			t.Fatalf("Yellow %d, Red %d: %+v, want %+v", p.Yellow, p.Red, x, want)
		}
		x = Step(p, x, cueOf(r.Intn(256)))
	}
	return x
}

// P18.2: of each phase that a well-formed table may have, Yellow and Clear last for exactly their number of ticks, and the phase is Red behind them.
func TestClearanceLasts(t *testing.T) {
	r := rand.New(rand.NewSource(183))
	for _, yellow := range []int{10, 11, 12, 13, 20, 40, 255, 256, 257, 9997, 9998, 9999} {
		for _, red := range []int{0, 1, 2, 3, 10, 20, 255, 256, 257, 9997, 9998, 9999} {
			p := some()
			p.Yellow, p.Red = yellow, red
			if !wellFormed(p) {
				t.Fatalf("%+v is not well-formed", p)
			}
			x := Begin(p)
			for green := range 3 {
				x = Step(p, x, api.Cue{Start: true, Push: r.Intn(2) == 0})
				for range green * r.Intn(30) {
					c := cueOf(r.Intn(256))
					c.End = false
					x = Step(p, x, c)
				}
				x = Step(p, x, api.Cue{End: true})
				x = lasts(t, r, p, x, api.Yellow, yellow)
				x = lasts(t, r, p, x, api.Clear, red)
				if x != (api.Run{Colour: api.Red, Time: 1, Trend: x.Trend}) {
					t.Fatalf("Yellow %d, Red %d: in the end %+v", yellow, red, x)
				}
			}
		}
	}
}

// drawnWell is a phase that a well-formed table may have, with short times.
func drawnWell(t *testing.T, r *rand.Rand) api.Phase {
	t.Helper()
	p := api.Phase{On: true, Min: 1 + r.Intn(20), Gap: r.Intn(6), Step: 1 + r.Intn(5), Yellow: 10 + r.Intn(4), Red: r.Intn(4)}
	p.Max = p.Min + r.Intn(15)
	p.Top = p.Max + r.Intn(15)
	if r.Intn(2) == 0 {
		p.Walk, p.Blinks = 1+r.Intn(8), 1+r.Intn(8)
	}
	if !wellFormed(p) {
		t.Fatalf("%+v is not well-formed", p)
	}
	return p
}

// P18.2: however a phase is told to be pressed, held, early and cut, a green time that ends Done lasts for at least Min ticks, and nobody is on the way when it ends; and all is in the order of the Colours.
func TestGreenLasts(t *testing.T) {
	r := rand.New(rand.NewSource(184))
	done, shortest := 0, 0
	for range 8000 {
		p, often := drawnWell(t, r), drawnOften(r)
		often[0], often[1] = 5, r.Intn(3)
		x, ticks := Begin(p), 0
		for range 150 {
			c := drawnCue(r, often)
			next := Step(p, x, c)
			if x.Colour == api.Green && next.Colour == api.Yellow && x.Done {
				done++
				if ticks == p.Min {
					shortest++
				}
				if ticks < p.Min || x.Foot != (api.Foot{}) {
					t.Fatalf("%+v: %d ticks of green till %+v", p, ticks, x)
				}
			}
			if ticks++; next.Colour != x.Colour {
				inOrder(t, p, x, next)
				ticks = 1
			}
			x = next
		}
	}
	if done < 1000 || shortest < 100 {
		t.Errorf("drawn: %d ended done, %d after Min ticks", done, shortest)
	}
}

func inOrder(t *testing.T, p api.Phase, x, next api.Run) {
	t.Helper()
	want := (x.Colour + 1) % 4
	if p.Red == 0 && x.Colour == api.Yellow {
		want = api.Red
	}
	if next.Colour != want || next.Time != 1 {
		t.Fatalf("%+v: from %+v to %+v", p, x, next)
	}
}

// P18.2: Min may be as long as a table allows; the green time is Done in the tick in which it is that long, and not before.
func TestLongMin(t *testing.T) {
	for _, n := range []int{1, 2, 3, 255, 256, 257, 9998, 9999} {
		p := api.Phase{On: true, Min: n, Max: 9999, Top: 9999, Yellow: 10}
		if !wellFormed(p) {
			t.Fatalf("%+v is not well-formed", p)
		}
		x := Step(p, Begin(p), api.Cue{Start: true})
		for tick := 2; tick <= n+5; tick++ {
			x = Step(p, x, api.Cue{Pressed: true})
			if x.Time != min(tick, 10000) || x.Done != (tick >= n) {
				t.Fatalf("Min %d: in tick %d %+v", n, tick, x)
			}
		}
	}
}

// P18.1: with a car here all the time, others wait for as many ticks as the limit says; it grows by a Step with each second green time, up to Top.
func TestLimitGrows(t *testing.T) {
	p := some()
	x := Begin(p)
	for i, want := range []int{11, 11, 16, 16, 19, 19, 19} {
		x = Step(p, x, api.Cue{Start: true})
		for tick := 1; tick <= want; tick++ {
			x = Step(p, x, api.Cue{Here: true, Pressed: true})
			if x.Done != (tick == want) || x.Maxed != (tick == want) || x.Press != tick {
				t.Fatalf("green time %d, tick %d: %+v", i, tick, x)
			}
		}
		x = Step(p, x, api.Cue{End: true})
		for range p.Yellow + p.Red {
			x = Step(p, x, api.Cue{})
		}
		if x != (api.Run{Colour: api.Red, Time: 1, Trend: x.Trend}) {
			t.Fatalf("behind green time %d: %+v", i, x)
		}
	}
}

// The example of the chapter.
func TestExample(t *testing.T) {
	p := api.Phase{Yellow: 10, Red: 2}
	x := Step(p, Step(p, Begin(p), api.Cue{Start: true}), api.Cue{End: true})
	for i, want := range []int{2, 2, 2, 2, 2, 2, 2, 2, 2, 2, 3, 3, 0, 0} {
		if x.Colour != want {
			t.Errorf("tick %d: %+v, want colour %d", i, x, want)
		}
		x = Step(p, x, api.Cue{})
	}
}
