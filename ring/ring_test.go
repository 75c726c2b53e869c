package ring

import (
	"math"
	"math/rand"
	"reflect"
	"slices"
	"testing"

	"crossbuck/api"
	"crossbuck/bound"
	"crossbuck/check"
	"crossbuck/phase"
	"crossbuck/table"
)

type rows = [2][]int

// others are numbers that are not phases, groups, rings or indexes of a small table: beside these, and those that a narrower number, a remainder, or a sum that wraps round takes for one.
var others = []int{
	math.MinInt, math.MinInt + 1, math.MinInt32, -(1 << 32), -256, -255, -8, -2, -1,
	8, 9, 16, 64, 255, 256, 257, 259, 1 << 16, math.MaxInt32, 1 << 32, 1<<32 + 1, 1<<32 + 2, 1<<32 + 3, 1 << 62, math.MaxInt - 1, math.MaxInt,
}

// noColours are numbers that are none of the Colours, beside Red: such a phase is Red.
var noColours = append([]int{0, 4, 5}, others...)

// above are bits of a set beyond the lowest eight.
var above = []int{0, 1 << 8, 1 << 9, 0xFF00, 1 << 31, 1 << 32, 0xFF << 32, 1 << 62, math.MaxInt &^ 255, math.MinInt, -256}

// made is a well-formed table with these groups, in which two phases conflict if they are not beside each other.
func made(t testing.TB, groups ...rows) api.Table {
	t.Helper()
	x := api.Table{Revert: 20, Groups: groups}
	for p, s := range wordedPlaces(x) {
		x.Phases[p] = api.Phase{On: true, Min: 50, Gap: 20, Max: 200, Top: 300, Step: 50, Yellow: 35, Red: 10}
		x.Flash[p] = api.FlashRed
		for q, o := range wordedPlaces(x) {
			if p != q && (s.group != o.group || s.ring == o.ring) {
				x.Conflict[p] += 1 << q
			}
		}
	}
	wellFormed(t, x)
	return x
}

func wellFormed(t testing.TB, x api.Table) {
	t.Helper()
	if f := check.Check(x); f != (api.Fault{}) {
		t.Fatalf("%+v is not well-formed: %v", x, f)
	}
}

// eight has two groups of four phases.
func eight(t testing.TB) api.Table {
	return made(t, rows{{0, 1}, {4, 5}}, rows{{2, 3}, {6, 7}})
}

// odd has groups with rows in another order than that of the numbers, of different lengths, and empty ones; phase 1 is in none.
func odd(t testing.TB) api.Table {
	return made(t, rows{{5, 0, 3}, {2}}, rows{nil, {7}}, rows{{6}, {4}})
}

func at(group, a, b int) api.Rings { return api.Rings{Group: group, At: [2]int{a, b}} }

func cross(r api.Rings) api.Rings {
	r.Cross = true
	return r
}

// runs are phases by letters: red for long enough, red for too short a time, green, done, yellow, red clearance.
func runs(s string) [api.Phases]api.Run {
	var l [api.Phases]api.Run
	for p, x := range s {
		l[p] = map[rune]api.Run{
			'r': {Time: 20, Left: 5, Foot: api.Foot{State: 1}, Done: true}, 'n': {Time: 19}, 'g': {Colour: 1, Time: 60, Left: 5}, 'd': {Colour: 1, Time: 60, Left: 5, Done: true},
			'y': {Colour: 2, Time: 60, Done: true}, 'c': {Colour: 3, Time: 60, Done: true},
		}[x]
	}
	return l
}

func now(t *testing.T, x api.Table, r api.Rings, ring, want int) {
	t.Helper()
	if got := Now(x, r, ring); got != want {
		t.Fatalf("Now(%v, %+v, %d) = %d, want %d", x.Groups, r, ring, got, want)
	}
}

func pressed(t *testing.T, x api.Table, r api.Rings, l [api.Phases]api.Run, s, want int) {
	t.Helper()
	if got := Pressed(x, r, l, s); got != want {
		t.Fatalf("Pressed(%v, %+v,\n\t%+v, %#x) = %#x, want %#x", x.Groups, r, l, s, got, want)
	}
}

// result is what Step returns.
type result struct {
	next       api.Rings
	start, end int
}

func step(t *testing.T, x api.Table, r api.Rings, l [api.Phases]api.Run, s int, want result) {
	t.Helper()
	next, start, end := Step(x, r, l, s)
	if got := (result{next, start, end}); got != want {
		t.Fatalf("Step(%+v,\n\t%+v,\n\t%+v, %#x)\n\t= %+v,\nwant %+v", x, r, l, s, got, want)
	}
}

func put(t *testing.T, x api.Table, exit int, want api.Rings) {
	t.Helper()
	if got := Put(x, exit); got != want {
		t.Fatalf("Put(%v, %#x) = %+v, want %+v", x.Groups, exit, got, want)
	}
}

// P19.1: Now is the phase at the index of the ring's own At, in its own row, in the Group of the rings.
func TestNow(t *testing.T) {
	x := odd(t)
	for _, y := range []struct {
		r      api.Rings
		first  int
		second int
	}{
		{at(0, 0, 0), 5, 2}, {at(0, 1, 0), 0, 2}, {at(0, 2, 0), 3, 2}, {at(0, 3, 1), -1, -1}, {at(0, -1, 0), -1, 2}, {at(0, 0, -1), 5, -1}, {at(0, -1, -1), -1, -1},
		{at(1, 0, 0), -1, 7}, {at(1, 0, 1), -1, -1}, {at(1, -1, 0), -1, 7}, {at(2, 0, 0), 6, 4}, {at(2, 1, 0), -1, 4}, {at(2, 0, 1), 6, -1},
		{cross(at(0, 1, 0)), 0, 2}, {cross(at(0, -1, -1)), -1, -1},
	} {
		now(t, x, y.r, 0, y.first)
		now(t, x, y.r, 1, y.second)
	}
}

// P19.1: Now is -1 if there is no such group, no such ring, or nothing at this index.
func TestNowNone(t *testing.T) {
	for _, n := range others {
		for _, x := range []api.Table{odd(t), eight(t)} {
			for g := range x.Groups {
				now(t, x, at(g, 0, 0), n, -1)
				now(t, x, at(g, n, 0), 0, -1)
				now(t, x, at(g, 0, n), 1, -1)
				now(t, x, at(g, n, n), n, -1)
				now(t, x, at(n, 0, 0), g%2, -1)
			}
			now(t, x, at(len(x.Groups), 0, 0), 0, -1)
			now(t, x, at(0, 0, 0), 2, -1)
		}
		now(t, api.Table{}, at(n, 0, 0), 0, -1)
	}
	now(t, api.Table{}, at(0, 0, 0), 0, -1)
	now(t, api.Table{}, at(0, 0, 0), 1, -1)
}

// P19.1: a green phase is pressed if one that is wanted and not green does not come later beside it.
func TestPressed(t *testing.T) {
	x := eight(t)
	for _, y := range []struct {
		r       api.Rings
		s       string
		want, p int
	}{
		{at(0, 0, 0), "grrrgrrr", 0, 0}, {at(0, 0, 0), "grrrgrrr", 0x01, 0}, {at(0, 0, 0), "grrrgrrr", 0x11, 0}, {at(0, 0, 0), "drrrdrrr", 0x11, 0},
		{at(0, 0, 0), "grrrgrrr", 0x02, 0x01}, {at(0, 0, 0), "drrrdrrr", 0x02, 0x01}, {at(0, 0, 0), "grrrgrrr", 0x20, 0x10}, {at(0, 0, 0), "grrrgrrr", 0x22, 0x11}, {at(0, 0, 0), "grrrgrrr", 0x33, 0x11},
		{at(0, 1, 1), "rgrrrgrr", 0x01, 0x22}, {at(0, 1, 1), "rgrrrgrr", 0x10, 0x22}, {at(0, 1, 0), "rgrrgrrr", 0x01, 0x12}, {at(0, 1, 0), "rgrrgrrr", 0x20, 0x10}, {at(0, 1, 0), "rgrrgrrr", 0x21, 0x12},
		{at(0, 0, 0), "grrrgrrr", 0x04, 0x11}, {at(0, 0, 0), "grrrgrrr", 0x80, 0x11}, {at(0, 0, 0), "grrrgrrr", 0x26, 0x11}, {at(0, 0, 0), "grrrgrrr", 0x28, 0x11},
		{at(1, 0, 0), "rrgrrrgr", 0x08, 0x04}, {at(1, 0, 0), "rrgrrrgr", 0x80, 0x40}, {at(1, 0, 0), "rrgrrrgr", 0x01, 0x44}, {at(1, 1, 0), "rrrgrrgr", 0x80, 0x40}, {at(1, 1, 0), "rrrgrrgr", 0x04, 0x48},
		{at(0, 0, 0), "grrryrrr", 0x10, 0x01}, {at(0, 0, 0), "grrrcrrr", 0x10, 0x01}, {at(0, 0, 0), "grrrnrrr", 0x10, 0x01}, {at(0, 0, -1), "grrrrrrr", 0x10, 0}, {at(0, 0, -1), "grrryrrr", 0x10, 0}, {at(0, -1, -1), "grrrrrrr", 0x02, 0x01},
		{at(0, 0, 0), "yrrrgrrr", 0x02, 0}, {at(0, 0, 0), "crrrgrrr", 0x02, 0}, {at(0, 0, 0), "rrrrgrrr", 0x02, 0}, {at(0, 0, 0), "yrrrcrrr", 0xFF, 0}, {at(0, 0, 0), "rrrrrrrr", 0xFF, 0}, {at(0, 0, 0), "gggggggg", 0xFF, 0},
	} {
		for _, high := range above {
			pressed(t, x, y.r, runs(y.s), y.want|high, y.p)
			pressed(t, x, cross(y.r), runs(y.s), y.want|high, y.p)
		}
	}
}

// P19.1: only its index and the At of its own ring tell whether a phase comes later; the rows need not be in the order of the numbers.
func TestPressedLater(t *testing.T) {
	x := odd(t)
	for _, y := range []struct {
		r       api.Rings
		s       string
		want, p int
	}{
		{at(0, -1, 0), "rrgrrrrr", 0x20, 0}, {at(0, 0, 0), "rrgrrrrr", 0x20, 4}, {at(0, 0, 0), "rrgrrrrr", 0x01, 0}, {at(0, 0, 0), "rrgrrrrr", 0x08, 0}, {at(0, 0, 0), "rrgrrrrr", 0x09, 0},
		{at(0, 1, 0), "rrgrrrrr", 0x01, 4}, {at(0, 1, 0), "rrgrrrrr", 0x08, 0}, {at(0, 2, 0), "rrgrrrrr", 0x08, 4}, {at(0, 3, 0), "rrgrrrrr", 0x08, 4}, {at(0, math.MaxInt, 0), "rrgrrrrr", 0x29, 4}, {at(0, math.MinInt, 0), "rrgrrrrr", 0x29, 0},
		{at(0, 0, math.MaxInt), "rrgrrrrr", 0x09, 0}, {at(0, 0, -1), "rrrrrgrr", 0x04, 0}, {at(0, 9, -1), "rrrrrgrr", 0x04, 0}, {at(0, -1, 0), "rrrrrgrr", 0x04, 0x20}, {at(0, 0, -1), "rrrrrgrr", 0x0C, 0x20}, {at(0, 0, -1), "rrrrrgrr", 0x05, 0x20},
		{at(1, -1, -1), "rrrrrrrg", 0x20, 0x80}, {at(1, -1, -1), "rrgrrrrr", 0x09, 4}, {at(2, -1, -1), "rrrrrrgr", 0x10, 0}, {at(2, -1, -1), "rrrrgrrr", 0x40, 0}, {at(2, -1, -1), "rrrrgrgr", 0x80, 0x50},
	} {
		pressed(t, x, y.r, runs(y.s), y.want, y.p)
	}
}

// P19.1: a green phase of another group is asked by its ring only, as it is worded; in a Group that there is not, nothing comes later.
func TestPressedOtherGroup(t *testing.T) {
	x := eight(t)
	for _, y := range []struct {
		r       api.Rings
		s       string
		want, p int
	}{
		{at(1, -1, -1), "grrrgrrr", 0x40, 0x10}, {at(1, -1, -1), "grrrgrrr", 0x04, 0x01}, {at(1, -1, -1), "grrrgrrr", 0x44, 0x11}, {at(1, -1, 0), "grrrgrrr", 0x40, 0x11}, {at(1, -1, 0), "grrrgrrr", 0x80, 0x10}, {at(1, -1, -1), "grrrgrrr", 0x20, 0x11},
	} {
		pressed(t, x, y.r, runs(y.s), y.want, y.p)
	}
	for _, group := range append([]int{2, 3}, others...) {
		pressed(t, x, at(group, -1, -1), runs("grrrgrrr"), 0x20, 0x11)
		pressed(t, x, at(group, -1, -1), runs("grrrgrrr"), 0x11, 0)
	}
}

// P19.1: a phase that is not On is never pressed; but one that is wanted, and is in no group, presses those that are.
func TestPressedOff(t *testing.T) {
	x := odd(t)
	pressed(t, x, at(0, -1, -1), runs("grrrrrrr"), 2, 1)
	pressed(t, x, at(0, -1, -1), runs("rrgrrrrr"), 2, 4)
	pressed(t, x, at(0, -1, -1), runs("ggggrrrr"), 2, 0)
	pressed(t, x, at(0, -1, -1), runs("gggrrrrr"), 8, 1)
	pressed(t, x, at(0, 9, 9), runs("rgrrrrrr"), 0xFD, 0)
	x.Phases = [api.Phases]api.Phase{}
	pressed(t, x, at(0, 9, 9), runs("grgrrrrr"), 0xFF, 0)
	x.Phases[2].On = true
	pressed(t, x, at(0, 9, 9), runs("grgrrrrr"), 0xFF, 4)
}

// P19.1: only Green is green, whatever number the Colour is.
func TestPressedColours(t *testing.T) {
	x := eight(t)
	for _, colour := range append([]int{2, 3}, noColours...) {
		l := runs("grrrgrrr")
		l[0].Colour = colour
		pressed(t, x, at(0, 0, 0), l, 0x06, 0x10)
		pressed(t, x, at(0, 0, 0), l, 0x01, 0x10)
		pressed(t, x, at(0, -1, 0), l, 0x01, 0)
	}
}

// P19.2: without Cross, each ring goes on from its index to the next one that is wanted; a green phase that is done ends for it.
func TestStep(t *testing.T) {
	x := eight(t)
	for _, y := range []struct {
		r    api.Rings
		s    string
		want int
		to   result
	}{
		{at(0, -1, -1), "rrrrrrrr", 0x12, result{at(0, 1, 0), 0x12, 0}}, {at(0, -1, -1), "rrrrrrrr", 0x11, result{at(0, 0, 0), 0x11, 0}}, {at(0, -1, -1), "rrrrrrrr", 0x33, result{at(0, 0, 0), 0x11, 0}}, {at(0, -1, -1), "rrrrrrrr", 0x22, result{at(0, 1, 1), 0x22, 0}},
		{at(0, -1, -1), "rrrrrrrr", 0x01, result{at(0, 0, -1), 0x01, 0}}, {at(0, -1, -1), "rrrrrrrr", 0x20, result{at(0, -1, 1), 0x20, 0}}, {at(0, -1, -1), "rrrrrrrr", 0xC1, result{at(0, 0, -1), 0x01, 0}}, {at(0, -1, -1), "rrrrrrrr", 0, result{at(0, -1, -1), 0, 0}},
		{at(0, 0, 0), "rrrrrrrr", 0x33, result{at(0, 1, 1), 0x22, 0}}, {at(0, 0, 0), "nrrrcrrr", 0x33, result{at(0, 1, 0), 0x02, 0}}, {at(0, 0, 1), "rrrrrrrr", 0x33, result{at(0, 1, 1), 0x02, 0}}, {at(1, -1, 0), "rrrrrrrr", 0xCC, result{at(1, 0, 1), 0x84, 0}},
		{at(0, 0, 0), "grrrgrrr", 0x33, result{at(0, 0, 0), 0, 0}}, {at(0, 0, 0), "drrrgrrr", 0x33, result{at(0, 0, 0), 0, 0x01}}, {at(0, 0, 0), "grrrdrrr", 0x33, result{at(0, 0, 0), 0, 0x10}}, {at(0, 0, 0), "drrrdrrr", 0x33, result{at(0, 0, 0), 0, 0x11}},
		{at(0, 0, 0), "drrrdrrr", 0x02, result{at(0, 0, 0), 0, 0x01}}, {at(0, 0, 0), "drrrdrrr", 0x20, result{at(0, 0, 0), 0, 0x10}}, {at(0, 0, 0), "drrrdrrr", 0x11, result{at(0, 0, 0), 0, 0}}, {at(0, 0, 0), "drrrdrrr", 0, result{at(0, 0, 0), 0, 0}},
		{at(0, 0, 0), "yrrrgrrr", 0x33, result{at(0, 0, 0), 0, 0}}, {at(0, 0, 0), "crrrgrrr", 0x33, result{at(0, 0, 0), 0, 0}}, {at(0, 0, 0), "yrrrdrrr", 0x33, result{at(0, 0, 0), 0, 0x10}}, {at(0, 0, 0), "nrrrdrrr", 0x33, result{at(0, 1, 0), 0x02, 0x10}}, {at(0, 0, 0), "rrrrgrrr", 0x33, result{at(0, 1, 0), 0x02, 0}},
		{at(0, -1, 0), "rrrrgrrr", 0x33, result{at(0, 0, 0), 0x01, 0}}, {at(0, 2, 0), "rrrrgrrr", 0x33, result{at(0, 2, 0), 0, 0}}, {at(0, 2, -1), "rrrrrrrr", 0x33, result{at(0, 2, 0), 0x10, 0}}, {at(0, -9, -1), "rrrrrrrr", 0x02, result{at(0, 1, -1), 0x02, 0}},
		{at(1, -1, -1), "rrrrrrrr", 0xFF, result{at(1, 0, 0), 0x44, 0}}, {at(1, 0, 0), "rrdrrrdr", 0xFF, result{at(1, 0, 0), 0, 0x44}}, {at(1, 1, 0), "rrrdrrdr", 0x88, result{at(1, 1, 0), 0, 0x40}},
		{at(0, math.MinInt, math.MinInt), "rrrrrrrr", 0x21, result{at(0, 0, 1), 0x21, 0}}, {at(0, math.MinInt, math.MaxInt), "rrrrrrrr", 0x31, result{at(0, 0, math.MaxInt), 0x01, 0}},
	} {
		for _, high := range above {
			step(t, x, y.r, runs(y.s), y.want|high, y.to)
		}
	}
}

// P19.2: a phase that is not the one of its ring neither ends nor makes the ring busy.
func TestStepOthersGreen(t *testing.T) {
	x := odd(t)
	x.Conflict = [api.Phases]int{}
	wellFormed(t, x)
	step(t, x, at(0, 0, 0), runs("drrdrrrr"), 0x05, result{at(0, 0, 0), 0, 0})
	step(t, x, at(0, 0, 0), runs("ryrdryyy"), 0x09, result{at(0, 0, 0), 0, 0})
	step(t, x, at(0, 0, 0), runs("ryrrrryy"), 0x09, result{at(0, 1, 0), 0x01, 0})
	step(t, x, at(0, 0, 0), runs("rrrrrdrr"), 0x09, result{at(0, 0, 0), 0, 0x20})
	step(t, x, at(0, 1, 0), runs("rrrrrdrr"), 0x09, result{at(0, 2, 0), 0x08, 0})
	step(t, x, at(1, 0, -1), runs("ddddddrd"), 0x80, result{at(1, 0, -1), 0, 0})
	step(t, x, at(1, 0, -1), runs("dddddddr"), 0x80, result{at(1, 0, 0), 0x80, 0})
}

// P19.2: a phase begins only if it is Red itself, which a number that is no Colour is, too.
func TestBeginsRed(t *testing.T) {
	x := eight(t)
	for _, colour := range []int{1, 2, 3} {
		l := runs("rrrrrrrr")
		l[0].Colour, l[0].Done = colour, false
		step(t, x, at(0, -1, -1), l, 0x11, result{at(0, -1, 0), 0x10, 0})
		step(t, x, at(0, -1, 0), l, 0x01, result{at(0, -1, 0), 0, 0})
		step(t, x, at(0, 0, 0), l, 0x02, result{at(0, 0, 0), 0, 0})
	}
	for _, colour := range noColours {
		l := runs("rrrrrrrr")
		l[0].Colour = colour
		step(t, x, at(0, -1, -1), l, 0x11, result{at(0, 0, 0), 0x11, 0})
		step(t, x, at(0, 0, 0), l, 0x02, result{at(0, 1, 0), 0x02, 0})
	}
}

// P19.2: and only if it has been Red for at least Revert ticks.
func TestBeginsRevert(t *testing.T) {
	for _, y := range []struct {
		revert, time int
		begins       bool
	}{
		{20, 19, false}, {20, 20, true}, {20, 21, true}, {20, 0, false}, {20, -20, false}, {20, 10000, true}, {20, math.MaxInt, true}, {20, math.MinInt, false}, {20, 1<<32 + 1, true}, {20, -(1 << 32) + 50, false},
		{0, -1, false}, {0, 0, true}, {0, 1, true}, {1, 0, false}, {1, 1, true}, {9999, 9998, false}, {9999, 9999, true}, {9999, 10000, true},
	} {
		x, l := eight(t), runs("rrrrrrrr")
		x.Revert, l[4].Time = y.revert, y.time
		wellFormed(t, x)
		l[0].Time = math.MaxInt
		want := result{at(0, 0, -1), 0x01, 0}
		if y.begins {
			want = result{at(0, 0, 0), 0x11, 0}
		}
		step(t, x, at(0, -1, -1), l, 0x11, want)
	}
}

// P19.2: and only if all phases of its Conflict are Red, those that are not On, too; its own Conflict counts only.
func TestBeginsConflict(t *testing.T) {
	for q := range api.Phases {
		if q == 4 {
			continue
		}
		for _, colour := range append([]int{1, 2, 3}, noColours...) {
			for _, on := range []bool{true, false} {
				x, l := made(t, rows{{4}, nil}, rows{{0, 1, 2}, {3, 5, 6, 7}}), runs("rrrrrrrr")
				if !on {
					x = made(t, rows{{4}, nil})
				}
				l[q].Colour, l[q].Time = colour, 20
				x.Conflict[4] = 0xEF &^ (1 << q)
				x.Conflict[q] = 1 << 4
				step(t, x, at(0, -1, -1), l, 0x10, result{at(0, 0, -1), 0x10, 0})
				x.Conflict[4] = 1 << q
				x.Conflict[q] = 0
				want := result{at(0, -1, -1), 0, 0}
				if colour < 1 || colour > 3 {
					want = result{at(0, 0, -1), 0x10, 0}
				}
				step(t, x, at(0, -1, -1), l, 0x10, want)
			}
		}
	}
}

// P19.2: the runs of the tick before count: a phase does not begin in the tick in which one that it conflicts with ends, and both rings may begin in one tick.
func TestBeginsBefore(t *testing.T) {
	x := eight(t)
	step(t, x, at(0, 0, 0), runs("drrrrrrr"), 0x22, result{at(0, 0, 1), 0x20, 0x01})
	x.Conflict[5] |= 1
	step(t, x, at(0, 0, 0), runs("drrrrrrr"), 0x22, result{at(0, 0, 0), 0, 0x01})
	step(t, x, at(0, -1, 0), runs("rrrrrrrr"), 0x21, result{at(0, 0, 1), 0x21, 0})
}

// resting is a table in which phase 5 rests, and runs in which it is green for Min ticks, and phase 0 is green and not Done.
func resting(t *testing.T) (api.Table, [api.Phases]api.Run) {
	x, l := eight(t), runs("grrrrgrr")
	x.Phases[5].Rest = true
	l[5] = api.Run{Colour: 1, Time: 50}
	return x, l
}

// P19.2: a green phase rests under all of its conditions only; then it ends, though it is not Done and nobody waits.
func TestRests(t *testing.T) {
	for _, y := range []struct {
		change func(x *api.Phase, r *api.Run)
		want   int
		end    int
	}{
		{func(x *api.Phase, r *api.Run) {}, 0, 0x20}, {func(x *api.Phase, r *api.Run) {}, 0xDF, 0x20}, {func(x *api.Phase, r *api.Run) {}, 0x20, 0}, {func(x *api.Phase, r *api.Run) {}, 0xFF, 0},
		{func(x *api.Phase, r *api.Run) { x.Rest = false }, 0, 0}, {func(x *api.Phase, r *api.Run) { x.Rest = false }, 0xDF, 0},
		{func(x *api.Phase, r *api.Run) { r.Time = 49 }, 0, 0}, {func(x *api.Phase, r *api.Run) { r.Time = 51 }, 0, 0x20}, {func(x *api.Phase, r *api.Run) { r.Time = math.MaxInt }, 0, 0x20}, {func(x *api.Phase, r *api.Run) { r.Time = math.MinInt }, 0, 0}, {func(x *api.Phase, r *api.Run) { r.Time = 0 }, 0, 0},
		{func(x *api.Phase, r *api.Run) { x.Min = 51 }, 0, 0}, {func(x *api.Phase, r *api.Run) { x.Min, r.Time = 1, 1 }, 0, 0x20}, {func(x *api.Phase, r *api.Run) { x.Min, r.Time = 1, 0 }, 0, 0}, {func(x *api.Phase, r *api.Run) { x.Min, x.Max, x.Top, r.Time = 9999, 9999, 9999, 9998 }, 0, 0}, {func(x *api.Phase, r *api.Run) { x.Min, x.Max, x.Top, r.Time = 9999, 9999, 9999, 9999 }, 0, 0x20},
		{func(x *api.Phase, r *api.Run) { r.Foot.State = 1 }, 0, 0}, {func(x *api.Phase, r *api.Run) { r.Foot.State = 2 }, 0, 0}, {func(x *api.Phase, r *api.Run) { r.Foot.State = 3 }, 0, 0x20}, {func(x *api.Phase, r *api.Run) { r.Foot.State = -1 }, 0, 0x20}, {func(x *api.Phase, r *api.Run) { r.Foot.State = 257 }, 0, 0x20}, {func(x *api.Phase, r *api.Run) { r.Foot.State = 1<<32 + 2 }, 0, 0x20}, {func(x *api.Phase, r *api.Run) { r.Foot.Time = 5 }, 0, 0x20},
		{func(x *api.Phase, r *api.Run) { r.Left = 1 }, 0, 0}, {func(x *api.Phase, r *api.Run) { r.Left = -1 }, 0, 0}, {func(x *api.Phase, r *api.Run) { r.Left = 9999 }, 0, 0}, {func(x *api.Phase, r *api.Run) { r.Left = 1 << 32 }, 0, 0}, {func(x *api.Phase, r *api.Run) { r.Left = math.MinInt }, 0, 0},
		{func(x *api.Phase, r *api.Run) { r.Done = true }, 0, 0x20}, {func(x *api.Phase, r *api.Run) { r.Done = true }, 0x20, 0}, {func(x *api.Phase, r *api.Run) { r.Done, r.Left = true, 1 }, 0xDF, 0}, {func(x *api.Phase, r *api.Run) { r.Press, r.Extra, r.Maxed = 7, 7, true }, 0, 0x20},
		{func(x *api.Phase, r *api.Run) { r.Colour = 2 }, 0, 0}, {func(x *api.Phase, r *api.Run) { r.Colour = 3 }, 0, 0}, {func(x *api.Phase, r *api.Run) { r.Colour = 0 }, 0, 0}, {func(x *api.Phase, r *api.Run) { r.Colour = 4 }, 0, 0}, {func(x *api.Phase, r *api.Run) { r.Colour = 1<<32 + 1 }, 0, 0},
	} {
		x, l := resting(t)
		y.change(&x.Phases[5], &l[5])
		wellFormed(t, x)
		for _, high := range above {
			step(t, x, at(0, 0, 1), l, y.want|high, result{at(0, 0, 1), 0, y.end})
		}
	}
}

// P19.2: each ring has its own phase that rests, whether there is a next index or not, and beside one that begins.
func TestRestsBoth(t *testing.T) {
	x, l := resting(t)
	x.Phases[0].Rest = true
	l[0] = l[5]
	step(t, x, at(0, 0, 1), l, 0, result{at(0, 0, 1), 0, 0x21})
	step(t, x, at(0, 0, 1), l, 0x02, result{at(0, 0, 1), 0, 0x21})
	step(t, x, at(0, 0, 1), l, 0x03, result{at(0, 0, 1), 0, 0x20})
	step(t, x, at(0, 0, 1), l, 0x20, result{at(0, 0, 1), 0, 0x01})
	step(t, x, at(0, 0, 1), l, 0x21, result{at(0, 0, 1), 0, 0})
	step(t, x, at(0, 0, 0), l, 0, result{at(0, 0, 0), 0, 0x01})
	l[0] = api.Run{Time: 50}
	step(t, x, at(0, 0, 1), l, 0x02, result{at(0, 1, 1), 0x02, 0x20})
	l[5].Time = 49
	step(t, x, at(0, 0, 1), l, 0x02, result{at(0, 1, 1), 0x02, 0})
}

// P19.2: when no phase begins or ends, both rings are settled and others wait, Cross becomes true and all green phases end.
func TestCrosses(t *testing.T) {
	x := eight(t)
	for _, y := range []struct {
		r       api.Rings
		s       string
		want    int
		crosses bool
		end     int
	}{
		{at(0, 0, 0), "drrrdrrr", 0x04, true, 0x11}, {at(0, 1, 1), "rdrrrdrr", 0x04, true, 0x22}, {at(0, 1, 1), "rdrrrdrr", 0x01, true, 0x22}, {at(0, 1, 0), "rdrrdrrr", 0x81, true, 0x12}, {at(1, 1, 1), "rrrdrrrd", 0xFF, true, 0x88},
		{at(0, 1, 1), "rdrrrrrr", 0x04, true, 0x02}, {at(0, 1, 1), "rrrrrdrr", 0x04, true, 0x20}, {at(0, 1, 1), "rrrrrrrr", 0x04, true, 0}, {at(0, -1, -1), "rrrrrrrr", 0x04, true, 0}, {at(0, 1, 1), "rrrrrrrr", 0x01, true, 0}, {at(0, 2, 9), "rrrrrrrr", 0x33, true, 0}, {at(0, 1, 1), "nnrrnnrr", 0x01, true, 0},
		{at(0, 0, 0), "drrrdrrr", 0, false, 0}, {at(0, 0, 0), "drrrdrrr", 0x01, false, 0}, {at(0, 0, 0), "drrrdrrr", 0x11, false, 0}, {at(0, 1, 1), "rrrrrrrr", 0, false, 0},
		{at(0, 0, 0), "grrrdrrr", 0x04, false, 0}, {at(0, 0, 0), "drrrgrrr", 0x04, false, 0}, {at(0, 0, 0), "yrrrdrrr", 0x04, false, 0}, {at(0, 0, 0), "drrryrrr", 0x04, false, 0}, {at(0, 0, 0), "crrrdrrr", 0x04, false, 0}, {at(0, 0, 0), "drrrcrrr", 0x04, false, 0}, {at(0, 0, 0), "grrrgrrr", 0x04, false, 0}, {at(0, 1, 1), "ryrrryrr", 0x0C, false, 0}, {at(0, 1, 1), "rrrrrcrr", 0x0C, false, 0},
		{at(0, -1, 1), "nrrrrdrr", 0x05, false, 0}, {at(0, 1, -1), "rrrrnrrr", 0x14, false, 0}, {at(0, -1, -1), "rrdrrrrr", 0x11, false, 0}, {at(0, -1, 1), "grrrrdrr", 0x05, false, 0}, {at(0, 0, 0), "yrrrdrrr", 0x02, false, 0},
		{at(0, 0, 0), "dyrrdcrr", 0x04, true, 0x11}, {at(0, 0, 0), "dyrrdcrr", 0x02, false, 0x01}, {at(0, 1, 1), "gdggdggg", 0x01, false, 0}, {at(0, 1, 1), "gdgggdgg", 0x01, false, 0}, {at(0, 1, 1), "gdgngdgg", 0x0D, true, 0xF7}, {at(0, 1, 1), "gdgygdgg", 0x08, true, 0xF7}, {at(0, -1, -1), "rrggrrgg", 0x33, false, 0}, {at(0, 1, 1), "rrggrrgg", 0x33, true, 0xCC},
	} {
		to := result{y.r, 0, y.end}
		to.next.Cross = y.crosses
		for _, high := range above {
			step(t, x, y.r, runs(y.s), y.want|high, to)
		}
	}
}

// P19.2: what is wanted and is in no group makes the rings cross again and again; the green of a phase that is not On ends, too.
func TestCrossesOff(t *testing.T) {
	x := odd(t)
	step(t, x, at(0, 2, 0), runs("rrdgrrrr"), 2, result{at(0, 2, 0), 0, 0})
	step(t, x, at(0, 2, 0), runs("rrddrrrr"), 2, result{cross(at(0, 2, 0)), 0, 0x0C})
	step(t, x, at(0, 2, 0), runs("rrrrrrrr"), 2, result{cross(at(0, 2, 0)), 0, 0})
	step(t, x, cross(at(0, 2, 0)), runs("rrrrrrrr"), 2, result{at(0, -1, -1), 0, 0})
	step(t, x, at(0, 2, 0), runs("rgrrrrrr"), 0x80, result{cross(at(0, 2, 0)), 0, 2})
	step(t, x, at(0, 2, 0), runs("rgrrrrrr"), 2, result{at(0, 2, 0), 0, 0})
	step(t, x, cross(at(0, 2, 0)), runs("rgrrrrrr"), 0x80, result{cross(at(0, 2, 0)), 0, 0})
}

// P19.2: they do not cross in a tick in which a phase rests, though both rings are settled, or in which one begins or ends for a next index.
func TestCrossesLater(t *testing.T) {
	x, l := resting(t)
	l[0].Done, l[5].Done = true, true
	step(t, x, at(0, 0, 1), l, 0x04, result{at(0, 0, 1), 0, 0x20})
	step(t, x, at(0, 0, 1), l, 0x24, result{cross(at(0, 0, 1)), 0, 0x21})
	l[5].Left = 1
	step(t, x, at(0, 0, 1), l, 0x04, result{cross(at(0, 0, 1)), 0, 0x21})
	step(t, x, at(0, 0, 0), runs("drrrrrrr"), 0x24, result{at(0, 0, 1), 0x20, 0})
	step(t, x, at(0, 0, 0), runs("drrrdrrr"), 0x24, result{at(0, 0, 0), 0, 0x10})
}

// P19.2: while they cross, nothing begins or ends till all eight phases are Red; then the next group is that of plan.Following.
func TestAcross(t *testing.T) {
	x := odd(t)
	for _, y := range []struct{ group, want, to int }{
		{0, 0x80, 1}, {0, 0x10, 2}, {0, 0x90, 1}, {0, 0x04, 0}, {0, 0x94, 1}, {1, 0x04, 0}, {1, 0x40, 2}, {1, 0x44, 2}, {1, 0x80, 1}, {2, 0x81, 0}, {2, 0x90, 1}, {2, 0x50, 2}, {2, 0xFF, 0}, {1, 0xFF, 2}, {0, 0xFF, 1},
		{0, 0, 0}, {1, 0, 1}, {2, 0, 2}, {1, 0x02, 1}, {2, 0x02, 2}, {3, 0x90, 1}, {-1, 0x90, 1}, {3, 0xFF, 0}, {math.MaxInt, 0x10, 2}, {math.MinInt, 0x10, 2}, {7, 0, 7}, {-7, 2, -7}, {math.MinInt, 0, math.MinInt},
	} {
		for _, high := range above {
			for _, s := range []string{"rrrrrrrr", "nnnnnnnn"} {
				step(t, x, cross(at(y.group, 0, 0)), runs(s), y.want|high, result{at(y.to, -1, -1), 0, 0})
				step(t, x, cross(at(y.group, 9, -5)), runs(s), y.want|high, result{at(y.to, -1, -1), 0, 0})
			}
		}
	}
}

// P19.2: each of the eight phases has to be Red, those of other groups and those that are not On, too.
func TestAcrossBusy(t *testing.T) {
	x := odd(t)
	for p := range api.Phases {
		for _, r := range []api.Rings{cross(at(0, 1, 0)), cross(at(2, -1, 4)), cross(at(5, math.MaxInt, math.MinInt))} {
			for colour := 1; colour <= 3; colour++ {
				l := runs("rrrrrrrr")
				l[p] = api.Run{Colour: colour, Time: 99, Done: true}
				step(t, x, r, l, 0xFF, result{r, 0, 0})
				step(t, x, r, l, 0, result{r, 0, 0})
			}
			for _, colour := range noColours {
				l := runs("rrrrrrrr")
				l[p].Colour = colour
				step(t, x, r, l, 0x80, result{at(1, -1, -1), 0, 0})
			}
		}
	}
}

// P19.3: Put puts each ring to the phase of exit that is in the group of the first one.
func TestPut(t *testing.T) {
	x, y := eight(t), odd(t)
	for _, high := range above {
		for exit, want := range map[int]api.Rings{
			0: at(0, -1, -1), 0x01: at(0, 0, -1), 0x02: at(0, 1, -1), 0x10: at(0, -1, 0), 0x20: at(0, -1, 1), 0x11: at(0, 0, 0), 0x12: at(0, 1, 0), 0x21: at(0, 0, 1), 0x22: at(0, 1, 1),
			0x04: at(1, 0, -1), 0x08: at(1, 1, -1), 0x40: at(1, -1, 0), 0x80: at(1, -1, 1), 0x44: at(1, 0, 0), 0x48: at(1, 1, 0), 0x84: at(1, 0, 1), 0x88: at(1, 1, 1),
			0x14: at(1, 0, -1), 0x18: at(1, 1, -1), 0x41: at(0, 0, -1), 0x50: at(0, -1, 0), 0x03: at(0, 0, -1), 0x0C: at(1, 0, -1), 0xC0: at(1, -1, 0), 0xFF: at(0, 0, 0), 0xE0: at(0, -1, 1), 0xEE: at(0, 1, 1), 0x5A: at(0, 1, 0),
		} {
			put(t, x, exit|high, want)
		}
		for exit, want := range map[int]api.Rings{
			0: at(0, -1, -1), 0x20: at(0, 0, -1), 0x01: at(0, 1, -1), 0x08: at(0, 2, -1), 0x04: at(0, -1, 0), 0x24: at(0, 0, 0), 0x05: at(0, 1, 0), 0x0C: at(0, 2, 0),
			0x80: at(1, -1, 0), 0x40: at(2, 0, -1), 0x10: at(2, -1, 0), 0x50: at(2, 0, 0), 0xC0: at(2, 0, -1), 0x90: at(2, -1, 0), 0xD0: at(2, 0, 0), 0x88: at(0, 2, -1), 0xFC: at(0, 2, 0),
		} {
			put(t, y, exit|high, want)
		}
	}
}

// P19.3: the first phase of exit is that with the smallest number, in its ring as well as for the Group; where it has no group, Group is 0, as plan.Where returns it.
func TestPutFirst(t *testing.T) {
	x := odd(t)
	put(t, x, 0x21, at(0, 1, -1))
	put(t, x, 0x28, at(0, 2, -1))
	put(t, x, 0x29, at(0, 1, -1))
	put(t, x, 0x02, at(0, -1, -1))
	put(t, x, 0x42, at(0, -1, -1))
	put(t, x, 0x06, at(0, -1, 0))
	put(t, made(t, rows{{3}, nil}), 0xF7, at(0, -1, -1))
}

// The example of the chapter.
func TestExample(t *testing.T) {
	x := made(t, rows{{0, 1}, {4, 5}})
	next, start, end := Step(x, at(0, -1, -1), runs("rrrrrrrr"), 0x12)
	if next != at(0, 1, 0) || start != 0x12 || end != 0 {
		t.Errorf("%+v, %#x, %#x", next, start, end)
	}
}

// spot is a position of a phase.
type spot struct{ group, ring, at int }

// wordedPlaces are the positions of the phases; in a well-formed table each has one at most.
func wordedPlaces(x api.Table) map[int]spot {
	l := map[int]spot{}
	for g, both := range x.Groups {
		for i, row := range both {
			for n, p := range row {
				if _, twice := l[p]; !twice && p >= 0 && p < 8 {
					l[p] = spot{g, i, n}
				}
			}
		}
	}
	return l
}

func in(s, p int) bool { return p >= 0 && p < 8 && s>>p&1 == 1 }

// sum is the set of the phases for which rule is true.
func sum(rule func(p int) bool) int {
	s := 0
	for p := range 8 {
		if rule(p) {
			s += 1 << p
		}
	}
	return s
}

// wordedNow is P19.1, by the positions of all phases.
func wordedNow(x api.Table, r api.Rings, ring int) int {
	for p, s := range wordedPlaces(x) {
		if s.group == r.Group && s.ring == ring && ring < 2 && s.at == r.At[ring] {
			return p
		}
	}
	return -1
}

// wordedPressed is P19.1, in the order of its words.
func wordedPressed(x api.Table, r api.Rings, l [8]api.Run, want int) int {
	places := wordedPlaces(x)
	return sum(func(p int) bool {
		if l[p].Colour != 1 || !x.Phases[p].On {
			return false
		}
		presses := false
		for q := range 8 {
			if !in(want, q) || l[q].Colour == 1 {
				continue
			}
			s, somewhere := places[q]
			later := somewhere && s.group == r.Group && s.ring != places[p].ring && s.at > r.At[s.ring]
			presses = presses || !later
		}
		return presses
	})
}

func wordedRed(r api.Run) bool { return r.Colour != 1 && r.Colour != 2 && r.Colour != 3 }

// wordedNext is the next index of a ring, or -1.
func wordedNext(x api.Table, r api.Rings, ring, want int) int {
	next := -1
	for p, s := range wordedPlaces(x) {
		if in(want, p) && s.group == r.Group && s.ring == ring && s.at > r.At[ring] && (next < 0 || s.at < next) {
			next = s.at
		}
	}
	return next
}

// wordedFollowing is P8.1: the distance from the group decides, and is greatest for the group itself.
func wordedFollowing(x api.Table, group, want int) int {
	best, nearest := -1, math.MaxInt
	for p, s := range wordedPlaces(x) {
		far := s.group - group
		if group < 0 || group >= len(x.Groups) {
			far = s.group
		} else if far <= 0 {
			far += len(x.Groups)
		}
		if in(want, p) && far < nearest {
			best, nearest = s.group, far
		}
	}
	return best
}

// wordedAcross is P19.2 with Cross.
func wordedAcross(x api.Table, r api.Rings, l [8]api.Run, want int) result {
	for p := range 8 {
		if !wordedRed(l[p]) {
			return result{next: r}
		}
	}
	g := wordedFollowing(x, r.Group, want)
	if g == -1 {
		g = r.Group
	}
	return result{next: api.Rings{Group: g, At: [2]int{-1, -1}}}
}

// wordedRests is P19.2: a green phase rests.
func wordedRests(x api.Phase, r api.Run, wanted bool) bool {
	if !x.Rest || r.Time < x.Min || wanted {
		return false
	}
	return !(r.Foot.State == 1 || r.Foot.State == 2) && r.Left == 0
}

// wordedBegins is P19.2: the phase at a next index begins.
func wordedBegins(x api.Table, l [8]api.Run, p int) bool {
	if !wordedRed(l[p]) || l[p].Time < x.Revert {
		return false
	}
	for q := range 8 {
		if in(x.Conflict[p], q) && !wordedRed(l[q]) {
			return false
		}
	}
	return true
}

// wordedStep is P19.2, in the order of its words.
func wordedStep(x api.Table, r api.Rings, l [8]api.Run, want int) result {
	if r.Cross {
		return wordedAcross(x, r, l, want)
	}
	to, settled := result{next: r}, 0
	for ring := range 2 {
		p, next := wordedNow(x, r, ring), wordedNext(x, r, ring, want)
		busy := p != -1 && !wordedRed(l[p])
		if busy && l[p].Colour == 1 {
			if l[p].Done && next != -1 {
				to.end += 1 << p
			} else if wordedRests(x.Phases[p], l[p], in(want, p)) {
				to.end += 1 << p
			}
		}
		if !busy && next != -1 {
			if q := x.Groups[r.Group][ring][next]; wordedBegins(x, l, q) {
				to.start += 1 << q
				to.next.At[ring] = next
			}
		}
		if next == -1 && (!busy || l[p].Colour == 1 && l[p].Done) {
			settled++
		}
	}
	if to.start == 0 && to.end == 0 && settled == 2 && sum(func(p int) bool { return in(want, p) && l[p].Colour != 1 }) != 0 {
		to.next.Cross = true
		to.end = sum(func(p int) bool { return l[p].Colour == 1 })
	}
	return to
}

// wordedPut is P19.3, in the order of its words; exit is not empty, and its first phase is in a group.
func wordedPut(x api.Table, exit int) api.Rings {
	places := wordedPlaces(x)
	r := api.Rings{At: [2]int{-1, -1}}
	found := false
	for p := range 8 {
		s, somewhere := places[p]
		if !in(exit, p) || !somewhere {
			continue
		}
		if !found {
			r.Group, found = s.group, true
		}
		if s.group == r.Group && r.At[s.ring] == -1 {
			r.At[s.ring] = s.at
		}
	}
	return r
}

// drawnTable is a well-formed table: with some phases in some groups, and with conflicts between some of those that are not beside each other.
func drawnTable(t testing.TB, r *rand.Rand) api.Table {
	n := pick(r, 1, 1, 2, 2, 3, 4)
	groups := make([]rows, n)
	for i, p := range r.Perm(8)[:pick(r, n, n+r.Intn(9-n), 8, 8)] {
		g := i
		if i >= n {
			g = r.Intn(n)
		}
		ring := r.Intn(2)
		groups[g][ring] = append(groups[g][ring], p)
	}
	x := made(t, groups...)
	x.Revert = r.Intn(6)
	often := 1 + r.Intn(5)
	for p := range 8 {
		for q := range p {
			if r.Intn(5) >= often {
				x.Conflict[p] &^= 1 << q
				x.Conflict[q] &^= 1 << p
			}
		}
	}
	for p := range x.Phases {
		if x.Phases[p].On {
			drawnTimes(r, &x.Phases[p])
		}
	}
	wellFormed(t, x)
	return x
}

func drawnTimes(r *rand.Rand, x *api.Phase) {
	*x = api.Phase{On: true, Min: 1 + r.Intn(8), Gap: r.Intn(5), Step: 1 + r.Intn(5), Yellow: 10 + r.Intn(4), Red: r.Intn(4), Rest: r.Intn(3) == 0}
	x.Max = x.Min + r.Intn(12)
	x.Top = x.Max + r.Intn(12)
	if r.Intn(2) == 0 {
		x.Walk, x.Blinks = 1+r.Intn(6), 1+r.Intn(6)
	}
}

// pick is one of l.
func pick(r *rand.Rand, l ...int) int { return l[r.Intn(len(l))] }

func drawnRings(r *rand.Rand, x api.Table) api.Rings {
	y := api.Rings{Group: r.Intn(len(x.Groups)), At: [2]int{r.Intn(4) - 1, r.Intn(4) - 1}, Cross: r.Intn(5) == 0}
	for i := range y.At {
		if r.Intn(4) == 0 {
			y.At[i] = len(x.Groups[y.Group][i]) - 1
		}
		if r.Intn(30) == 0 {
			y.At[i] = pick(r, others...)
		}
	}
	if r.Intn(30) == 0 {
		y.Group = pick(r, others...)
	}
	return y
}

// drawnRuns are phases most of which are red, but for those of the rings, which are often green.
func drawnRuns(r *rand.Rand, x api.Table, y api.Rings) [8]api.Run {
	var l [8]api.Run
	red := r.Intn(4) == 0
	for p := range l {
		colour := pick(r, 0, 0, 0, 0, 0, 0, 0, 0, 0, 0, 0, 0, 0, 1, 2, 3, 4)
		if p == wordedNow(x, y, 0) || p == wordedNow(x, y, 1) {
			colour = pick(r, 0, 1, 1, 1, 1, 1, 2, 3)
		}
		if red && colour != 4 {
			colour = 0
		}
		if r.Intn(50) == 0 {
			colour = pick(r, noColours...)
		}
		l[p] = api.Run{Colour: colour, Time: r.Intn(12), Left: pick(r, 0, 0, 1, -1, 5), Foot: api.Foot{State: pick(r, 0, 0, 1, 2, 3), Time: r.Intn(9)}, Press: r.Intn(9), Extra: r.Intn(9), Done: r.Intn(3) > 0, Maxed: r.Intn(2) == 0}
		if r.Intn(30) == 0 {
			l[p].Time = pick(r, others...)
		}
	}
	return l
}

// drawnSet has few or many phases, and now and then bits that are of none.
func drawnSet(r *rand.Rand) int {
	s := r.Intn(256)
	for range r.Intn(4) {
		s &= r.Intn(256)
	}
	if r.Intn(3) == 0 {
		s |= r.Intn(256) | r.Intn(256)
	}
	if r.Intn(8) == 0 {
		s |= pick(r, above...)
	}
	return s
}

// P19.1 to P19.3: over drawn well-formed tables, rings, runs and sets; R4: and the same in a second call.
func TestWorded(t *testing.T) {
	r := rand.New(rand.NewSource(19))
	seen := map[string]int{}
	for range 3000 {
		x := drawnTable(t, r)
		for range 40 {
			y, want := drawnRings(r, x), drawnSet(r)
			l := drawnRuns(r, x, y)
			to, press := wordedStep(x, y, l, want), wordedPressed(x, y, l, want)
			for range 2 {
				for ring := -1; ring < 3; ring++ {
					if ring < 0 || ring > 1 {
						now(t, x, y, ring, -1)
					} else {
						now(t, x, y, ring, wordedNow(x, y, ring))
					}
				}
				pressed(t, x, y, l, want, press)
				step(t, x, y, l, want, to)
			}
			if in(sum(func(p int) bool { return x.Phases[p].On }), lowest(want)) || want&255 == 0 {
				put(t, x, want, wordedPut(x, want))
				seen["put"]++
			}
			count(seen, y, to, press)
		}
	}
	for _, k := range []string{"put", "pressed", "begins", "begins twice", "ends", "ends twice", "both", "crosses", "waits", "goes on", "nothing"} {
		if seen[k] < 100 {
			t.Errorf("drawn: %q %d times", k, seen[k])
		}
	}
}

func lowest(s int) int {
	for p := range 8 {
		if in(s, p) {
			return p
		}
	}
	return -1
}

// count counts what happened in a step.
func count(seen map[string]int, y api.Rings, to result, press int) {
	if press != 0 {
		seen["pressed"]++
	}
	switch {
	case y.Cross && to.next.Cross:
		seen["waits"]++
	case y.Cross:
		seen["goes on"]++
	case to.next.Cross:
		seen["crosses"]++
	case to.start != 0 && to.end != 0:
		seen["both"]++
	case to.start&(to.start-1) != 0:
		seen["begins twice"]++
	case to.start != 0:
		seen["begins"]++
	case to.end&(to.end-1) != 0:
		seen["ends twice"]++
	case to.end != 0:
		seen["ends"]++
	default:
		seen["nothing"]++
	}
}

// R4, R5: nothing counts but the Groups, Conflict, Revert, and On, Rest and Min of the table, and Colour, Time, State, Left and Done of the runs.
func TestOtherFields(t *testing.T) {
	r := rand.New(rand.NewSource(190))
	for range 3000 {
		x := drawnTable(t, r)
		y, want := drawnRings(r, x), drawnSet(r)
		l := drawnRuns(r, x, y)
		to, press, place := wordedStep(x, y, l, want), wordedPressed(x, y, l, want), Put(x, want)
		for p := range x.Phases {
			f, g := &x.Phases[p], &l[p]
			f.Lock = !f.Lock
			for _, n := range []*int{&f.Gap, &f.Max, &f.Top, &f.Step, &f.Yellow, &f.Red, &f.Walk, &f.Blinks, &f.Recall, &x.Flash[p], &g.Foot.Time, &g.Press, &g.Extra, &g.Trend.Limit, &g.Trend.Up, &g.Trend.Down} {
				*n = int(r.Uint64())
			}
			g.Maxed = !g.Maxed
		}
		x.Detectors = []api.Detector{{Phase: -1}, {Phase: 3, MaxOn: 1}}
		x.Rails, x.Buses = []api.Rail{{Bars: 255, Exit: -1}}, []api.Bus{{Set: 255, Lock: 1}}
		x.Extend, x.Budget, x.Start, x.Least, x.Window, x.Share = -1, 1, -2, -3, 3, -4
		step(t, x, y, l, want, to)
		pressed(t, x, y, l, want, press)
		put(t, x, want, place)
	}
}

// R3: no call changes the lists of its table, nor the memory behind their length, nor finds what is there.
func TestKeepsLists(t *testing.T) {
	first, second := []int{0, 1, 6, 7}, []int{4, 5, 3}
	all := []rows{{first[:2], second[:2]}, {{2}, nil}, {{7}, {3}}}
	memory := func() []any {
		return []any{slices.Clone(first), slices.Clone(second), slices.Clone(all[1][0]), slices.Clone(all[2][0]), slices.Clone(all[2][1]), slices.Clone(all)}
	}
	x := made(t, all[:2]...)
	clone, was := table.Clone(x), memory()
	for ring := range 2 {
		for n := 2; n < 5; n++ {
			now(t, x, at(0, n, n), ring, -1)
		}
		now(t, x, at(2, 0, 0), ring, -1)
	}
	step(t, x, at(0, 1, 1), runs("rdrrrdrr"), 0xC8, result{cross(at(0, 1, 1)), 0, 0x22})
	step(t, x, cross(at(0, 1, 1)), runs("rrrrrrrr"), 0xC8, result{at(0, -1, -1), 0, 0})
	step(t, x, at(1, 0, 0), runs("rrrrrrrr"), 0x88, result{cross(at(1, 0, 0)), 0, 0})
	pressed(t, x, at(0, 1, 1), runs("rgrrrgrr"), 0xC8, 0x22)
	put(t, x, 0xC8, at(0, -1, -1))
	put(t, x, 0xCC, at(1, 0, -1))
	if !table.Same(x, clone) || !reflect.DeepEqual(memory(), was) {
		t.Errorf("the table has become %+v", x)
	}
}

// broken is a table that need not be well-formed: its rows have phases more than once, phases that are not On, and numbers that are not phases.
func broken(r *rand.Rand) api.Table {
	var x api.Table
	for p := range x.Phases {
		x.Phases[p] = api.Phase{On: r.Intn(2) == 0, Rest: r.Intn(2) == 0, Min: pick(r, append(others, 1, 5)...)}
		x.Conflict[p] = pick(r, append(others, 0, 0, 0, 3)...)
	}
	x.Revert = pick(r, append(others, 0, 0, 0)...)
	for range r.Intn(7) {
		var both rows
		for i := range both {
			for range r.Intn(5) {
				both[i] = append(both[i], pick(r, append(others, 0, 1, 2, 3, 4, 5, 6, 7, 0, 1, 2, 3, 4, 5, 6, 7)...))
			}
		}
		x.Groups = append(x.Groups, both)
	}
	return x
}

// R1: for tables that are not well-formed, with all rings, runs and sets, the calls end and do not panic; and what is returned as a phase or a set is one.
func TestBroken(t *testing.T) {
	r := rand.New(rand.NewSource(191))
	numbers := append([]int{0, 1, 2, 3}, others...)
	for range 40000 {
		x := broken(r)
		y := api.Rings{Group: pick(r, numbers...), At: [2]int{pick(r, numbers...), pick(r, numbers...)}, Cross: r.Intn(3) == 0}
		if len(x.Groups) > 0 && r.Intn(2) == 0 {
			y = drawnRings(r, x)
		}
		var l [8]api.Run
		for p := range l {
			l[p] = api.Run{Colour: pick(r, numbers...), Time: pick(r, numbers...), Left: pick(r, numbers...), Foot: api.Foot{State: pick(r, numbers...)}, Done: r.Intn(2) == 0}
		}
		want := pick(r, int(r.Uint64()), drawnSet(r))
		if p := Now(x, y, pick(r, numbers...)); p < -1 || p > 7 {
			t.Fatalf("Now(%v, %+v) = %d", x.Groups, y, p)
		}
		press := Pressed(x, y, l, want)
		_, start, end := Step(x, y, l, want)
		Put(x, want)
		if (press|start|end)&^255 != 0 {
			t.Fatalf("%v, %+v: %#x are pressed, %#x begin, %#x end", x.Groups, y, press, start, end)
		}
	}
}

// R1: and for tables with none, or more, groups and rows than a table may have.
func TestManyGroups(t *testing.T) {
	x := api.Table{Groups: make([]rows, 300)}
	long := make([]int, 300)
	for i := range long {
		long[i] = 8 + i
	}
	long[257] = 3
	x.Groups[266] = rows{nil, long}
	now(t, x, at(266, 0, 257), 1, 3)
	now(t, x, at(266, 0, 256), 1, -1)
	now(t, x, at(10, 0, 1), 1, -1)
	step(t, x, cross(at(299, 0, 0)), runs("rrrrrrrr"), 8, result{at(266, -1, -1), 0, 0})
	step(t, x, at(266, -1, -1), runs("rrrrrrrr"), 8, result{at(266, -1, 257), 8, 0})
	put(t, x, 8, at(266, -1, 257))
	put(t, api.Table{}, 255, at(0, -1, -1))
	step(t, api.Table{}, at(0, -1, -1), runs("rrrrrrrr"), 255, result{cross(at(0, -1, -1)), 0, 0})
	step(t, api.Table{}, cross(at(0, -1, -1)), runs("rrrrrrrr"), 255, result{at(0, -1, -1), 0, 0})
	pressed(t, api.Table{}, at(0, -1, -1), runs("gggggggg"), 255, 0)
}

// drive is an intersection that is driven by rings and phases.
type drive struct {
	t     api.Table
	r     api.Rings
	runs  [8]api.Run
	here  int
	calls int
	begun int       // since the last crossing
	ticks [8]int    // for which a phase has been called without being green
	been  [8][4]int // how often each group has been entered since then
	on    []int     // the phases that are On
	most  [8]int    // the ticks for which a phase waits at most
}

func newDrive(t testing.TB, r *rand.Rand) *drive {
	d := &drive{t: drawnTable(t, r), r: at(0, -1, -1)}
	for p := range d.runs {
		d.runs[p] = phase.Begin(d.t.Phases[p])
	}
	if _, f := bound.All(d.t); f != (api.Fault{}) {
		t.Fatalf("%+v is not accepted: %v", d.t, f)
	}
	for p, x := range d.t.Phases {
		if d.most[p] = bound.Free(d.t, p); x.On {
			d.on = append(d.on, p)
		}
	}
	return d
}

// put begins as behind a preempt: some phases beside each other are green, and the rings are at them.
func (d *drive) put(r *rand.Rand) {
	exit := 0
	for _, row := range d.t.Groups[r.Intn(len(d.t.Groups))] {
		if len(row) > 0 && (exit == 0 || r.Intn(2) == 0) {
			exit += 1 << pick(r, row...)
		}
	}
	d.r = Put(d.t, exit)
	for p := range d.runs {
		if in(exit, p) {
			d.runs[p] = phase.Step(d.t.Phases[p], d.runs[p], api.Cue{Start: true})
		}
	}
	d.begun = exit
}

// tick is a tick of the engine, but for detectors, buses and rails; it returns what began.
func (d *drive) tick(r *rand.Rand, often int) int {
	for _, p := range d.on {
		if r.Intn(40) == 0 {
			d.here ^= 1 << p
		}
		if r.Intn(often) == 0 {
			d.calls |= 1 << p
		}
		if d.runs[p].Colour == 1 {
			d.calls &^= 1 << p
		}
	}
	d.calls |= d.here & sum(func(p int) bool { return d.runs[p].Colour != 1 })
	want := d.calls | d.here
	next, start, end := Step(d.t, d.r, d.runs, want)
	press := Pressed(d.t, d.r, d.runs, want)
	for p := range d.runs {
		c := api.Cue{Start: in(start, p), End: in(end, p), Here: in(d.here, p), Pressed: in(press, p), Push: r.Intn(9) == 0}
		d.runs[p] = phase.Step(d.t.Phases[p], d.runs[p], c)
	}
	d.r = next
	return start
}

// P19.4: between two crossings each phase begins at most once; a phase that is wanted begins before any group is entered for a second time, within the ticks that bound.Free says. Of two phases that conflict, one is always Red.
func TestRounds(t *testing.T) {
	r := rand.New(rand.NewSource(194))
	served, crossings, again := 0, 0, 0
	for range 700 {
		d, often := newDrive(t, r), pick(r, 1, 5, 30, 200, 1000)
		if r.Intn(2) == 0 {
			d.put(r)
		}
		for range 1500 {
			crossing, group := d.r.Cross, d.r.Group
			start := d.tick(r, often)
			if start&d.begun != 0 {
				t.Fatalf("%v: %#x begin, %#x have begun", d.t.Groups, start, d.begun)
			}
			d.begun |= start
			if crossing && !d.r.Cross {
				d.begun = 0
				crossings++
				if d.r.Group == group {
					again++
				}
			}
			served += d.wait(t, crossing && !d.r.Cross)
			d.safe(t)
		}
	}
	if served < 10000 || crossings < 5000 || again < 500 {
		t.Errorf("drawn: %d served, %d crossings, %d into the same group", served, crossings, again)
	}
}

// wait counts for how long the phases that are called wait, and how many are served.
func (d *drive) wait(t *testing.T, entered bool) int {
	t.Helper()
	served := 0
	for _, p := range d.on {
		if !in(d.calls, p) || d.runs[p].Colour == 1 {
			if d.ticks[p] > 0 {
				served++
			}
			d.ticks[p], d.been[p] = 0, [4]int{}
			continue
		}
		d.ticks[p]++
		if entered {
			d.been[p][d.r.Group]++
		}
		if d.been[p][d.r.Group] > 1 {
			t.Fatalf("%v: phase %d is passed, group %d comes again", d.t.Groups, p, d.r.Group)
		}
		if d.ticks[p] > d.most[p] {
			t.Fatalf("%+v: phase %d waits for %d ticks", d.t, p, d.ticks[p])
		}
	}
	return served
}

func (d *drive) safe(t *testing.T) {
	t.Helper()
	for p := range d.runs {
		for q := range d.runs {
			if in(d.t.Conflict[p], q) && !wordedRed(d.runs[p]) && !wordedRed(d.runs[q]) {
				t.Fatalf("%v: neither %d nor %d is Red", d.t.Groups, p, q)
			}
		}
	}
}
