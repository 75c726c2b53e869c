package bound

import (
	"math"
	"math/big"
	"math/rand"
	"reflect"
	"slices"
	"testing"

	"crossbuck/api"
	"crossbuck/check"
	"crossbuck/set"
	"crossbuck/table"
)

type rows = [2][]int

const most = api.MaxTick

// junction is a well-formed table of three groups with two rails, in which no two numbers that a bound is made of may be taken for each other; phase 4 is not On.
func junction() api.Table {
	t := api.Table{Extend: 3, Budget: 1000, Start: 2000, Revert: 7, Least: 3000, Window: 7187, Share: 2}
	t.Groups = []rows{{{0, 1}, {5}}, {nil, {6}}, {{2, 3}, {7}}}
	t.Conflict = [8]int{
		0: set.Of(1, 2, 3, 6, 7), 1: set.Of(0, 2, 3, 6, 7), 5: set.Of(2, 3, 6, 7),
		6: set.Of(0, 1, 2, 3, 5, 7),
		2: set.Of(0, 1, 3, 5, 6), 3: set.Of(0, 1, 2, 5, 6), 7: set.Of(0, 1, 5, 6),
	}
	t.Phases = [8]api.Phase{
		0: {On: true, Gap: 500, Min: 10, Max: 20, Top: 40, Step: 9000, Yellow: 11, Red: 1},
		1: {On: true, Gap: 500, Min: 50, Max: 50, Top: 50, Step: 9000, Yellow: 12, Red: 2, Walk: 30, Blinks: 31},
		2: {On: true, Gap: 500, Min: 80, Max: 80, Top: 80, Step: 9000, Yellow: 13, Red: 0, Walk: 20, Blinks: 21},
		3: {On: true, Gap: 500, Min: 5, Max: 6, Top: 100, Step: 9000, Yellow: 10, Red: 20},
		4: {Min: 4000, Gap: 4000, Max: 4000, Top: 4000, Step: 4000, Yellow: 4000, Red: 4000, Walk: 4000, Blinks: 4000},
		5: {On: true, Gap: 500, Min: 1, Max: 1, Top: 1, Step: 9000, Yellow: 10, Red: 0},
		6: {On: true, Gap: 500, Min: 30, Max: 40, Top: 50, Step: 9000, Yellow: 20, Red: 5, Walk: 99, Blinks: 101},
		7: {On: true, Gap: 500, Min: 300, Max: 301, Top: 302, Step: 9000, Yellow: 15, Red: 16},
	}
	t.Flash = [8]int{0: 1, 1: 1, 2: 1, 3: 1, 5: 1, 6: 1, 7: 1}
	t.Rails = []api.Rail{
		{Bars: set.Of(6), Clear: set.Of(3, 7), Dwell: set.Of(0, 5), Exit: set.Of(2, 7), Delay: 4, Hold: 6, Green: 9, Foot: 11, Stay: 13, Most: 5000, Limit: 6000},
		{Dwell: set.Of(6), Exit: set.Of(0), Green: 1, Stay: 100, Limit: 6000},
	}
	t.Buses = []api.Bus{{Set: set.Of(0, 5), Lock: 600}}
	return t
}

// The bounds of junction, by hand. C is 31; the longest Min or walk lasts for 300 ticks.
var (
	serves  = [8]int{40 + 12 + 18, 61 + 14 + 18, 80 + 13 + 18, 100 + 30 + 18, 0, 1 + 10 + 18, 200 + 25 + 18, 302 + 31 + 18}
	passes  = [3]int{8 + 70 + 93 + 29, 8 + 243, 8 + 111 + 148 + 351}
	frees   = [8]int{1269, 1269, 1687, 1687, 0, 1269, 1320, 1687}
	entries = [2]int{4 + 6 + 2*9 + 3*11 + 5*31 + 3*7 + 60, 2*1 + 5*31 + 3*7 + 60}
	waits   = [8]int{3*1977 + 2, 3*1977 + 2, 3*2395 + 2, 3*2395 + 2, 0, 3*1977 + 2, 3*2028 + 2, 3*2395 + 2}
)

const over = 338 + 300 + 31 + 7 + 30

// one is a well-formed table of one phase and one rail, for which Wait is (Share + 1) times (3 * long + stay + 207), minus 1.
func one(p, long, stay int) api.Table {
	t := api.Table{Groups: []rows{{{p}, nil}}, Window: most}
	t.Phases[p] = api.Phase{On: true, Min: long, Max: long, Top: long, Yellow: 10}
	t.Flash[p] = api.FlashYellow
	t.Rails = []api.Rail{{Dwell: set.Of(p), Exit: set.Of(p), Green: 1, Stay: stay, Limit: 1}}
	return t
}

// great is a well-formed table in which all times are as great as they may be.
func great() api.Table {
	const top = api.MaxTime
	t := junction()
	for p := range t.Phases {
		t.Phases[p] = api.Phase{On: p != 4, Min: top, Gap: top, Max: top, Top: top, Step: top, Yellow: top, Red: top, Walk: top, Blinks: top}
	}
	for k := range t.Rails {
		t.Rails[k] = api.Rail{Clear: set.Of(0, 5), Dwell: set.Of(0, 5), Exit: set.Of(0, 5), Delay: top, Green: top, Foot: top, Hold: top, Stay: top, Most: top, Limit: most}
	}
	t.Extend, t.Budget, t.Start, t.Revert, t.Least, t.Window, t.Share = top, top, top, top, top, most, 0
	return t
}

func none() api.Fault { return api.Fault{} }

func at(code api.Errno, n int) api.Fault { return api.Fault{Code: code, At: n} }

func want(t *testing.T, what any, got, want int) {
	t.Helper()
	if got != want {
		t.Errorf("%v: %d, want %d", what, got, want)
	}
}

func wantAll(t *testing.T, what any, x api.Table, b api.Bounds, f api.Fault) {
	t.Helper()
	gotB, gotF := All(x)
	if gotF != f {
		t.Errorf("%v: All = {%d, %d}, want {%d, %d}", what, gotF.Code, gotF.At, f.Code, f.At)
	}
	if gotB != b {
		t.Errorf("%v: All = %v, want %v", what, gotB, b)
	}
}

func refused(t *testing.T, what any, x api.Table, f api.Fault) {
	t.Helper()
	wantAll(t, what, x, api.Bounds{}, f)
}

// P10.1: all bounds of a table by hand.
func TestJunction(t *testing.T) {
	x := junction()
	for p := range api.Phases {
		want(t, []any{"Serve", p}, Serve(x, p), serves[p])
		want(t, []any{"Free", p}, Free(x, p), frees[p])
		want(t, []any{"Wait", p}, Wait(x, p), waits[p])
	}
	for g, n := range passes {
		want(t, []any{"Pass", g}, Pass(x, g), n)
	}
	for k, n := range entries {
		want(t, []any{"Entry", k}, Entry(x, k), n)
	}
	want(t, "Over", Over(x), over)
	wantAll(t, "junction", x, api.Bounds{Wait: waits, Entry: [4]int{297, 238}}, none())
}

// outside are numbers that are no phase; behind the last ones there is no group and no rail either.
var outside = []int{math.MinInt, math.MinInt + 1, -1 << 32, -8, -2, -1, 8, 9, 63, 64, 255, 1 << 32, math.MaxInt - 1, math.MaxInt}

// P10.1: numbers that are not of the table.
func TestOutside(t *testing.T) {
	x := junction()
	for _, n := range outside {
		want(t, []any{"Serve", n}, Serve(x, n), 0)
		want(t, []any{"Pass", n}, Pass(x, n), 0)
		want(t, []any{"Free", n}, Free(x, n), 0)
		want(t, []any{"Entry", n}, Entry(x, n), 0)
		want(t, []any{"Wait", n}, Wait(x, n), 0)
	}
	for n := 3; n < 8; n++ {
		want(t, []any{"Pass", n}, Pass(x, n), 0)
		want(t, []any{"Entry", n}, Entry(x, n), 0)
	}
	want(t, "Entry 2", Entry(x, 2), 0)
}

// P10.1: the zero Table has no group, no rail and no phase that is On.
func TestZero(t *testing.T) {
	var x api.Table
	for n := -1; n <= api.Phases; n++ {
		for i, got := range []int{Serve(x, n), Pass(x, n), Free(x, n), Entry(x, n), Wait(x, n), Over(x)} {
			want(t, []any{n, i}, got, 0)
		}
	}
}

// P10.1: the example of the chapter.
func TestServeExample(t *testing.T) {
	for p := range api.Phases {
		var x api.Table
		x.Phases[p] = api.Phase{On: true, Min: 5, Top: 20, Yellow: 10, Red: 2}
		for q := range api.Phases {
			n := 0
			if q == p {
				n = 40
			}
			want(t, []any{"Serve", p, q}, Serve(x, q), n)
		}
	}
}

// P10.1: each number of a phase and of the table, by itself, in Serve; ones that it is not made of, and ones that are below 0 or above MaxTick.
func TestServe(t *testing.T) {
	for i, c := range []struct {
		phase          api.Phase
		extend, revert int
		want           int
	}{
		{api.Phase{}, 0, 0, 8},
		{api.Phase{Min: 100}, 0, 0, 108},
		{api.Phase{Top: 100}, 0, 0, 108},
		{api.Phase{Walk: 100}, 0, 0, 108},
		{api.Phase{Blinks: 100}, 0, 0, 108},
		{api.Phase{Yellow: 100}, 0, 0, 108},
		{api.Phase{Red: 100}, 0, 0, 108},
		{api.Phase{}, 100, 0, 108},
		{api.Phase{}, 0, 100, 108},
		{api.Phase{Gap: 100, Max: 100, Step: 100, Recall: 3, Lock: true, Rest: true}, 0, 0, 8},
		{api.Phase{Min: 100, Top: 99, Walk: 49, Blinks: 50}, 0, 0, 108},
		{api.Phase{Min: 99, Top: 100, Walk: 49, Blinks: 50}, 0, 0, 108},
		{api.Phase{Min: 98, Top: 99, Walk: 49, Blinks: 51}, 0, 0, 108},
		{api.Phase{Min: 100, Top: 100, Walk: 50, Blinks: 50}, 0, 0, 108},
		{api.Phase{Min: 1, Top: 2, Walk: 4, Blinks: 8, Yellow: 16, Red: 32}, 64, 128, 260},
		{api.Phase{Min: 9999, Top: 9999, Walk: 9999, Blinks: 9999, Yellow: 9999, Red: 9999}, 9999, 9999, 6*9999 + 8},
		{api.Phase{Min: -100}, 0, 0, 8},
		{api.Phase{Top: -100}, 0, 0, 8},
		{api.Phase{Min: -1, Top: -1, Walk: -1, Blinks: -1, Yellow: -1, Red: -1}, -1, -1, 8},
		{api.Phase{Walk: -100, Blinks: 30}, 0, 0, 38},
		{api.Phase{Walk: 30, Blinks: -100}, 0, 0, 38},
		{api.Phase{Top: 30, Yellow: -100}, 0, 0, 38},
		{api.Phase{Top: 30, Red: -100}, 0, 0, 38},
		{api.Phase{Top: 30}, -100, 0, 38},
		{api.Phase{Top: 30}, 0, -100, 38},
		{api.Phase{Top: most - 9}, 0, 0, most - 1},
		{api.Phase{Top: most - 8}, 0, 0, most},
		{api.Phase{Top: most - 7}, 0, 0, most},
		{api.Phase{Min: math.MaxInt}, 0, 0, most},
		{api.Phase{Top: math.MaxInt}, 0, 0, most},
		{api.Phase{Walk: math.MaxInt, Blinks: math.MaxInt}, 0, 0, most},
		{api.Phase{Walk: math.MaxInt, Blinks: 1}, 0, 0, most},
		{api.Phase{Walk: most - 5, Blinks: -most, Yellow: 1}, -most, 0, most},
		{api.Phase{Walk: most - 10, Blinks: -most, Yellow: 1}, -most, 0, most - 1},
		{api.Phase{Yellow: math.MaxInt, Red: math.MinInt}, math.MinInt, math.MinInt, most},
		{api.Phase{Min: math.MinInt, Top: math.MinInt, Walk: math.MinInt, Blinks: math.MinInt, Yellow: math.MinInt, Red: math.MinInt}, math.MinInt, math.MinInt, 8},
		{api.Phase{}, math.MaxInt, math.MaxInt, most},
	} {
		for p := range api.Phases {
			x := api.Table{Extend: c.extend, Revert: c.revert, Budget: 7777, Start: 7777, Least: 7777, Window: 7777, Share: 7777}
			x.Phases[p] = c.phase
			want(t, []any{i, p, "not On"}, Serve(x, p), 0)
			x.Phases[p].On = true
			want(t, []any{i, p}, Serve(x, p), c.want)
		}
	}
}

// P10.1: Pass has a term for each position, whatever is there; the rows of other groups do not count.
func TestPass(t *testing.T) {
	for i, c := range []struct {
		group rows
		want  int
	}{
		{rows{}, 8},
		{rows{{}, {}}, 8},
		{rows{{0}, nil}, 78},
		{rows{nil, {0}}, 78},
		{rows{{1}, {7}}, 8 + 93 + 351},
		{rows{{7, 6, 5, 3, 2, 1, 0}, nil}, 8 + 70 + 93 + 111 + 148 + 29 + 243 + 351},
		{rows{{4}, nil}, 8},
		{rows{{0, 4}, {4, 5}}, 8 + 70 + 29},
		{rows{{0, 0}, nil}, 8 + 70 + 70},
		{rows{{0, 0, 1}, {1, 0}}, 8 + 3*70 + 2*93},
		{rows{{-1, 0, 8}, {64, 5, math.MinInt, math.MaxInt}}, 8 + 70 + 29},
		{rows{slices.Repeat([]int{0}, 1000), slices.Repeat([]int{1}, 1000)}, 8 + 70000 + 93000},
	} {
		for _, x := range [][]rows{{c.group}, {c.group, {{0, 1}, {5}}}, {c.group, {}}} {
			y := junction()
			y.Groups = x
			want(t, i, Pass(y, 0), c.want)
			slices.Reverse(x)
			want(t, i, Pass(y, len(x)-1), c.want)
		}
	}
	x := junction()
	x.Groups = make([]rows, 100)
	x.Groups[99][1] = []int{7}
	want(t, "group 99", Pass(x, 99), 359)
	want(t, "group 98", Pass(x, 98), 8)
	want(t, "group 100", Pass(x, 100), 0)
}

// P10.1: Pass is limited to MaxTick, and reaches it by one.
func TestPassLimit(t *testing.T) {
	x := junction()
	x.Groups = []rows{{{0, 5, 0}, {0}}}
	x.Phases[5].Top = most - 3*70 - 28 - 8 - 1
	want(t, "one less", Pass(x, 0), most-1)
	x.Phases[5].Top++
	want(t, "just", Pass(x, 0), most)
	x.Phases[5].Top++
	want(t, "one more", Pass(x, 0), most)
	x.Phases[0].Top = math.MaxInt
	want(t, "much more", Pass(x, 0), most)
}

// P10.1: Free has all groups, and the group of the phase's first position once more.
func TestFree(t *testing.T) {
	for i, c := range []struct {
		groups []rows
		want   int
	}{
		{nil, 0},
		{[]rows{}, 0},
		{[]rows{{}}, 0},
		{[]rows{{{0, 1}, {5}}}, 0},
		{[]rows{{{3}, nil}}, 2 * 156},
		{[]rows{{nil, {3}}}, 2 * 156},
		{[]rows{{nil, {3}}, {}}, 2*156 + 8},
		{[]rows{{}, {}, {{0, 3}, nil}}, 2*226 + 16},
		{[]rows{{{0}, nil}, {{3}, nil}}, 78 + 2*156},
		{[]rows{{{3}, nil}, {{0}, nil}}, 78 + 2*156},
		{[]rows{{{3, 0}, nil}, {{3}, nil}}, 2*226 + 156},
		{[]rows{{nil, {0, 3}}, {{3}, nil}, {{3, 1}, nil}}, 2*226 + 156 + 249},
		{[]rows{{{3}, nil}, {{3, 0}, nil}}, 2*156 + 226},
		{[]rows{{{0}, nil}, {{1}, {3}}, {{3}, {3}}}, 78 + 2*249 + 304},
		{[]rows{{{3, 3}, {3}}}, 2 * (8 + 3*148)},
		{[]rows{{{4, -1, 8}, nil}, {{3}, {4}}}, 8 + 2*156},
		{[]rows{{{11, -5, 3 + 1<<32, -253}, nil}}, 0},
	} {
		x := junction()
		x.Groups = c.groups
		want(t, i, Free(x, 3), c.want)
		x.Rails = nil
		want(t, i, Free(x, 3), c.want)
		want(t, i, Wait(x, 3), c.want)
		x.Phases[3].On = false
		want(t, i, Free(x, 3), 0)
	}
}

// P10.1: a phase that is not On waits for nothing, though it is in a group; so does one that is On and in none.
func TestFreeNone(t *testing.T) {
	for p := range api.Phases {
		x := junction()
		x.Groups[1][0] = []int{4}
		x.Phases[4].On = true
		if Free(x, p) <= 0 || Wait(x, p) <= 0 {
			t.Errorf("phase %d waits %d and %d", p, Free(x, p), Wait(x, p))
		}
		y := table.Clone(x)
		y.Phases[p].On = false
		want(t, []any{"not On", p}, Free(y, p), 0)
		want(t, []any{"not On", p}, Wait(y, p), 0)
		y = table.Clone(x)
		for _, g := range y.Groups {
			for _, row := range g {
				if i := slices.Index(row, p); i >= 0 {
					row[i] = -1
				}
			}
		}
		want(t, []any{"nowhere", p}, Free(y, p), 0)
		want(t, []any{"nowhere", p}, Wait(y, p), 0)
	}
}

// P10.1: Free is limited to MaxTick, and reaches it by one.
func TestFreeLimit(t *testing.T) {
	x := junction()
	x.Groups = []rows{{{0}, nil}, {nil, {5}}}
	x.Phases[5].Top = most - 2*78 - 28 - 8 - 1
	want(t, "one less", Free(x, 0), most-1)
	want(t, "twice", Free(x, 5), most)
	x.Phases[5].Top++
	want(t, "just", Free(x, 0), most)
	x.Phases[5].Top++
	want(t, "one more", Free(x, 0), most)
	x.Phases[0].Top = math.MaxInt
	want(t, "much more", Free(x, 0), most)
}

// P10.1: each number of a rail and of the table, by itself, in Entry; ones that it is not made of, and ones that are below 0 or above MaxTick.
func TestEntry(t *testing.T) {
	for i, c := range []struct {
		rail        api.Rail
		yellow, red int
		revert      int
		want        int
	}{
		{api.Rail{}, 0, 0, 0, 60},
		{api.Rail{Delay: 100}, 0, 0, 0, 160},
		{api.Rail{Hold: 100}, 0, 0, 0, 160},
		{api.Rail{Green: 100}, 0, 0, 0, 260},
		{api.Rail{Foot: 100}, 0, 0, 0, 360},
		{api.Rail{}, 100, 0, 0, 560},
		{api.Rail{}, 0, 100, 0, 560},
		{api.Rail{}, 0, 0, 100, 360},
		{api.Rail{Bars: 255, Clear: 255, Dwell: 255, Exit: 255, Stay: 100, Most: 100, Limit: 100}, 0, 0, 0, 60},
		{api.Rail{Delay: 1, Hold: 10, Green: 100, Foot: 1000}, 10000, 20000, 100000, 60 + 1 + 10 + 200 + 3000 + 150000 + 300000},
		{api.Rail{Delay: -1, Hold: -1, Green: -1, Foot: -1}, -1, -1, -1, 60},
		{api.Rail{Delay: -100, Hold: 1}, 0, 0, 0, 61},
		{api.Rail{Delay: 1, Hold: -100}, 0, 0, 0, 61},
		{api.Rail{Delay: 1, Green: -100}, 0, 0, 0, 61},
		{api.Rail{Delay: 1, Foot: -100}, 0, 0, 0, 61},
		{api.Rail{Delay: 1}, -100, 2, 0, 71},
		{api.Rail{Delay: 1}, 2, -100, 0, 71},
		{api.Rail{Delay: 1}, 0, 0, -100, 61},
		{api.Rail{Delay: most - 61}, 0, 0, 0, most - 1},
		{api.Rail{Delay: most - 60}, 0, 0, 0, most},
		{api.Rail{Delay: most - 59}, 0, 0, 0, most},
		{api.Rail{Hold: most - 61}, 0, 0, 0, most - 1},
		{api.Rail{Green: most/2 - 30}, 0, 0, 0, most - 1},
		{api.Rail{Green: most/2 - 29}, 0, 0, 0, most},
		{api.Rail{Foot: most/3 - 20}, 0, 0, 0, most - 1},
		{api.Rail{Foot: most/3 - 19}, 0, 0, 0, most},
		{api.Rail{}, most/5 - 12, 0, 0, most - 2},
		{api.Rail{}, most/5 - 12, 1, 0, most},
		{api.Rail{}, 0, 0, most/3 - 20, most - 1},
		{api.Rail{}, 0, 0, most/3 - 19, most},
		{api.Rail{Delay: math.MaxInt, Hold: math.MaxInt, Green: math.MaxInt, Foot: math.MaxInt}, math.MaxInt, math.MaxInt, math.MaxInt, most},
		{api.Rail{Delay: math.MinInt, Hold: math.MinInt, Green: math.MinInt, Foot: math.MinInt}, math.MinInt, math.MinInt, math.MinInt, 60},
		{api.Rail{Green: 1 << 62}, 0, 0, 0, most},
		{api.Rail{Green: 1 << 62, Delay: math.MinInt}, math.MinInt, math.MinInt, math.MinInt, most},
	} {
		for n := range 6 {
			for k := range n {
				x := api.Table{Extend: 7777, Budget: 7777, Revert: c.revert, Start: 7777, Least: 7777, Window: 7777, Share: 7777, Rails: make([]api.Rail, n)}
				x.Phases[k] = api.Phase{On: true, Min: 7777, Top: 7777, Walk: 7777, Blinks: 7777, Yellow: c.yellow, Red: c.red}
				x.Rails[k] = c.rail
				want(t, []any{i, n, k}, Entry(x, k), c.want)
			}
		}
	}
}

// P10.1: C is the greatest sum of a single phase, of those that are On; it has the weight 5 in Entry.
func TestClearance(t *testing.T) {
	c := func(x api.Table) int { return (Entry(x, 0) - 60) / 5 }
	x := api.Table{Rails: make([]api.Rail, 1)}
	want(t, "no phase", c(x), 0)
	for p := range x.Phases {
		x.Phases[p] = api.Phase{Yellow: 100 - p, Red: 10 * p}
	}
	want(t, "none On", c(x), 0)
	want(t, "none On", Over(x), 90)
	for p := range x.Phases {
		x.Phases[p].On = true
		want(t, []any{"the first ones On", p}, c(x), 100+9*p)
		y := x
		y.Phases[0].Yellow = 200
		want(t, []any{"phase 0", p}, c(y), 200)
	}
	for p := range x.Phases {
		x.Phases[p].On = false
		if p < 7 {
			want(t, []any{"the last ones On", p}, c(x), 163)
		}
	}
	want(t, "none On again", c(x), 0)
	x.Phases[3] = api.Phase{On: true, Yellow: -9, Red: -9}
	want(t, "below 0", c(x), 0)
	x.Phases[4] = api.Phase{On: true, Yellow: math.MaxInt, Red: math.MaxInt}
	want(t, "above MaxTick", Entry(x, 0), most)
}

// P10.1: Over has the greatest sum of Entry and Stay of one rail, not the sum of the greatest ones.
func TestOverRails(t *testing.T) {
	for i, c := range []struct {
		rails []api.Rail
		want  int
	}{
		{nil, 0},
		{[]api.Rail{}, 0},
		{[]api.Rail{{}}, 90},
		{[]api.Rail{{Stay: 100}}, 190},
		{[]api.Rail{{Delay: 100}}, 190},
		{[]api.Rail{{Stay: 100}, {Delay: 100}}, 190},
		{[]api.Rail{{Stay: 100}, {Delay: 101}}, 191},
		{[]api.Rail{{Stay: 101}, {Delay: 100}}, 191},
		{[]api.Rail{{}, {}, {Delay: 5, Stay: 6}, {Stay: 10}}, 101},
		{[]api.Rail{{}, {}, {Delay: 5, Stay: 6}, {Stay: 12}}, 102},
		{[]api.Rail{{}, {}, {}, {}, {}, {Stay: 7}}, 97},
		{[]api.Rail{{Stay: -7}}, 90},
		{[]api.Rail{{Stay: -7, Delay: 7}}, 97},
		{[]api.Rail{{Stay: math.MinInt}}, 90},
		{[]api.Rail{{Stay: most - 91}}, most - 1},
		{[]api.Rail{{Stay: most - 90}}, most},
		{[]api.Rail{{Stay: most - 89}}, most},
		{[]api.Rail{{Stay: math.MaxInt}}, most},
		{[]api.Rail{{Stay: math.MaxInt, Delay: math.MaxInt}}, most},
	} {
		x := api.Table{Extend: 7777, Budget: 7777, Start: 7777, Least: 7777, Window: 7777, Share: 7777, Rails: c.rails}
		want(t, i, Over(x), c.want)
	}
}

// P10.1: the other terms of Over, by themselves: Revert and C count in Entry, too.
func TestOverPhases(t *testing.T) {
	for i, c := range []struct {
		p, q   api.Phase
		revert int
		want   int
	}{
		{api.Phase{}, api.Phase{}, 0, 90},
		{api.Phase{}, api.Phase{}, 100, 490},
		{api.Phase{Yellow: 100}, api.Phase{}, 0, 690},
		{api.Phase{Red: 100}, api.Phase{}, 0, 690},
		{api.Phase{Red: 100}, api.Phase{Yellow: 100}, 0, 690},
		{api.Phase{Min: 100}, api.Phase{}, 0, 190},
		{api.Phase{Walk: 100}, api.Phase{}, 0, 190},
		{api.Phase{Blinks: 100}, api.Phase{}, 0, 190},
		{api.Phase{Gap: 100, Max: 100, Top: 100, Step: 100, Recall: 3, Lock: true, Rest: true}, api.Phase{}, 0, 90},
		{api.Phase{Walk: 30, Blinks: 40}, api.Phase{}, 0, 160},
		{api.Phase{Walk: 30, Blinks: 40, Min: 69}, api.Phase{}, 0, 160},
		{api.Phase{Walk: 30, Blinks: 40, Min: 71}, api.Phase{}, 0, 161},
		{api.Phase{Walk: 30, Blinks: 40}, api.Phase{Min: 69}, 0, 160},
		{api.Phase{Walk: 30, Blinks: 40}, api.Phase{Min: 71}, 0, 161},
		{api.Phase{Walk: 30, Blinks: 40}, api.Phase{Walk: 40, Blinks: 20}, 0, 160},
		{api.Phase{Walk: 30, Blinks: 40}, api.Phase{Walk: 20, Blinks: 51}, 0, 161},
		{api.Phase{Walk: 30, Blinks: 20}, api.Phase{Walk: 20, Blinks: 30}, 0, 140},
		{api.Phase{Min: -5, Walk: -5, Blinks: -5, Yellow: -5, Red: -5}, api.Phase{Min: -9}, -5, 90},
		{api.Phase{Walk: -5, Blinks: 7}, api.Phase{Walk: 6, Blinks: -9}, 0, 97},
		{api.Phase{Min: most - 91}, api.Phase{}, 0, most - 1},
		{api.Phase{Min: most - 90}, api.Phase{}, 0, most},
		{api.Phase{Walk: most - 91, Blinks: math.MinInt}, api.Phase{}, math.MinInt, most - 1},
		{api.Phase{Walk: most, Blinks: most}, api.Phase{Min: math.MaxInt}, 0, most},
		{api.Phase{}, api.Phase{}, math.MaxInt, most},
	} {
		for p := range api.Phases {
			for q := range api.Phases {
				if p == q {
					continue
				}
				x := api.Table{Extend: 7777, Revert: c.revert, Rails: make([]api.Rail, 1)}
				x.Phases[p], x.Phases[q] = c.p, c.q
				x.Phases[p].On, x.Phases[q].On = true, true
				want(t, []any{i, p, q}, Over(x), c.want)
				x.Rails = nil
				want(t, []any{i, p, q, "no rails"}, Over(x), 0)
			}
		}
	}
}

// P10.1: phases that are not On do not count in Over.
func TestOverNotOn(t *testing.T) {
	x := junction()
	for p := range x.Phases {
		x.Phases[p].On = false
	}
	want(t, "none On", Over(x), 100+2+3*7+60+7+30)
	x.Phases[7].On = true
	want(t, "one On", Over(x), over)
}

// P10.1: Wait with rails: whole round trips, one for each active tick of Share and one more.
func TestWait(t *testing.T) {
	for _, c := range []struct{ share, want int }{
		{0, 2395},
		{1, 2*2395 + 1},
		{2, 3*2395 + 2},
		{100, 101*2395 + 100},
		{-1, 2395},
		{math.MinInt, 2395},
		{896276, 896277*2395 + 896276},
		{896277, 896278*2395 + 896277},
		{896278, most},
		{896279, most},
		{most - 1, most},
		{most, most},
		{math.MaxInt, most},
	} {
		x := junction()
		x.Share, x.Window = c.share, -1
		for _, p := range []int{2, 3, 7} {
			want(t, []any{c.share, p}, Wait(x, p), c.want)
		}
		want(t, []any{c.share, 4}, Wait(x, 4), 0)
		x.Rails = []api.Rail{}
		for p, n := range frees {
			want(t, []any{c.share, p, "no rails"}, Wait(x, p), n)
		}
	}
}

// P10.1: a sum of Over and Free above MaxTick, without and with a Share.
func TestWaitLimit(t *testing.T) {
	x := one(5, 2, 0)
	x.Rails[0].Stay = most - 207 - 3*2
	want(t, "one less", Wait(x, 5), most-1)
	x.Share = 1
	want(t, "twice", Wait(x, 5), most)
	x.Share = 0
	x.Rails[0].Stay++
	want(t, "just", Wait(x, 5), most)
	x.Rails[0].Stay++
	want(t, "one more", Wait(x, 5), most)
	x.Rails[0].Stay = math.MaxInt
	want(t, "much more", Wait(x, 5), most)
}

// P10.2: the Fault of check.Check comes first, one for each of its numbers.
func TestAllCheck(t *testing.T) {
	for i, c := range []struct {
		turn func(x *api.Table)
		want api.Fault
	}{
		{func(x *api.Table) { x.Extend = -1 }, at(api.ErrRange, 0)},
		{func(x *api.Table) { x.Share = most + 1 }, at(api.ErrRange, 0)},
		{func(x *api.Table) { x.Share = -1 }, at(api.ErrRange, 0)},
		{func(x *api.Table) { x.Window = -1 }, at(api.ErrRange, 0)},
		{func(x *api.Table) { x.Rails = make([]api.Rail, 5) }, at(api.ErrRange, 0)},
		{func(x *api.Table) { x.Rails = make([]api.Rail, 500) }, at(api.ErrRange, 0)},
		{func(x *api.Table) { x.Phases[6].Min = 0 }, at(api.ErrPhase, 6)},
		{func(x *api.Table) { x.Groups = nil }, at(api.ErrRing, 0)},
		{func(x *api.Table) { x.Groups[2][1] = []int{4} }, at(api.ErrRing, 2)},
		{func(x *api.Table) { x.Conflict[3] = 0 }, at(api.ErrConflict, 0)},
		{func(x *api.Table) { x.Detectors = []api.Detector{{Phase: 0, On: 1, Off: 1}, {Phase: 4, On: 1, Off: 1}} }, at(api.ErrDetector, 1)},
		{func(x *api.Table) { x.Rails[1].Green = 0 }, at(api.ErrRail, 1)},
		{func(x *api.Table) { x.Buses[0].Lock = 0 }, at(api.ErrBus, 0)},
		{func(x *api.Table) { x.Flash[7] = api.Dark }, at(api.ErrFlash, 7)},
	} {
		x := junction()
		c.turn(&x)
		refused(t, i, x, c.want)
		x = junction()
		x.Share, x.Window = most, 0
		c.turn(&x)
		refused(t, i, x, c.want)
	}
	refused(t, "zero", api.Table{}, at(api.ErrRing, 0))
}

// P10.2: {ErrBound, p}, from the first Share for which a Wait is Full, for groups in several orders; with one less, the table is accepted.
func TestAllBound(t *testing.T) {
	b := api.Bounds{Entry: [4]int{297, 238}}
	for p, n := range frees {
		if n > 0 {
			b.Wait[p] = 896278*(over+n+2) + 896277
		}
	}
	for _, order := range [][3]int{{0, 1, 2}, {2, 1, 0}, {1, 2, 0}} {
		x := junction()
		g := x.Groups
		x.Groups = []rows{g[order[0]], g[order[1]], g[order[2]]}
		x.Window, x.Share = most, 896277
		wantAll(t, order, x, b, none())
		for _, x.Share = range []int{896278, 896279, 1 << 20} {
			refused(t, order, x, at(api.ErrBound, 2))
		}
	}
}

// P10.2: the smallest phase, not the one with the greatest Wait; phases that are not On are passed over.
func TestAllBoundSmallest(t *testing.T) {
	for _, c := range []struct{ share, p int }{
		{896278, 2}, {1058395, 2}, {1085683, 2}, {1085684, 0}, {most, 0},
	} {
		x := junction()
		x.Share = c.share
		refused(t, c.share, x, at(api.ErrBound, c.p))
		x.Window = most
		refused(t, c.share, x, at(api.ErrBound, c.p))
	}
	for p := range api.Phases {
		x := one(p, 2000, 1985)
		x.Share = most
		refused(t, p, x, at(api.ErrBound, p))
	}
}

// P10.2: a Wait of just MaxTick is Full; the next ones below it (MaxTick - 1 is never a Wait) are not.
func TestAllFull(t *testing.T) {
	for p := range api.Phases {
		x := one(p, 2000, 1985)
		x.Share = 1<<18 - 1
		want(t, p, Wait(x, p), most)
		refused(t, p, x, at(api.ErrBound, p))
		x = one(p, 1000, 1474)
		x.Share = 458765
		b := api.Bounds{Entry: [4]int{112}}
		b.Wait[p] = most - 2
		for _, window := range []int{most, most - 1, most - 2} {
			x.Window = window
			wantAll(t, []any{p, window}, x, b, none())
		}
		x.Window = most - 3
		refused(t, p, x, at(api.ErrWindow, 0))
		x.Window, x.Rails[0].Stay = most, 1475
		refused(t, p, x, at(api.ErrBound, p))
	}
}

// P10.2: {ErrBound, k} for a rail comes behind those of phases and ahead of ErrWindow. No well-formed table has an Entry that is Full, so the bounds are given.
func TestFaultOfEntry(t *testing.T) {
	for k := range api.MaxRails {
		x := junction()
		x.Rails = make([]api.Rail, api.MaxRails)
		b := api.Bounds{Wait: waits}
		b.Entry[k] = most - 1
		if f := fault(x, b); f != none() {
			t.Errorf("rail %d: {%d, %d}", k, f.Code, f.At)
		}
		b.Entry[k], b.Entry[3] = most, most
		for _, x.Window = range []int{0, most} {
			if f := fault(x, b); f != at(api.ErrBound, k) {
				t.Errorf("rail %d: {%d, %d}", k, f.Code, f.At)
			}
		}
		b.Wait[6] = most
		if f := fault(x, b); f != at(api.ErrBound, 6) {
			t.Errorf("rail %d and phase 6: {%d, %d}", k, f.Code, f.At)
		}
	}
}

// P10.2: Window is held against the greatest Wait, whose phase may be any, and only if there are rails.
func TestAllWindow(t *testing.T) {
	b := api.Bounds{Wait: waits, Entry: [4]int{297, 238}}
	for _, window := range []int{7187, 7188, 8000, most} {
		x := junction()
		x.Window = window
		wantAll(t, window, x, b, none())
	}
	for _, window := range []int{7186, 7185, 6086, 6085, 5933, 5932, 2, 1, 0} {
		x := junction()
		x.Window = window
		refused(t, window, x, at(api.ErrWindow, 0))
		x.Rails = nil
		wantAll(t, window, x, api.Bounds{Wait: frees}, none())
		x.Rails = []api.Rail{}
		wantAll(t, window, x, api.Bounds{Wait: frees}, none())
	}
	for p := range api.Phases {
		x := one(p, 1, 1)
		x.Window = 210
		b := api.Bounds{Entry: [4]int{112}}
		b.Wait[p] = 210
		wantAll(t, p, x, b, none())
		x.Window--
		refused(t, p, x, at(api.ErrWindow, 0))
	}
}

// P10.2: without rails, Share and Window may have any value that table.May permits.
func TestAllNoRails(t *testing.T) {
	for _, n := range []int{0, 1, most - 1, most} {
		x := junction()
		x.Rails, x.Share, x.Window = nil, n, 0
		wantAll(t, n, x, api.Bounds{Wait: frees}, none())
		x.Share, x.Window = 0, n
		wantAll(t, n, x, api.Bounds{Wait: frees}, none())
	}
}

// P10.2: an Entry for each rail of the table, and for each place without one 0.
func TestAllEntries(t *testing.T) {
	for n := range api.MaxRails + 1 {
		x := junction()
		rail := x.Rails[1]
		x.Rails, x.Window = nil, most
		var entry [4]int
		for k := range n {
			rail.Delay = 10 * (4 - k)
			x.Rails = append(x.Rails, rail)
			entry[k] = 238 + 10*(4-k)
		}
		b, f := All(x)
		if f != none() || b.Entry != entry {
			t.Errorf("%d rails: %v and {%d, %d}, want %v", n, b.Entry, f.Code, f.At, entry)
		}
	}
}

// P10.2, T6: the table of the greatest times is accepted as long as Share is small.
func TestAllGreat(t *testing.T) {
	const top = api.MaxTime
	serve := 2*top + 2*top + 2*top + 8
	free := [3]int{8 + 3*serve, 8 + serve, 8 + 3*serve}
	entry := top*(1+1+2+3+10+3) + 60
	over := entry + top + 2*top + 2*top + top + 30
	b := api.Bounds{Entry: [4]int{entry, entry}}
	for p, g := range map[int]int{0: 0, 1: 0, 5: 0, 6: 1, 2: 2, 3: 2, 7: 2} {
		b.Wait[p] = over + free[0] + free[1] + free[2] + free[g] + 2
	}
	wantAll(t, "great", great(), b, none())
}

// P10.2, T6: the table Sample of chapter 28 is accepted.
func TestAllSample(t *testing.T) {
	x := api.Table{Extend: 100, Budget: 200, Start: 60, Revert: 20, Least: 100, Window: 8640000, Share: 600}
	x.Groups = []rows{{{0, 1}, {4, 5}}, {{2, 3}, {6, 7}}}
	x.Conflict = [8]int{0xCE, 0xCD, 0x3B, 0x37, 0xEC, 0xDC, 0xB3, 0x73}
	for p := range x.Phases {
		x.Phases[p] = api.Phase{On: true, Min: 50, Gap: 20, Max: 200, Top: 300, Step: 50, Yellow: 35, Red: 10, Lock: true}
		x.Flash[p] = api.FlashRed
		x.Detectors = append(x.Detectors, api.Detector{Phase: p, On: 10, Off: 5, Extend: 0.5, MaxOn: 6000})
		if p%2 == 1 {
			x.Phases[p].Walk, x.Phases[p].Blinks = 70, 80
		}
	}
	for _, p := range []int{1, 5} {
		x.Phases[p].Recall, x.Flash[p] = api.MinRecall, api.FlashYellow
	}
	x.Rails = []api.Rail{{Bars: 0xCC, Clear: 0x88, Dwell: 0x22, Exit: 0x44, Delay: 5, Green: 20, Foot: 30, Hold: 100, Stay: 100, Most: 3000, Limit: 4000}}
	x.Buses = []api.Bus{{Set: 0x22, Lock: 600}}
	const wait = 601*(925+3*1900+2) + 600
	wantAll(t, "sample", x, api.Bounds{Wait: [8]int{wait, wait, wait, wait, wait, wait, wait, wait}, Entry: [4]int{580}}, none())
}

// exact computes with numbers without a limit, so that a bound is limited only once, at its end.
type exact struct{ t api.Table }

func number(n int) *big.Int { return big.NewInt(int64(n)) }

// least is an argument that is capped below only: what is above MaxTick stays above it in all sums and products of P10.1.
func least(n int) *big.Int { return number(max(n, 0)) }

func plus(l ...*big.Int) *big.Int {
	s := new(big.Int)
	for _, n := range l {
		s.Add(s, n)
	}
	return s
}

func times(n int, x *big.Int) *big.Int { return new(big.Int).Mul(number(n), x) }

func highest(l ...*big.Int) *big.Int {
	return slices.MaxFunc(append(l, new(big.Int)), (*big.Int).Cmp)
}

func limited(n *big.Int) int {
	if n.Cmp(number(most)) > 0 {
		return most
	}
	return int(n.Int64())
}

func (e exact) isOn(p int) bool { return p >= 0 && p <= 7 && e.t.Phases[p].On }

func (e exact) serve(p int) *big.Int {
	if !e.isOn(p) {
		return number(0)
	}
	x := e.t.Phases[p]
	green := highest(least(x.Min), plus(least(x.Walk), least(x.Blinks)), least(x.Top))
	return plus(number(8), least(e.t.Revert), least(x.Red), least(x.Yellow), least(e.t.Extend), green)
}

func (e exact) pass(g int) *big.Int {
	if g < 0 || g > len(e.t.Groups)-1 {
		return number(0)
	}
	s := number(8)
	for _, p := range slices.Concat(e.t.Groups[g][0], e.t.Groups[g][1]) {
		s.Add(s, e.serve(p))
	}
	return s
}

func (e exact) free(p int) *big.Int {
	own := slices.IndexFunc(e.t.Groups, func(g rows) bool { return slices.Contains(slices.Concat(g[1], g[0]), p) })
	if own < 0 || !e.isOn(p) {
		return number(0)
	}
	s := e.pass(own)
	for g := range e.t.Groups {
		s.Add(s, e.pass(g))
	}
	return s
}

// clears is C.
func (e exact) clears() *big.Int {
	c := number(0)
	for p, x := range e.t.Phases {
		if e.isOn(p) {
			c = highest(c, plus(least(x.Red), least(x.Yellow)))
		}
	}
	return c
}

func (e exact) entry(k int) *big.Int {
	if k < 0 || k > len(e.t.Rails)-1 {
		return number(0)
	}
	r := e.t.Rails[k]
	return plus(number(60), times(3, plus(least(r.Foot), least(e.t.Revert))), times(5, e.clears()), times(2, least(r.Green)), least(r.Hold), least(r.Delay))
}

func (e exact) over() *big.Int {
	if len(e.t.Rails) == 0 {
		return number(0)
	}
	rail, phase := number(0), number(0)
	for k, r := range e.t.Rails {
		rail = highest(rail, plus(least(r.Stay), e.entry(k)))
	}
	for p, x := range e.t.Phases {
		if e.isOn(p) {
			phase = highest(phase, least(x.Min), plus(least(x.Blinks), least(x.Walk)))
		}
	}
	return plus(number(30), least(e.t.Revert), e.clears(), phase, rail)
}

func (e exact) wait(p int) *big.Int {
	free := e.free(p)
	if free.Sign() == 0 || len(e.t.Rails) == 0 {
		return free
	}
	share, once := least(e.t.Share), plus(free, e.over(), number(2))
	return plus(once, new(big.Int).Mul(share, once), share)
}

// all is P10.2 for a table that check.Check accepts.
func (e exact) all() (b api.Bounds, f api.Fault) {
	window := false
	for p := range b.Wait {
		b.Wait[p] = limited(e.wait(p))
		if b.Wait[p] == most {
			return api.Bounds{}, at(api.ErrBound, p)
		}
		window = window || b.Wait[p] > e.t.Window
	}
	for k := range b.Entry {
		b.Entry[k] = limited(e.entry(k))
	}
	if window && len(e.t.Rails) > 0 {
		return api.Bounds{}, at(api.ErrWindow, 0)
	}
	return b, none()
}

// compare holds every bound of x against the exact one.
func compare(t *testing.T, x api.Table) {
	t.Helper()
	e := exact{x}
	same := func(name string, n, got int, exactly *big.Int) {
		if got != limited(exactly) {
			t.Errorf("%s of %d is %d, want %d, for %+v", name, n, got, limited(exactly), x)
		}
	}
	for p := -1; p <= api.Phases; p++ {
		same("Serve", p, Serve(x, p), e.serve(p))
		same("Free", p, Free(x, p), e.free(p))
		same("Wait", p, Wait(x, p), e.wait(p))
	}
	for g := -1; g <= len(x.Groups); g++ {
		same("Pass", g, Pass(x, g), e.pass(g))
	}
	for k := -1; k <= len(x.Rails); k++ {
		same("Entry", k, Entry(x, k), e.entry(k))
	}
	same("Over", 0, Over(x), e.over())
	var b api.Bounds
	f := check.Check(x)
	if f == none() {
		b, f = e.all()
	}
	if gotB, gotF := All(x); gotB != b || gotF != f {
		t.Errorf("All is %v and %+v, want %v and %+v, for %+v", gotB, gotF, b, f, x)
	}
}

// numbers returns pointers to all numbers of a table of which bounds are made.
func numbers(x *api.Table) []*int {
	l := []*int{&x.Extend, &x.Budget, &x.Start, &x.Revert, &x.Least, &x.Window, &x.Share}
	for p := range x.Phases {
		y := &x.Phases[p]
		l = append(l, &y.Min, &y.Gap, &y.Max, &y.Top, &y.Step, &y.Yellow, &y.Red, &y.Walk, &y.Blinks)
	}
	for k := range x.Rails {
		y := &x.Rails[k]
		l = append(l, &y.Delay, &y.Green, &y.Foot, &y.Hold, &y.Stay, &y.Most, &y.Limit)
	}
	return l
}

// wild is a table with anything in the places of which bounds are made.
func wild(r *rand.Rand) api.Table {
	ends := []int{math.MinInt, -most, -10000, -1, 0, 1, 2, 7, 8, 9, 60, 9999, 46341, 1 << 16, most / 5, most / 3, most / 2, most - 70, most - 8, most - 1, most, most + 1, 1 << 32, 1 << 62, math.MaxInt}
	var x api.Table
	x.Rails = make([]api.Rail, r.Intn(7))
	x.Groups = make([]rows, r.Intn(7))
	for g := range x.Groups {
		for ring := range x.Groups[g] {
			for range r.Intn(5) {
				x.Groups[g][ring] = append(x.Groups[g][ring], r.Intn(10)-1)
			}
		}
	}
	for p := range x.Phases {
		x.Phases[p].On = r.Intn(4) > 0
	}
	scale := []int{10, 10000, 1 << 28, most}[r.Intn(4)]
	for _, n := range numbers(&x) {
		*n = r.Intn(scale)
	}
	for l := numbers(&x); r.Intn(3) > 0; {
		*l[r.Intn(len(l))] = ends[r.Intn(len(ends))]
	}
	return x
}

// P10.1, R1: for tables with anything in them, the bounds are those of numbers without a limit, limited at the end.
func TestAnything(t *testing.T) {
	r := rand.New(rand.NewSource(1))
	for range 5000 {
		compare(t, wild(r))
		if t.Failed() {
			return
		}
	}
}

// sound is a table drawn so that it is well-formed most of the time: junction, with phases, groups and rails missing, and other times.
func sound(r *rand.Rand) api.Table {
	x := junction()
	scale := []int{20, 500, api.MaxTime}[r.Intn(3)]
	for p := range x.Phases {
		y := &x.Phases[p]
		y.Min = 1 + r.Intn(scale)
		y.Max = min(y.Min+r.Intn(scale), api.MaxTime)
		y.Top = min(y.Max+r.Intn(scale), api.MaxTime)
		y.Yellow, y.Red = 10+r.Intn(scale)/2, r.Intn(scale)
		y.Walk, y.Blinks = 0, 0
		if r.Intn(2) == 0 {
			y.Walk, y.Blinks = 1+r.Intn(scale), 1+r.Intn(scale)
		}
	}
	for k := range x.Rails {
		y := &x.Rails[k]
		y.Delay, y.Green, y.Foot, y.Stay = r.Intn(scale), 1+r.Intn(scale), r.Intn(scale), 1+r.Intn(scale)
		y.Most, y.Limit = 0, api.MaxTime
		if y.Clear != 0 {
			y.Hold = 1 + r.Intn(scale)
		}
	}
	x.Rails = x.Rails[:r.Intn(3)]
	if len(x.Rails) == 0 && r.Intn(3) == 0 {
		x.Phases[0].On, x.Groups[0][0], x.Buses = false, []int{1}, nil
	}
	r.Shuffle(len(x.Groups), func(i, j int) { x.Groups[i], x.Groups[j] = x.Groups[j], x.Groups[i] })
	x.Extend, x.Revert = r.Intn(scale), r.Intn(scale)
	x.Share = r.Intn(1000)
	return x
}

// near sets Window, or Share, so that the table is just accepted or just refused.
func near(r *rand.Rand, x *api.Table) {
	p := r.Intn(api.Phases)
	if r.Intn(2) == 0 {
		x.Window = min(max(Wait(*x, p)+r.Intn(3)-1, 0), most)
		return
	}
	x.Window = most
	once := Over(*x) + Free(*x, p) + 3
	x.Share = most/once + r.Intn(3) - 1
}

// P10.2, T6: for tables that are just accepted or just refused, the result is the one of numbers without a limit, and the bounds are below MaxTick.
func TestNear(t *testing.T) {
	r := rand.New(rand.NewSource(2))
	met := map[api.Errno]int{}
	for range 5000 {
		x := sound(r)
		near(r, &x)
		compare(t, x)
		if t.Failed() {
			return
		}
		b, f := All(x)
		met[f.Code]++
		if slices.Max(b.Wait[:]) >= most || slices.Max(b.Entry[:]) >= most {
			t.Fatalf("%v: a bound is not below MaxTick", b)
		}
	}
	for _, code := range []api.Errno{api.OK, api.ErrBound, api.ErrWindow} {
		if met[code] < 300 {
			t.Errorf("the error %d was met %d times", code, met[code])
		}
	}
}

// R1: long lists, of which check.Check refuses each.
func TestLong(t *testing.T) {
	x := junction()
	x.Groups = slices.Repeat(x.Groups, 500)
	want(t, "Free", Free(x, 6), 500*1069+251)
	x.Groups = []rows{{slices.Repeat([]int{0, 9}, 50000), nil}}
	want(t, "Pass", Pass(x, 0), 8+50000*70)
	refused(t, "long row", x, at(api.ErrRange, 0))
	x = junction()
	x.Rails = slices.Repeat(x.Rails[1:], 5000)
	want(t, "Entry", Entry(x, 4999), 238)
	want(t, "Over", Over(x), over)
	want(t, "Wait", Wait(x, 0), waits[0])
	refused(t, "many rails", x, at(api.ErrRange, 0))
}

// R3, R4: no call changes a list or the memory behind one, or finds something there, and all return the same again.
func TestKeepsLists(t *testing.T) {
	first, second := []int{0, 1, 7}, []int{5, 7}
	groups := []rows{{first[:2], second[:1]}, {nil, {6}}, {{2, 3}, {7}}, {{7}, {7}}}
	rails := append(junction().Rails, api.Rail{Delay: 9999})
	x := junction()
	x.Groups, x.Rails = groups[:3], rails[:2]
	was := table.Clone(x)
	memory := func() any {
		return []any{slices.Clone(first), slices.Clone(second), table.Clone(api.Table{Groups: groups, Rails: rails})}
	}
	kept := memory()
	for range 3 {
		wantAll(t, "junction", x, api.Bounds{Wait: waits, Entry: [4]int{297, 238}}, none())
		want(t, "Pass", Pass(x, 3), 0)
		want(t, "Entry", Entry(x, 2), 0)
		compare(t, x)
	}
	if !table.Same(x, was) || !reflect.DeepEqual(memory(), kept) {
		t.Errorf("the table has become %+v", x)
	}
}
