package preempt

import (
	"math"
	"math/rand"
	"slices"
	"testing"

	"crossbuck/api"
	"crossbuck/bound"
	"crossbuck/check"
	"crossbuck/phase"
	"crossbuck/plan"
	"crossbuck/ring"
	"crossbuck/table"
)

type (
	held = [api.MaxRails]int
	lit  = [api.Phases]api.Run
)

// others are numbers that are no Colour, no Stage, no State of a Foot and no rail: beside these, and those that a narrower number, a remainder, or a sum that wraps round takes for one.
var others = []int{
	math.MinInt, math.MinInt + 1, math.MinInt32, -(1 << 32), -(1 << 32) + 1, -256, -255, -3, -2, -1,
	6, 7, 8, 9, 255, 256, 257, 258, 1 << 16, 1<<16 + 1, math.MaxInt32, 1 << 32, 1<<32 + 1, 1<<32 + 2, 1 << 62, math.MaxInt - 1, math.MaxInt,
}

// aboveRails are bits that are of no rail.
var aboveRails = []int{0, 1 << 4, 1 << 5, 0xF0, 0xFF00, 1 << 31, 1 << 32, 0xF << 32, 1 << 62, math.MaxInt &^ 15, math.MinInt, -16}

// yard has four rails: 0 without a track; 1 with all that there is; 2 with a phase that is of the track and of the dwell, and a Most that is its Stay; 3 with a Dwell and an Exit beside the track.
func yard(t testing.TB) api.Table {
	x := api.Table{Groups: [][2][]int{{{0, 1}, {4, 5}}, {{2, 3}, {6, 7}}}, Revert: 6, Window: api.MaxTick, Share: 9}
	for p := range x.Phases {
		x.Phases[p] = api.Phase{On: true, Min: 10 + p, Gap: 2, Max: 30, Top: 30, Yellow: 10, Red: 2}
		if p%2 == 1 {
			x.Phases[p].Walk, x.Phases[p].Blinks = 7, 40
		}
		for q := range x.Phases {
			if p != q && (p&2 != q&2 || p&4 == q&4) {
				x.Conflict[p] += 1 << q
			}
		}
		x.Flash[p] = api.FlashRed
	}
	x.Rails = []api.Rail{
		{Bars: 0xCC, Dwell: 0x11, Exit: 0x08, Delay: 0, Green: 7, Foot: 3, Stay: 5, Limit: 50},
		{Bars: 0xCC, Clear: 0x88, Dwell: 0x22, Exit: 0x44, Delay: 5, Green: 20, Foot: 30, Hold: 100, Stay: 100, Most: 3000, Limit: 4000},
		{Bars: 0x33, Clear: 0x44, Dwell: 0x84, Exit: 0x02, Delay: 2, Green: 4, Foot: 2, Hold: 8, Stay: 6, Most: 6, Limit: 30},
		{Clear: 0x01, Dwell: 0x21, Exit: 0x11, Delay: 9, Green: 1, Foot: 0, Hold: 1, Stay: 1, Limit: 10},
	}
	wellFormed(t, x)
	return x
}

func wellFormed(t testing.TB, x api.Table) {
	t.Helper()
	if f := check.Check(x); f != (api.Fault{}) {
		t.Fatalf("%+v is not well-formed: %v", x, f)
	}
}

// runs are phases by letters: r red, n red just now, x of no Colour, g green, s green just now, w green and Walk, b and B green and Blinks for 2 and for 40 ticks, y yellow, c red clearance.
func runs(s string) lit {
	letters := map[rune]api.Run{
		'r': {Time: 100}, 'n': {Time: 5}, 'x': {Colour: 4, Time: 100}, 'g': {Colour: 1, Time: 60}, 's': {Colour: 1, Time: 3},
		'w': {Colour: 1, Time: 60, Foot: api.Foot{State: 1, Time: 3}}, 'b': {Colour: 1, Time: 60, Foot: api.Foot{State: 2, Time: 2}}, 'B': {Colour: 1, Time: 60, Foot: api.Foot{State: 2, Time: 40}},
		'y': {Colour: 2, Time: 3}, 'c': {Colour: 3, Time: 1},
	}
	var l lit
	for p, x := range s {
		l[p] = letters[x]
	}
	return l
}

// all are eight runs like that of the letter.
func all(letter string) lit {
	l := runs(letter)
	for p := range l {
		l[p] = l[0]
	}
	return l
}

// on is a state in which the lines of some rails have been active for some ticks.
func on(stage, which, time int, l ...int) api.Pre {
	s := api.Pre{Stage: stage, Which: which, Time: time}
	copy(s.Held[:], l)
	return s
}

// spent is a state with these rails Spent.
func spent(s api.Pre, rails int) api.Pre {
	s.Spent = rails
	return s
}

func step(t *testing.T, x api.Table, s api.Pre, lines int, l lit, want api.Pre, act api.Act) {
	t.Helper()
	if got, do := Step(x, s, lines, l); got != want || do != act {
		t.Fatalf("Step of rails %+v,\n\t%+v, %#x,\n\t%+v\n\t= %+v, %+v\n\twant %+v, %+v", x.Rails, s, lines, l, got, do, want, act)
	}
}

// line is a step that is written in one line.
type line struct {
	s     api.Pre
	lines int
	runs  string
	want  api.Pre
	act   api.Act
}

func steps(t *testing.T, l []line) {
	t.Helper()
	x := yard(t)
	for _, y := range l {
		for _, high := range aboveRails {
			step(t, x, y.s, y.lines|high, runs(y.runs), y.want, y.act)
		}
	}
}

// P21.1: Held is for how many ticks the line of a rail has been active; Stage, Which and Time do not change.
func TestLinesHeld(t *testing.T) {
	x := yard(t)
	for _, y := range [][2]int{
		{0, 1}, {1, 2}, {7, 8}, {9998, 9999}, {9999, 10000}, {10000, 10001}, {1 << 20, 1<<20 + 1}, {api.MaxTick - 2, api.MaxTick - 1}, {api.MaxTick - 1, api.MaxTick}, {api.MaxTick, api.MaxTick}, {api.MaxTick + 1, api.MaxTick},
		{1 << 32, api.MaxTick}, {math.MaxInt, api.MaxTick}, {-1, 1}, {-9, 1}, {-(1 << 32) + 5, 1}, {math.MinInt, 1},
	} {
		for k := range 4 {
			for _, high := range aboveRails {
				for i, n := range append([]int{0, 1, 2, 3, 4, 5}, others...) {
					s := api.Pre{Stage: n, Which: n / 2, Time: -n, Held: held{y[0], y[0], y[0], y[0]}}
					want := s
					want.Held = held{}
					if got := Lines(x, s, high); got != want {
						t.Fatalf("Lines(%+v, %#x) = %+v", s, high, got)
					}
					want.Held[k] = y[1]
					if got := Lines(x, s, 1<<k|high); got != want {
						t.Fatalf("%d: Lines(%+v, %#x) = %+v", i, s, 1<<k|high, got)
					}
					want.Held = held{y[1], y[1], y[1], y[1]}
					want.Held[k] = 0
					if got := Lines(x, s, 15-1<<k|high); got != want {
						t.Fatalf("%d: Lines(%+v, %#x) = %+v", i, s, 15-1<<k|high, got)
					}
				}
			}
		}
	}
	s := Lines(x, api.Pre{Held: held{3, 50, 700, 9000}}, 13)
	if s != (api.Pre{Held: held{4, 0, 701, 9001}}) {
		t.Errorf("%+v", s)
	}
}

// P21.1: Spent keeps only the rails that are active.
func TestLinesSpent(t *testing.T) {
	x := yard(t)
	for lines := range 16 {
		for was := range 16 {
			want := 0
			for _, n := range []int{1, 2, 4, 8} {
				if lines/n%2 == 1 && was/n%2 == 1 {
					want += n
				}
			}
			for _, high := range aboveRails {
				for _, more := range aboveRails {
					if got := Lines(x, api.Pre{Spent: was | more}, lines|high).Spent; got != want {
						t.Fatalf("Spent %#x, lines %#x: %#x", was|more, lines|high, got)
					}
				}
			}
		}
	}
}

// P21.1, R3: rails that the table does not have are neither active, ready, stuck nor Spent; nor are those beyond MaxRails, which a Pre has no place for (R1).
func TestFewRails(t *testing.T) {
	for _, n := range []int{0, 1, 2, 3, 4, 5, 6, 8, 9, 63, 64, 65, 300} {
		x, want := api.Table{Rails: make([]api.Rail, n)}, api.Pre{Spent: 1<<min(n, 4) - 1}
		for k := range min(n, 4) {
			want.Held[k] = 6
		}
		for _, high := range aboveRails {
			if got := Lines(x, api.Pre{Held: held{5, 5, 5, 5}, Spent: -1}, 15|high); got != want {
				t.Fatalf("%d rails: %+v", n, got)
			}
		}
		for k := range 4 {
			s, ready := api.Pre{}, -1
			if s.Held[k] = 1; k < n {
				ready = k
			}
			if got := Ready(x, s); got != ready {
				t.Errorf("%d rails, %d is held: %d is ready", n, k, got)
			}
			if got := Stuck(x, s); got != (k < n) {
				t.Errorf("%d rails, %d is held: %t", n, k, got)
			}
			s.Spent = 1 << k
			if got := Ready(x, s); got != -1 {
				t.Errorf("%d rails, %d is spent: %d is ready", n, k, got)
			}
		}
	}
}

// P21.1: a rail is ready once its line has been active for longer than its own Delay, in ticks that Held has; neither its Limit, the stage, nor Which counts.
func TestReady(t *testing.T) {
	for _, y := range []struct {
		held, delay int
		ready       bool
	}{
		{0, 0, false}, {1, 0, true}, {5, 0, true}, {4, 5, false}, {5, 5, false}, {6, 5, true}, {9999, 9999, false}, {10000, 9999, true}, {api.MaxTick, 9999, true}, {api.MaxTick, api.MaxTick, false},
		{-1, 0, false}, {math.MinInt, 0, false}, {math.MaxInt, 0, true}, {0, -1, true}, {-1, -1, false}, {-1, -2, true}, {math.MinInt, math.MaxInt, false}, {math.MaxInt, math.MinInt, true}, {1 << 32, 5, true}, {-(1 << 32) + 6, 5, false}, {6, 1 << 32, false},
	} {
		for k := range 4 {
			x, s, want := yard(t), api.Pre{Held: held{math.MinInt, math.MinInt, math.MinInt, math.MinInt}}, -1
			for i := range x.Rails {
				x.Rails[i].Delay, x.Rails[i].Limit = 7, -9
			}
			if x.Rails[k].Delay, s.Held[k] = y.delay, y.held; y.ready {
				want = k
			}
			for _, n := range append([]int{0, 1, 2, 3, 4, 5}, others...) {
				s.Stage, s.Which, s.Time = n, n, n
				for _, high := range aboveRails {
					if got := Ready(x, spent(s, high)); got != want {
						t.Fatalf("Delay %d: Ready(%+v) = %d", y.delay, spent(s, high), got)
					}
					if got := Ready(x, spent(s, high|15-1<<k)); got != want {
						t.Fatalf("Delay %d: Ready(%+v) = %d", y.delay, spent(s, high|15-1<<k), got)
					}
					if got := Ready(x, spent(s, high|1<<k)); got != -1 {
						t.Fatalf("Delay %d: Ready(%+v) = %d", y.delay, spent(s, high|1<<k), got)
					}
				}
			}
		}
	}
}

// P21.1: of several rails the smallest is ready that is not Spent.
func TestReadyFirst(t *testing.T) {
	x := yard(t)
	first := func(s int) int { return []int{-1, 0, 1, 0, 2, 0, 1, 0, 3, 0, 1, 0, 2, 0, 1, 0}[s] }
	for some := range 16 {
		s := api.Pre{}
		for k, r := range x.Rails {
			s.Held[k] = r.Delay + some>>k&1
		}
		for done := range 16 {
			if got := Ready(x, spent(s, done)); got != first(some&^done) {
				t.Errorf("%#x are held, %#x are spent: %d is ready", some, done, got)
			}
		}
	}
}

// P21.1: a rail is stuck once its line has been active for longer than its own Limit, also if it is Spent, and also if another one is not.
func TestStuck(t *testing.T) {
	for _, y := range []struct {
		held, limit int
		stuck       bool
	}{
		{0, 0, false}, {1, 0, true}, {49, 50, false}, {50, 50, false}, {51, 50, true}, {9999, 9999, false}, {10000, 9999, true}, {api.MaxTick, api.MaxTick, false}, {api.MaxTick, api.MaxTick - 1, true}, {api.MaxTick - 1, api.MaxTick, false},
		{-1, 0, false}, {0, -1, true}, {-1, -1, false}, {math.MinInt, math.MaxInt, false}, {math.MaxInt, math.MinInt, true}, {1 << 32, 5, true}, {-(1 << 32) + 6, 5, false}, {6, 1 << 32, false},
	} {
		for k := range 4 {
			for _, delay := range []int{0, 9999, math.MaxInt, math.MinInt} {
				x, s := yard(t), api.Pre{Held: held{3, 3, 3, 3}}
				for i := range x.Rails {
					x.Rails[i].Delay, x.Rails[i].Limit = delay, 3
				}
				x.Rails[k].Limit, s.Held[k] = y.limit, y.held
				for _, done := range []int{0, 1, 2, 4, 8, 15, -1} {
					if got := Stuck(x, spent(s, done)); got != y.stuck {
						t.Fatalf("Limit %d: Stuck(%+v) = %t", y.limit, spent(s, done), got)
					}
				}
			}
		}
	}
}

// P21.2, P21.3: in Idle Time is 0, and the phases are free, until a rail is ready.
func TestIdle(t *testing.T) {
	free := api.Act{Free: true}
	steps(t, []line{
		{api.Pre{}, 0, "rrrrrrrr", api.Pre{}, free}, {api.Pre{}, 0, "grwbyrcx", api.Pre{}, free}, {on(0, 0, 9), 0, "rrrrrrrr", api.Pre{}, free}, {on(0, 0, -9), 0, "gggggggg", api.Pre{}, free}, {on(0, 0, 10000), 0, "gggggggg", api.Pre{}, free},
		{on(0, 0, 0, 4, 5, 2, 9), 0, "gggggggg", api.Pre{}, free}, {on(0, 0, 0, 0, 4), 2, "gggggggg", on(0, 0, 0, 0, 5), free}, {on(0, 0, 0, 0, 0, 1, 8), 12, "gggggggg", on(0, 0, 0, 0, 0, 2, 9), free},
		{on(0, 0, 0, 0, 5), 2, "gggggggg", on(1, 1, 0, 0, 6), api.Act{End: 0x77}}, {on(0, 0, 7), 1, "gggggggg", on(1, 0, 0, 1), api.Act{End: 0xEE}}, {on(0, 0, 0, 0, 0, 2), 4, "wwwwwwww", on(1, 2, 0, 0, 0, 3), api.Act{Cut: 0xBB}}, {on(0, 0, 0, 0, 0, 0, 9), 8, "rrrrrrrr", on(1, 3, 0, 0, 0, 0, 10), api.Act{}},
		{spent(on(0, 0, 0, 0, 5), 2), 2, "gggggggg", spent(on(0, 0, 0, 0, 6), 2), free}, {spent(on(0, 0, 0, 0, 5), 2), 0, "gggggggg", api.Pre{}, free}, {spent(on(0, 0, 0, 0, 5, 5), 2), 6, "rrrrrrrr", spent(on(1, 2, 0, 0, 6, 6), 2), api.Act{}},
		{on(0, 0, 0, 0, 5, 5, 9), 14, "rrrrrrrr", on(1, 1, 0, 0, 6, 6, 10), api.Act{}}, {on(0, 0, 0, 8, 5, 5, 9), 15, "rrrrrrrr", on(1, 0, 0, 9, 6, 6, 10), api.Act{}}, {on(0, 0, 0, 0, 4, 5, 9), 14, "rrrrrrrr", on(1, 2, 0, 0, 5, 6, 10), api.Act{}},
	})
}

// P21.2: in Idle, Which may be any number: it does not change, and any rail may take over.
func TestIdleWhich(t *testing.T) {
	x := yard(t)
	for _, w := range append([]int{0, 1, 2, 3, 4, 5}, others...) {
		step(t, x, on(0, w, 5), 0, all("g"), on(0, w, 0), api.Act{Free: true})
		step(t, x, on(0, w, 5, 0, 4), 2, all("g"), on(0, w, 0, 0, 5), api.Act{Free: true})
		step(t, x, on(0, w, 5), 1, all("g"), on(1, 0, 0, 1), api.Act{End: 0xEE})
		step(t, x, on(0, w, 5, 0, 5), 2, all("g"), on(1, 1, 0, 0, 6), api.Act{End: 0x77})
		step(t, x, on(0, w, 5, 0, 0, 0, 9), 8, all("g"), on(1, 3, 0, 0, 0, 0, 10), api.Act{End: 0xFE})
		step(t, api.Table{Groups: x.Groups, Phases: x.Phases}, on(0, w, 5, 9, 9, 9, 9), -1, all("g"), on(0, w, 0), api.Act{Free: true})
	}
}

// P21.2: the entry is over when all phases but those of the target are Red: with a track that of Clear, and otherwise that of Dwell.
func TestEntry(t *testing.T) {
	steps(t, []line{
		{on(1, 1, 4, 0, 9), 2, "gggggggg", on(1, 1, 5, 0, 10), api.Act{End: 0x77}}, {on(1, 1, 4, 0, 9), 0, "gggggggg", on(1, 1, 5), api.Act{End: 0x77}}, {on(1, 1, 4, 0, 9), 2, "rrrgrrrg", on(2, 1, 0, 0, 10), api.Act{}}, {on(1, 1, 4, 0, 9), 0, "rrrwrrrw", on(2, 1, 0), api.Act{}}, {on(1, 1, 0, 0, 9), 2, "rrryrrrc", on(2, 1, 0, 0, 10), api.Act{}},
		{on(1, 1, 4, 0, 9), 2, "rrrrrrrr", on(2, 1, 0, 0, 10), api.Act{Start: 0x88}}, {on(1, 1, 4, 0, 9), 2, "xxxxxxxx", on(2, 1, 0, 0, 10), api.Act{Start: 0x88}}, {on(1, 1, 4, 0, 9), 2, "nnnrnnnn", on(2, 1, 0, 0, 10), api.Act{Start: 0x08}}, {on(1, 1, 4, 0, 9), 2, "rgrrrrrr", on(1, 1, 5, 0, 10), api.Act{End: 0x02}}, {on(1, 1, 4, 0, 9), 2, "rgrrrgrr", on(1, 1, 5, 0, 10), api.Act{End: 0x22}},
		{on(1, 0, 4, 9), 1, "gggggggg", on(1, 0, 5, 10), api.Act{End: 0xEE}}, {on(1, 0, 4, 9), 1, "grrrgrrr", on(4, 0, 0, 10), api.Act{}}, {on(1, 0, 4, 9), 0, "rrrryrrr", on(4, 0, 0), api.Act{Start: 0x01}}, {on(1, 0, 4, 9), 1, "rrrrrrrr", on(4, 0, 0, 10), api.Act{Start: 0x11}}, {on(1, 0, 4, 9), 1, "rrrgrrrr", on(1, 0, 5, 10), api.Act{End: 0x08}},
		{on(1, 2, 4, 0, 0, 9), 4, "rrgrrrgr", on(2, 2, 0, 0, 0, 10), api.Act{}}, {on(1, 2, 4, 0, 0, 9), 4, "rrgrrrrg", on(1, 2, 5, 0, 0, 10), api.Act{End: 0x80}}, {on(1, 3, 4, 0, 0, 0, 9), 8, "grrrrrrr", on(2, 3, 0, 0, 0, 0, 10), api.Act{}}, {on(1, 3, 4, 0, 0, 0, 9), 8, "grrrrgrr", on(1, 3, 5, 0, 0, 0, 10), api.Act{End: 0x20}},
	})
}

// P21.2: the track is over when all its phases have been Green for Hold ticks.
func TestTrack(t *testing.T) {
	steps(t, []line{
		{on(2, 1, 4, 0, 9), 2, "rrrgrrrg", on(2, 1, 5, 0, 10), api.Act{}}, {on(2, 1, 4, 0, 9), 0, "rrrgrrrw", on(2, 1, 5), api.Act{}}, {on(2, 1, 4, 0, 9), 2, "rrrgrrrr", on(2, 1, 4, 0, 10), api.Act{Start: 0x80}}, {on(2, 1, 4, 0, 9), 2, "rrrrrrrg", on(2, 1, 4, 0, 10), api.Act{Start: 0x08}}, {on(2, 1, 4, 0, 9), 2, "rrryrrrc", on(2, 1, 4, 0, 10), api.Act{}}, {on(2, 1, 4, 0, 9), 2, "rrrxrrrx", on(2, 1, 4, 0, 10), api.Act{Start: 0x88}},
		{on(2, 1, 98, 0, 9), 2, "rrrgrrrg", on(2, 1, 99, 0, 10), api.Act{}}, {on(2, 1, 99, 0, 9), 2, "rrrgrrrg", on(2, 1, 100, 0, 10), api.Act{}}, {on(2, 1, 99, 0, 9), 2, "rrrgrrrn", on(2, 1, 99, 0, 10), api.Act{}}, {on(2, 1, 100, 0, 9), 2, "rrrgrrrg", on(3, 1, 0, 0, 10), api.Act{End: 0x88}}, {on(2, 1, 101, 0, 9), 0, "rrrgrrrg", on(3, 1, 0), api.Act{End: 0x88}}, {on(2, 1, 100, 0, 9), 2, "rrrrrrrr", on(3, 1, 0, 0, 10), api.Act{}},
		{on(2, 1, 100, 0, 9), 2, "gggggggg", on(3, 1, 0, 0, 10), api.Act{End: 0xDD}}, {on(2, 1, 4, 0, 9), 2, "gggggggg", on(2, 1, 5, 0, 10), api.Act{}}, {on(2, 2, 7, 0, 0, 9), 4, "rrgrrrgr", on(2, 2, 8, 0, 0, 10), api.Act{}}, {on(2, 2, 8, 0, 0, 9), 4, "rrgrrrgr", on(3, 2, 0, 0, 0, 10), api.Act{End: 0x40}}, {on(2, 3, 0, 0, 0, 0, 9), 8, "grrrrrrr", on(2, 3, 1, 0, 0, 0, 10), api.Act{}}, {on(2, 3, 1, 0, 0, 0, 9), 8, "grrrrrrr", on(3, 3, 0, 0, 0, 0, 10), api.Act{}},
	})
	x := yard(t)
	step(t, x, on(2, 0, -1), 0, all("r"), on(2, 0, 1), api.Act{})
	step(t, x, on(2, 0, 0), 0, all("r"), on(3, 0, 0), api.Act{})
}

// P21.2: what comes between track and dwell is over when all phases but those of Dwell are Red.
func TestBetween(t *testing.T) {
	steps(t, []line{
		{on(3, 1, 4, 0, 9), 2, "rrrgrrrg", on(3, 1, 5, 0, 10), api.Act{End: 0x88}}, {on(3, 1, 4, 0, 9), 0, "rrrrrrrg", on(3, 1, 5), api.Act{End: 0x80}}, {on(3, 1, 4, 0, 9), 2, "rrrcrrrr", on(3, 1, 5, 0, 10), api.Act{}}, {on(3, 1, 4, 0, 9), 2, "rrryrrrr", on(3, 1, 5, 0, 10), api.Act{}}, {on(3, 1, 4, 0, 9), 2, "rrrrrrrr", on(4, 1, 0, 0, 10), api.Act{Start: 0x22}}, {on(3, 1, 4, 0, 9), 0, "xxxxxxxx", on(4, 1, 0), api.Act{Start: 0x22}},
		{on(3, 1, 4, 0, 9), 2, "rgrrrcrr", on(4, 1, 0, 0, 10), api.Act{}}, {on(3, 1, 4, 0, 9), 2, "rwrrrrrr", on(4, 1, 0, 0, 10), api.Act{Start: 0x20}}, {on(3, 2, 4, 0, 0, 9), 4, "rrgrrrgr", on(3, 2, 5, 0, 0, 10), api.Act{End: 0x40}}, {on(3, 2, 4, 0, 0, 9), 4, "rrgrrrrr", on(4, 2, 0, 0, 0, 10), api.Act{Start: 0x80}}, {on(3, 3, 4, 0, 0, 0, 9), 8, "grrrrrrr", on(4, 3, 0, 0, 0, 0, 10), api.Act{Start: 0x20}}, {on(3, 0, 4, 9), 1, "gggggggg", on(3, 0, 5, 10), api.Act{End: 0xEE}},
	})
}

// P21.2: the dwell is over when the line is not active and it has lasted for Stay ticks, or after Most ticks, whatever the line is.
func TestDwell(t *testing.T) {
	steps(t, []line{
		{on(4, 1, 0, 0, 9), 2, "rgrrrrrr", on(4, 1, 0, 0, 10), api.Act{Start: 0x20}}, {on(4, 1, 0, 0, 9), 2, "rgrrrnrr", on(4, 1, 0, 0, 10), api.Act{}}, {on(4, 1, 7, 0, 9), 2, "rgrrryrr", on(4, 1, 7, 0, 10), api.Act{}}, {on(4, 1, 7, 0, 9), 2, "rgrrrgrr", on(4, 1, 8, 0, 10), api.Act{}}, {on(4, 1, 7, 0, 9), 2, "gggggggg", on(4, 1, 8, 0, 10), api.Act{}}, {on(4, 1, 7, 0, 9), 2, "rgrrrxrr", on(4, 1, 7, 0, 10), api.Act{Start: 0x20}},
		{on(4, 1, 98, 0, 9), 0, "rgrrrgrr", on(4, 1, 99), api.Act{}}, {on(4, 1, 99, 0, 9), 0, "rgrrrgrr", on(4, 1, 100), api.Act{}}, {on(4, 1, 100, 0, 9), 0, "rgrrrgrr", on(5, 1, 0), api.Act{End: 0x22}}, {on(4, 1, 101, 0, 9), 0, "rgrrrgrr", on(5, 1, 0), api.Act{End: 0x22}}, {on(4, 1, 100), 2, "rgrrrgrr", on(4, 1, 101, 0, 1), api.Act{}}, {on(4, 1, 100, 0, 9), 13, "rgrrrgrr", on(1, 0, 0, 1, 0, 1, 1), api.Act{End: 0x22}},
		{on(4, 1, 99, 0, 9), 12, "rgrrrgrr", on(4, 1, 100, 0, 0, 1, 1), api.Act{}}, {on(4, 1, 100, 0, 9), 12, "rgrrrgrr", on(5, 1, 0, 0, 0, 1, 1), api.Act{End: 0x22}}, {on(4, 1, 100, 0, 9), 0, "rrrrrrrr", on(5, 1, 0), api.Act{}}, {on(4, 1, 100, 0, 9), 0, "rsrrrwrr", on(5, 1, 0), api.Act{}},
		{on(4, 1, 2999, 0, 9), 2, "rgrrrgrr", on(4, 1, 3000, 0, 10), api.Act{}}, {on(4, 1, 3000, 0, 9), 2, "rgrrrgrr", spent(on(5, 1, 0, 0, 10), 2), api.Act{End: 0x22}}, {on(4, 1, 3001, 0, 9), 2, "rgrrrgrr", spent(on(5, 1, 0, 0, 10), 2), api.Act{End: 0x22}}, {on(4, 1, 3000, 0, 9), 0, "rgrrrgrr", on(5, 1, 0), api.Act{End: 0x22}}, {spent(on(4, 1, 3000, 0, 9, 1), 4), 6, "rgrrrgrr", spent(on(5, 1, 0, 0, 10, 2), 6), api.Act{End: 0x22}}, {spent(on(4, 1, 3000, 0, 9, 1), 4), 2, "rgrrrgrr", spent(on(5, 1, 0, 0, 10), 2), api.Act{End: 0x22}},
		{spent(on(4, 1, 3000, 0, 9), 2), 2, "rgrrrgrr", spent(on(5, 1, 0, 0, 10), 2), api.Act{End: 0x22}}, {spent(on(4, 1, 9, 0, 9), 2), 2, "rgrrrgrr", spent(on(4, 1, 10, 0, 10), 2), api.Act{}},
		{on(4, 0, 4, 9), 0, "grrrgrrr", on(4, 0, 5), api.Act{}}, {on(4, 0, 5, 9), 0, "grrrgrrr", on(5, 0, 0), api.Act{End: 0x11}}, {on(4, 0, 9000, 9), 1, "grrrgrrr", on(4, 0, 9001, 10), api.Act{}}, {on(4, 0, 0, 9), 1, "grrrgrrr", on(4, 0, 1, 10), api.Act{}}, {on(4, 0, 0), 0, "grrrgrrr", on(4, 0, 1), api.Act{}},
		{on(4, 2, 5, 0, 0, 9), 4, "rrgrrrrg", on(4, 2, 6, 0, 0, 10), api.Act{}}, {on(4, 2, 5, 0, 0, 9), 0, "rrgrrrrg", on(4, 2, 6), api.Act{}}, {on(4, 2, 6), 4, "rrgrrrrg", spent(on(5, 2, 0, 0, 0, 1), 4), api.Act{End: 0x84}}, {on(4, 2, 6, 0, 0, 9), 4, "rrgrrrrg", spent(on(5, 2, 0, 0, 0, 10), 4), api.Act{End: 0x84}}, {on(4, 2, 6, 0, 0, 9), 0, "rrgrrrrg", on(5, 2, 0), api.Act{End: 0x84}}, {on(4, 3, 1, 0, 0, 0, 9), 0, "grrrrgrr", on(5, 3, 0), api.Act{End: 0x20}},
	})
}

// P21.2: behind a dwell comes the entry of a rail that is ready, also of one with a greater number, but not of one that is Spent by then.
func TestDwellReady(t *testing.T) {
	steps(t, []line{
		{on(4, 0, 5, 9, 5), 2, "grrrgrrr", on(1, 1, 0, 0, 6), api.Act{End: 0x11}}, {on(4, 0, 5, 9, 4), 2, "grrrgrrr", on(5, 0, 0, 0, 5), api.Act{End: 0x11}}, {on(4, 0, 4, 9, 5), 2, "grrrgrrr", on(4, 0, 5, 0, 6), api.Act{}}, {on(4, 0, 5, 9, 5), 3, "grrrgrrr", on(4, 0, 6, 10, 6), api.Act{}}, {on(4, 0, 5, 9, 5, 2), 6, "rrrrrrrr", on(1, 1, 0, 0, 6, 3), api.Act{}}, {on(4, 0, 5, 9, 4, 2, 9), 14, "rrrrrrrr", on(1, 2, 0, 0, 5, 3, 10), api.Act{}}, {on(4, 0, 5, 9, 0, 0, 9), 8, "rrrrrrrr", on(1, 3, 0, 0, 0, 0, 10), api.Act{}},
		{spent(on(4, 0, 5, 9, 5), 2), 2, "grrrgrrr", spent(on(5, 0, 0, 0, 6), 2), api.Act{End: 0x11}}, {spent(on(4, 0, 5, 9, 5, 2), 2), 6, "rrrrrrrr", spent(on(1, 2, 0, 0, 6, 3), 2), api.Act{}}, {spent(on(4, 0, 5, 9, 5, 2), 3), 6, "rrrrrrrr", spent(on(1, 2, 0, 0, 6, 3), 2), api.Act{}},
		{on(4, 1, 3000, 0, 9, 2), 6, "rrrrrrrr", spent(on(1, 2, 0, 0, 10, 3), 2), api.Act{}}, {on(4, 1, 3000, 0, 9, 1), 6, "rrrrrrrr", spent(on(5, 1, 0, 0, 10, 2), 2), api.Act{}}, {on(4, 1, 3000, 0, 9, 2), 4, "rrrrrrrr", on(1, 2, 0, 0, 0, 3), api.Act{}}, {on(4, 1, 3000, 0, 9), 3, "rrrrrrrr", on(1, 0, 0, 1, 10), api.Act{}}, {spent(on(4, 1, 3000, 4, 9), 1), 3, "rrrrrrrr", spent(on(5, 1, 0, 5, 10), 3), api.Act{}},
		{on(4, 2, 6, 0, 0, 9, 9), 12, "rrrrrrrr", spent(on(1, 3, 0, 0, 0, 10, 10), 4), api.Act{}}, {on(4, 2, 6, 0, 0, 9, 9), 8, "rrrrrrrr", on(1, 3, 0, 0, 0, 0, 10), api.Act{}}, {on(4, 2, 5, 0, 0, 9, 9), 12, "rrgrrrrg", on(4, 2, 6, 0, 0, 10, 10), api.Act{}}, {on(4, 1, 2999, 0, 9, 9, 9), 14, "rgrrrgrr", on(4, 1, 3000, 0, 10, 10, 10), api.Act{}},
	})
}

// P21.2: a Most of 0 is none, and that of another rail does not count.
func TestDwellMost(t *testing.T) {
	for _, most := range []int{0, 1, 2, 50, 9998, 9999} {
		for _, time := range []int{math.MinInt, -1, 0, 1, 2, 49, 50, 9997, 9998, 9999, 10000, math.MaxInt} {
			x := yard(t)
			for k := range x.Rails {
				x.Rails[k].Stay, x.Rails[k].Most = 1, 1
			}
			x.Rails[1].Most = most
			wellFormed(t, x)
			if most > 0 && time >= most {
				step(t, x, on(4, 1, time, 0, 9), 2, all("c"), spent(on(5, 1, 0, 0, 10), 2), api.Act{})
			} else {
				step(t, x, on(4, 1, time, 0, 9), 2, all("c"), on(4, 1, time, 0, 10), api.Act{})
			}
		}
	}
}

// P21.2: leaving is over when all phases but those of Exit are Red, and each of these is Green, or has been Red for Revert ticks; then the rings take over with all of Exit green.
func TestLeave(t *testing.T) {
	back := func(start int) api.Act { return api.Act{Start: start, Back: true} }
	steps(t, []line{
		{on(5, 1, 4), 0, "rrrrrrrr", api.Pre{}, back(0x44)}, {on(5, 1, 4), 0, "nnrnnnrn", api.Pre{}, back(0x44)}, {on(5, 1, 4), 0, "rrgrrrrr", api.Pre{}, back(0x40)}, {on(5, 1, 4), 0, "rrrrrrwr", api.Pre{}, back(0x04)}, {on(5, 1, 4), 0, "rrgrrrbr", api.Pre{}, back(0)}, {on(5, 1, 4), 0, "xxxxxxxx", api.Pre{}, back(0x44)}, {on(5, 1, 4), 0, "rrsrrrsr", api.Pre{}, back(0)},
		{on(5, 1, 4), 0, "rrnrrrrr", on(5, 1, 5), api.Act{}}, {on(5, 1, 4), 0, "rrrrrrnr", on(5, 1, 5), api.Act{}}, {on(5, 1, 4), 0, "rrgrrrnr", on(5, 1, 5), api.Act{}}, {on(5, 1, 4), 0, "rryrrrrr", on(5, 1, 5), api.Act{}}, {on(5, 1, 4), 0, "rrcrrrrr", on(5, 1, 5), api.Act{}}, {on(5, 1, 4), 0, "rrrrrrcr", on(5, 1, 5), api.Act{}}, {on(5, 1, 4), 0, "rrgrrrgy", on(5, 1, 5), api.Act{}}, {on(5, 1, 4), 0, "crgrrrgr", on(5, 1, 5), api.Act{}}, {on(5, 1, 4), 0, "rgrrrgrr", on(5, 1, 5), api.Act{End: 0x22}}, {on(5, 1, 4), 0, "rgrrrwrr", on(5, 1, 5), api.Act{End: 0x02}}, {on(5, 1, 4), 0, "gggggggg", on(5, 1, 5), api.Act{End: 0xBB}},
		{on(5, 0, 4), 0, "rrrrrrrr", api.Pre{}, back(0x08)}, {on(5, 0, 4), 0, "rrrgrrrr", api.Pre{}, back(0)}, {on(5, 0, 4), 0, "rrgrrrrr", on(5, 0, 5), api.Act{End: 0x04}}, {on(5, 2, 4), 0, "rrrrrrrr", api.Pre{}, back(0x02)}, {on(5, 3, 4), 0, "grrrrrrr", api.Pre{}, back(0x10)}, {on(5, 3, 4), 0, "grrrrgrr", on(5, 3, 5), api.Act{End: 0x20}},
		{on(5, 1, 4), 2, "rrrrrrrr", on(0, 0, 0, 0, 1), back(0x44)}, {on(5, 1, 4, 0, 4, 1, 8), 14, "rrrrrrrr", on(0, 0, 0, 0, 5, 2, 9), back(0x44)}, {spent(on(5, 1, 4, 0, 9), 2), 2, "rrrrrrrr", spent(on(0, 0, 0, 0, 10), 2), back(0x44)}, {spent(on(5, 1, 4, 0, 9), 2), 0, "rrrrrrrr", api.Pre{}, back(0x44)}, {spent(on(5, 1, 4, 0, 9), 2), 2, "rgrrrgrr", spent(on(5, 1, 5, 0, 10), 2), api.Act{End: 0x22}},
		{on(5, 1, 5, 0, 5), 2, "rrrrrrrr", on(1, 1, 0, 0, 6), api.Act{}}, {on(5, 1, 5), 1, "rgrrrgrr", on(1, 0, 0, 1), api.Act{End: 0x22}}, {on(5, 1, 5, 0, 0, 2), 4, "rrrrrrrr", on(1, 2, 0, 0, 0, 3), api.Act{}}, {on(5, 1, 5, 0, 0, 0, 9), 8, "rrrrrrrr", on(1, 3, 0, 0, 0, 0, 10), api.Act{}}, {spent(on(5, 1, 5, 0, 9, 2), 2), 6, "rrrrrrrr", spent(on(1, 2, 0, 0, 10, 3), 2), api.Act{}},
	})
}

// P21.2: a rail that is ready takes over from every rail with a greater number, and, in Idle and Leave, from any; nothing else that would happen in the tick does.
func TestTakesOver(t *testing.T) {
	x := yard(t)
	for k := range x.Rails {
		x.Rails[k].Hold, x.Rails[k].Stay, x.Rails[k].Most = 100*min(x.Rails[k].Clear, 1), 100, 100
	}
	wellFormed(t, x)
	ready := held{1, 6, 3, 10}
	for _, stage := range append([]int{1, 2, 3, 4, 5}, others...) {
		for w := range 4 {
			for k := range 4 {
				var s api.Pre
				s.Stage, s.Which, s.Time, s.Held[k] = stage, w, 4, ready[k]-1
				took := on(1, k, 0)
				took.Held[k] = ready[k]
				end := []int{0xEE, 0x77, 0xBB, 0xFE}[k]
				if k < w || stage == 5 {
					step(t, x, s, 1<<k, all("g"), took, api.Act{End: end})
					step(t, x, s, 1<<k, all("w"), took, api.Act{Cut: end})
					step(t, x, s, 1<<k, all("r"), took, api.Act{})
					step(t, x, s, 1<<k, all("y"), took, api.Act{})
					s.Time = 200
					step(t, x, s, 1<<k, all("y"), took, api.Act{})
					continue
				}
				for _, letter := range []string{"y", "c"} {
					want := Lines(x, s, 1<<k)
					if want.Time = 5; stage == 2 && x.Rails[w].Clear > 0 || stage == 4 {
						want.Time = 4
					}
					if stage == 2 && x.Rails[w].Clear == 0 {
						want.Stage, want.Time = 3, 0
					}
					step(t, x, s, 1<<k, all(letter), want, api.Act{})
				}
			}
		}
	}
}

// P21.2: the line counts in the tick itself: as long as it is active for Delay ticks, nothing happens, and no longer than that.
func TestDelay(t *testing.T) {
	for _, delay := range []int{0, 1, 2, 9, 300, 9998, 9999} {
		x, s := yard(t), api.Pre{}
		x.Rails[2].Delay, x.Rails[2].Limit = delay, delay+1
		wellFormed(t, x)
		for i := range delay + 5 {
			s, _ = Step(x, s, 4, all("y"))
			if want := i + 1; s.Held[2] != want || (s.Stage == 1) != (want > delay) || Stuck(x, s) != (want > delay+1) {
				t.Fatalf("Delay %d: %+v in tick %d", delay, s, want)
			}
		}
		if s, _ = Step(x, s, 0, all("y")); s != on(1, 2, 5) {
			t.Errorf("Delay %d: %+v", delay, s)
		}
	}
}

// P21.2: Time is one more in each tick of a stage; in Track and in Dwell only while all phases of Clear, or of Dwell, are Green.
func TestTime(t *testing.T) {
	x := yard(t)
	for k := range x.Rails {
		x.Rails[k].Most = 0
	}
	wellFormed(t, x)
	for _, y := range [][2]int{
		{0, 1}, {1, 2}, {7, 8}, {9998, 9999}, {9999, 10000}, {10000, 10000}, {10001, 10000}, {1 << 32, 10000}, {math.MaxInt, 10000}, {-1, 1}, {-7, 1}, {-(1 << 32) + 3, 1}, {math.MinInt, 1},
	} {
		for w := range 4 {
			for _, stage := range append([]int{1, 3, 5}, others...) {
				step(t, x, on(stage, w, y[0]), 0, all("y"), on(stage, w, y[1]), api.Act{})
			}
			active := on(4, w, y[0])
			active.Held[w] = 1
			after := active
			after.Time, after.Held[w] = y[1], 2
			step(t, x, active, 1<<w, all("g"), after, api.Act{})
			after.Time = y[0]
			step(t, x, active, 1<<w, all("c"), after, api.Act{})
			if y[0] < 0 {
				step(t, x, on(2, w, y[0]), 0, all("g"), on(2, w, y[1]), api.Act{})
			}
			if y[0] < 0 && w > 0 {
				step(t, x, on(2, w, y[0]), 0, all("c"), on(2, w, y[0]), api.Act{})
			}
		}
	}
}

// P21.2: in Track and Dwell each phase of the rail counts, and no other, and only Green does.
func TestTimeGreen(t *testing.T) {
	x := yard(t)
	for w, r := range x.Rails {
		for p := range 8 {
			for _, colour := range append([]int{0, 1, 2, 3, 4, 5}, others...) {
				l := all("g")
				l[p].Colour, l[p].Time = colour, 0
				for stage, own := range map[int]int{2: r.Clear, 4: r.Dwell} {
					if w == 0 && stage == 2 {
						continue
					}
					s := on(stage, w, 0)
					s.Held[w] = 3
					want := s
					if want.Held[w], want.Time = 4, 1; own>>p&1 == 1 && colour != 1 {
						want.Time = 0
					}
					step(t, x, s, 1<<w, l, want, api.Act{})
				}
			}
		}
	}
}

// P21.2: a phase holds up the stage unless it is Red, or none of the Colours; those that may be lit, and those only, do not. Phases that are not On belong to it, too.
func TestColours(t *testing.T) {
	x := yard(t)
	x.Phases[4].On, x.Phases[6].On = false, false
	x.Groups = [][2][]int{{{0, 1}, {5}}, {{2, 3}, {7}}}
	x.Rails = []api.Rail{{Dwell: 0x21, Exit: 0x08, Green: 7, Stay: 5, Limit: 50}, {Clear: 0x88, Dwell: 0x22, Exit: 0x84, Green: 20, Hold: 9, Stay: 9, Limit: 40}}
	wellFormed(t, x)
	for w, r := range x.Rails {
		for p := range 8 {
			for _, colour := range append([]int{0, 1, 2, 3, 4, 5}, others...) {
				red := colour < 1 || colour > 3
				l := all("r")
				l[p].Colour, l[p].Time = colour, 6
				target, entered := r.Clear, 2
				if w == 0 {
					target, entered = r.Dwell, 4
				}
				for _, y := range []struct{ stage, own, next int }{{1, target, entered}, {3, r.Dwell, 4}, {5, r.Exit, 0}} {
					want, which := y.next, w
					if y.stage == 5 {
						which = 0
					}
					free := y.own>>p&1 == 1 && (y.stage != 5 || colour == 1)
					if !red && !free {
						want, which = y.stage, w
					}
					got, act := Step(x, on(y.stage, w, 2), 0, l)
					if got.Stage != want || got.Which != which || (got.Time == 3) != (want == y.stage) || act.Back != (want == 0) {
						t.Fatalf("rail %d, stage %d, phase %d of colour %d: %+v, %+v", w, y.stage, p, colour, got, act)
					}
				}
			}
		}
	}
}

// P21.2: each phase of Exit must have been Red for Revert ticks; the others need not.
func TestLeaveRevert(t *testing.T) {
	for _, y := range []struct{ revert, time, start int }{
		{0, 0, 1}, {0, 1, 1}, {0, -1, 0}, {0, math.MinInt, 0}, {1, 0, 0}, {1, 1, 1}, {6, 5, 0}, {6, 6, 1}, {6, 7, 1}, {9999, 9998, 0}, {9999, 9999, 1}, {9999, 10000, 1}, {6, 1 << 32, 1}, {6, -(1 << 32) + 7, 0}, {6, math.MaxInt, 1},
	} {
		for w := range 4 {
			for p := range 8 {
				x, l := yard(t), all("r")
				x.Revert = y.revert
				for q := range l {
					l[q].Time = 10000
				}
				l[p].Time = y.time
				if exit := x.Rails[w].Exit; exit>>p&1 == 0 || y.start == 1 {
					step(t, x, on(5, w, 3), 0, l, api.Pre{}, api.Act{Start: exit, Back: true})
				} else {
					step(t, x, on(5, w, 3), 0, l, on(5, w, 4), api.Act{})
				}
				l[p].Colour = 1
				if exit := x.Rails[w].Exit; exit>>p&1 == 1 {
					step(t, x, on(5, w, 3), 0, l, api.Pre{}, api.Act{Start: exit - 1<<p, Back: true})
				}
			}
		}
	}
}

// act checks what is done in a stage that does not change in the tick: the runs have to see to that.
func act(t *testing.T, x api.Table, stage, w int, l lit, want api.Act) {
	t.Helper()
	s := on(stage, w, -5)
	got, do := Step(x, s, 0, l)
	if got.Stage != stage || do != want {
		t.Fatalf("rail %d, stage %d, Revert %d, %+v:\n\t%+v, %+v, want %+v", w, stage, x.Revert, l, got, do, want)
	}
}

// holding are runs like that of the letter, but for a phase q that is in no set of the rail and yellow, so that no stage is over.
func holding(x api.Table, w int, letter string) (l lit, q int) {
	l = all(letter)
	for q = range l {
		if r := x.Rails[w]; (r.Clear|r.Dwell|r.Exit)>>q&1 == 0 {
			break
		}
	}
	l[q] = api.Run{Colour: 2, Time: 3}
	return l, q
}

// P21.3: in Entry a green time ends that is not in the target, if it has lasted for at least the Green of the rail.
func TestEndGreen(t *testing.T) {
	for w := range 4 {
		for p := range 8 {
			for _, y := range [][3]int{{1, 0, 0}, {1, 1, 1}, {7, 6, 0}, {7, 7, 1}, {7, 8, 1}, {9999, 9998, 0}, {9999, 9999, 1}, {9999, 10000, 1}, {7, -1, 0}, {7, math.MinInt, 0}, {7, math.MaxInt, 1}, {7, 1 << 32, 1}, {7, -(1 << 32) + 9, 0}} {
				x := yard(t)
				for k := range x.Rails {
					x.Rails[k].Green = 50
				}
				x.Rails[w].Green = y[0]
				wellFormed(t, x)
				l, q := holding(x, w, "r")
				if p == q {
					continue
				}
				target := []int{0x11, 0x88, 0x44, 0x01}[w]
				l[p] = api.Run{Colour: 1, Time: y[1]}
				act(t, x, 1, w, l, api.Act{End: y[2] << p &^ target})
				act(t, x, 3, w, l, api.Act{End: 1 << p &^ x.Rails[w].Dwell})
			}
		}
	}
}

// P21.3: in Entry and Between a walk is cut, and a green time ends when those on foot have had the Foot of the rail, or more.
func TestEndFoot(t *testing.T) {
	for _, y := range []struct{ state, time, foot, end, cut int }{
		{0, 0, 9, 1, 0}, {0, 5, 9, 1, 0}, {1, 0, 0, 0, 1}, {1, 5, 0, 0, 1}, {1, 10000, 9, 0, 1}, {1, math.MinInt, 9, 0, 1}, {2, 0, 0, 1, 0}, {2, -1, 0, 0, 0}, {2, 1, 0, 1, 0}, {2, 0, 1, 0, 0}, {2, 1, 1, 1, 0}, {2, 8, 9, 0, 0}, {2, 9, 9, 1, 0}, {2, 10, 9, 1, 0}, {2, 9998, 9999, 0, 0}, {2, 9999, 9999, 1, 0}, {2, 10000, 9999, 1, 0}, {2, math.MinInt, 9, 0, 0}, {2, math.MaxInt, 9, 1, 0}, {2, -(1 << 32) + 9, 9, 0, 0},
		{3, 0, 9, 1, 0}, {-1, 0, 9, 1, 0}, {math.MinInt, 0, 9, 1, 0}, {257, 0, 9, 1, 0}, {258, 0, 9, 1, 0}, {1<<32 + 1, 0, 9, 1, 0}, {1<<32 + 2, 0, 9, 1, 0},
	} {
		for w := range 4 {
			for p := range 8 {
				x := yard(t)
				for k := range x.Rails {
					x.Rails[k].Foot = 5
				}
				x.Rails[w].Foot = y.foot
				wellFormed(t, x)
				l, q := holding(x, w, "r")
				if p == q {
					continue
				}
				l[p] = api.Run{Colour: 1, Time: 60, Foot: api.Foot{State: y.state, Time: y.time}}
				target, dwell := []int{0x11, 0x88, 0x44, 0x01}[w], []int{0x11, 0x22, 0x84, 0x21}[w]
				act(t, x, 1, w, l, api.Act{End: y.end << p &^ target, Cut: y.cut << p &^ target})
				act(t, x, 3, w, l, api.Act{End: y.end << p &^ dwell, Cut: y.cut << p &^ dwell})
				act(t, x, 2, max(w, 1), l, startOf(x, 2, max(w, 1), l))
				act(t, x, 4, w, l, startOf(x, 4, w, l))
			}
		}
	}
}

// startOf is what begins in Track and Dwell; nothing is cut there, and nothing ends.
func startOf(x api.Table, stage, w int, l lit) api.Act {
	own, a := x.Rails[w].Dwell, api.Act{}
	if stage == 2 {
		own = x.Rails[w].Clear
	}
	for p := range 8 {
		if may := own>>p&1 == 1 && wordedRed(l[p]) && l[p].Time >= x.Revert; may {
			for q := range 8 {
				may = may && (x.Conflict[p]>>q&1 == 0 || wordedRed(l[q]))
			}
			if may {
				a.Start += 1 << p
			}
		}
	}
	return a
}

// P21.3: what is cut need not be green; what is not Green does not end.
func TestEndColours(t *testing.T) {
	x := yard(t)
	for w := range 4 {
		for p := range 8 {
			for _, colour := range append([]int{0, 1, 2, 3, 4, 5}, others...) {
				for foot := range 3 {
					l, q := holding(x, w, "r")
					if p == q {
						continue
					}
					l[p] = api.Run{Colour: colour, Time: 9999, Foot: api.Foot{State: foot, Time: 9999}}
					target, dwell, exit := []int{0x11, 0x88, 0x44, 0x01}[w], []int{0x11, 0x22, 0x84, 0x21}[w], []int{0x08, 0x44, 0x02, 0x11}[w]
					var cut, end, leave int
					if foot == 1 {
						cut = 1 << p
					} else if colour == 1 {
						end = 1 << p
					}
					if foot == 0 && colour == 1 {
						leave = 1 << p
					}
					act(t, x, 1, w, l, api.Act{End: end &^ target, Cut: cut &^ target})
					act(t, x, 3, w, l, api.Act{End: end &^ dwell, Cut: cut &^ dwell})
					act(t, x, 5, w, l, api.Act{End: leave &^ exit})
				}
			}
		}
	}
}

// P21.3: in Leave a green time ends that is not in Exit, if it has lasted for at least the Min of its phase, and nobody is on foot.
func TestEndLeave(t *testing.T) {
	for _, y := range []struct{ min, time, state, end int }{
		{1, 0, 0, 0}, {1, 1, 0, 1}, {9, 8, 0, 0}, {9, 9, 0, 1}, {9, 10, 0, 1}, {9999, 9998, 0, 0}, {9999, 9999, 0, 1}, {9999, 10000, 0, 1}, {9, -1, 0, 0}, {9, math.MinInt, 0, 0}, {9, math.MaxInt, 0, 1}, {9, 1 << 32, 0, 1}, {9, -(1 << 32) + 9, 0, 0},
		{9, 9, 1, 0}, {9, 9, 2, 0}, {9, 9999, 1, 0}, {9, 9999, 2, 0}, {9, 9, 3, 1}, {9, 9, -1, 1}, {9, 9, 257, 1}, {9, 9, 258, 1}, {9, 9, math.MinInt, 1}, {9, 9, 1<<32 + 2, 1}, {9, 8, 3, 0},
	} {
		for w := range 4 {
			for p := range 8 {
				x := yard(t)
				for q := range x.Phases {
					x.Phases[q].Min, x.Phases[q].Max, x.Phases[q].Top = 50, 9999, 9999
				}
				x.Phases[p].Min = y.min
				wellFormed(t, x)
				l, q := holding(x, w, "r")
				if p == q {
					continue
				}
				for _, time := range []int{0, 1, 40, 9999, math.MaxInt} {
					l[p] = api.Run{Colour: 1, Time: y.time, Foot: api.Foot{State: y.state, Time: time}}
					act(t, x, 5, w, l, api.Act{End: y.end << p &^ []int{0x08, 0x44, 0x02, 0x11}[w]})
				}
			}
		}
	}
}

// P21.3: in Track and Dwell a phase of Clear, or of Dwell, begins when it has been Red for at least Revert ticks.
func TestStartRevert(t *testing.T) {
	for _, y := range []struct{ revert, time, start int }{
		{0, 0, 1}, {0, 1, 1}, {0, -1, 0}, {0, math.MinInt, 0}, {1, 0, 0}, {1, 1, 1}, {6, 5, 0}, {6, 6, 1}, {6, 7, 1}, {9999, 9998, 0}, {9999, 9999, 1}, {9999, 10000, 1}, {6, 1 << 32, 1}, {6, -(1 << 32) + 7, 0}, {6, math.MaxInt, 1},
	} {
		for w := range 4 {
			for p := range 8 {
				x, l := yard(t), all("r")
				x.Revert = y.revert
				for q := range l {
					l[q].Time = y.revert - 1
				}
				l[p].Time = y.time
				act(t, x, 2, w, l, api.Act{Start: y.start << p & []int{0, 0x88, 0x44, 0x01}[w]})
				act(t, x, 4, w, l, api.Act{Start: y.start << p & []int{0x11, 0x22, 0x84, 0x21}[w]})
			}
		}
	}
}

// P21.3: in Track and Dwell a phase begins only from Red, and only while all of its Conflict are Red, or of no Colour, whether these are On or not.
func TestStartConflict(t *testing.T) {
	for _, off := range []bool{false, true} {
		for w := range 4 {
			for p := range 8 {
				x := yard(t)
				if own := x.Rails[w]; off && (own.Clear|own.Dwell|own.Exit)>>p&1 == 0 {
					x.Rails = []api.Rail{own, own, own, own}
					for k := range x.Rails {
						x.Rails[k].Bars = 0
					}
					x.Phases[p].On = false
					for g, rows := range x.Groups {
						for i, row := range rows {
							x.Groups[g][i] = slices.DeleteFunc(row, func(q int) bool { return q == p })
						}
					}
					wellFormed(t, x)
				}
				for _, colour := range append([]int{0, 1, 2, 3, 4, 5}, others...) {
					l := all("r")
					l[p].Colour = colour
					for stage, own := range map[int]int{2: x.Rails[w].Clear, 4: x.Rails[w].Dwell} {
						want := 0
						for q := range 8 {
							if own>>q&1 == 1 && (colour < 1 || colour > 3 || p != q && (p&2 == q&2 && p&4 != q&4)) {
								want += 1 << q
							}
						}
						act(t, x, stage, w, l, api.Act{Start: want})
					}
				}
			}
		}
	}
}

// P21.3: a phase does not begin for the sake of what conflicts with another one; that which conflicts by its own Conflict counts.
func TestStartOwnConflict(t *testing.T) {
	x := yard(t)
	x.Conflict = [8]int{}
	wellFormed(t, x)
	act(t, x, 4, 1, runs("grgggrgg"), api.Act{Start: 0x22})
	x.Conflict[1], x.Conflict[3] = 8, 2
	wellFormed(t, x)
	act(t, x, 4, 1, runs("grgggrgg"), api.Act{Start: 0x20})
	act(t, x, 4, 1, runs("grgrgrgg"), api.Act{Start: 0x22})
	act(t, x, 2, 1, runs("grgrgrgr"), api.Act{Start: 0x88})
	act(t, x, 2, 1, runs("gggrgrgr"), api.Act{Start: 0x80})
}

// P21.2: a Stage that is none lasts, until a rail with a smaller number is ready, and nothing is done in it.
func TestOtherStages(t *testing.T) {
	x := yard(t)
	for _, stage := range others {
		for w := range 4 {
			for _, letter := range []string{"r", "g", "w", "y", "x"} {
				step(t, x, on(stage, w, 7), 0, all(letter), on(stage, w, 8), api.Act{})
				step(t, x, on(stage, w, 9999, 0, 0, 0, 9), 8, all(letter), on(stage, w, 10000, 0, 0, 0, 10), api.Act{})
			}
			want, act := on(stage, w, 8, 1), api.Act{}
			if w > 0 {
				want, act = on(1, 0, 0, 1), api.Act{End: 0xEE}
			}
			step(t, x, on(stage, w, 7), 1, all("g"), want, act)
		}
	}
}

// The example of the chapter: without active rails the stage is Idle, and the phases are free.
func TestExample(t *testing.T) {
	x, s, act := yard(t), api.Pre{}, api.Act{}
	for i := range 50 {
		letter := []string{"r", "g", "y", "c", "w"}[i%5]
		if s, act = Step(x, s, 0, all(letter)); s != (api.Pre{}) || act != (api.Act{Free: true}) {
			t.Fatalf("%+v, %+v", s, act)
		}
	}
}

// wordedRed is whether a phase is Red in the sense of the Terms of DOC.md.
func wordedRed(r api.Run) bool {
	switch r.Colour {
	case 1, 2, 3:
		return false
	}
	return true
}

// has is whether bit k of s is set, by division.
func has(s, k int) bool {
	for range k {
		s = (s - s&1) / 2
	}
	return s%2 != 0
}

// args are the arguments of Step.
type args struct {
	x     api.Table
	s     api.Pre
	lines int
	l     lit
}

func (a args) every(rule func(p int) bool) bool {
	for p := range 8 {
		if !rule(p) {
			return false
		}
	}
	return true
}

func (a args) sum(rule func(p int) bool) int {
	n := 0
	for p := range 8 {
		if rule(p) {
			n += 1 << p
		}
	}
	return n
}

func wordedReady(x api.Table, s api.Pre) int {
	for k := 0; k < len(x.Rails) && k < 4; k++ {
		if s.Held[k] > x.Rails[k].Delay && !has(s.Spent, k) {
			return k
		}
	}
	return -1
}

func (a args) wordedLines() api.Pre {
	s := a.s
	s.Spent = 0
	for k := range 4 {
		was := s.Held[k]
		if was < 0 {
			was = 0
		} else if was > 1<<31-2 {
			was = 1<<31 - 2
		}
		if s.Held[k] = 0; k < len(a.x.Rails) && has(a.lines, k) {
			s.Held[k] = was + 1
			if has(a.s.Spent, k) {
				s.Spent += 1 << k
			}
		}
	}
	return s
}

// worded is P21.2 and P21.3.
func (a args) worded() (api.Pre, api.Act) {
	s := a.wordedLines()
	was, ready := s, wordedReady(a.x, s)
	var r api.Rail
	if s.Stage != 0 {
		r = a.x.Rails[s.Which]
	}
	target := r.Clear
	if target == 0 {
		target = r.Dwell
	}
	redBut := func(l int) bool { return a.every(func(p int) bool { return has(l, p) || wordedRed(a.l[p]) }) }
	green := func(l int) bool { return a.every(func(p int) bool { return !has(l, p) || a.l[p].Colour == 1 }) }
	active := has(a.lines, s.Which&3)
	changed := true
	switch {
	case ready >= 0 && (s.Stage == 0 || s.Stage == 5 || ready < s.Which):
		s.Stage, s.Which = 1, ready
	case s.Stage == 1 && redBut(target) && r.Clear != 0:
		s.Stage = 2
	case s.Stage == 1 && redBut(target):
		s.Stage = 4
	case s.Stage == 2 && s.Time >= r.Hold:
		s.Stage = 3
	case s.Stage == 3 && redBut(r.Dwell):
		s.Stage = 4
	case s.Stage == 4 && (!active && s.Time >= r.Stay || r.Most > 0 && s.Time >= r.Most):
		if active && !has(s.Spent, s.Which) {
			s.Spent += 1 << s.Which
		}
		s.Stage = 5
		if k := wordedReady(a.x, s); k >= 0 {
			s.Stage, s.Which = 1, k
		}
	case s.Stage == 5 && redBut(r.Exit) && a.every(func(p int) bool {
		return !has(r.Exit, p) || a.l[p].Colour == 1 || wordedRed(a.l[p]) && a.l[p].Time >= a.x.Revert
	}):
		s.Stage, s.Which, s.Time = 0, 0, 0
		return s, api.Act{Back: true, Start: a.sum(func(p int) bool { return has(r.Exit, p) && wordedRed(a.l[p]) })}
	default:
		changed = false
	}
	counts := !(was.Stage == 2 && !green(r.Clear)) && !(was.Stage == 4 && !green(r.Dwell))
	switch {
	case changed || s.Stage == 0:
		s.Time = 0
	case counts && s.Time < 0:
		s.Time = 1
	case counts && s.Time > 9999:
		s.Time = 10000
	case counts:
		s.Time++
	}
	return s, a.wordedAct(s)
}

// wordedAct is P21.3, but for Back.
func (a args) wordedAct(s api.Pre) api.Act {
	if s.Stage == 0 {
		return api.Act{Free: true}
	}
	r := a.x.Rails[s.Which]
	over := func(f api.Foot) bool { return f.State != 1 && f.State != 2 || f.State == 2 && f.Time >= r.Foot }
	begins := func(p int) bool {
		free := a.every(func(q int) bool { return !has(a.x.Conflict[p], q) || wordedRed(a.l[q]) })
		return wordedRed(a.l[p]) && a.l[p].Time >= a.x.Revert && free
	}
	switch s.Stage {
	case 1:
		target := r.Clear
		if target == 0 {
			target = r.Dwell
		}
		return api.Act{
			End: a.sum(func(p int) bool {
				return a.l[p].Colour == 1 && !has(target, p) && a.l[p].Time >= r.Green && over(a.l[p].Foot)
			}),
			Cut: a.sum(func(p int) bool { return !has(target, p) && a.l[p].Foot.State == 1 }),
		}
	case 3:
		return api.Act{
			End: a.sum(func(p int) bool { return a.l[p].Colour == 1 && !has(r.Dwell, p) && over(a.l[p].Foot) }),
			Cut: a.sum(func(p int) bool { return !has(r.Dwell, p) && a.l[p].Foot.State == 1 }),
		}
	case 2:
		return api.Act{Start: a.sum(func(p int) bool { return has(r.Clear, p) && begins(p) })}
	case 4:
		return api.Act{Start: a.sum(func(p int) bool { return has(r.Dwell, p) && begins(p) })}
	case 5:
		return api.Act{End: a.sum(func(p int) bool {
			foot := a.l[p].Foot.State
			return a.l[p].Colour == 1 && !has(r.Exit, p) && a.l[p].Time >= a.x.Phases[p].Min && foot != 1 && foot != 2
		})}
	}
	return api.Act{}
}

// pick is one of l.
func pick[T any](r *rand.Rand, l ...T) T { return l[r.Intn(len(l))] }

// near is a small number, or now and then one of the others.
func near(r *rand.Rand) int {
	if r.Intn(30) == 0 {
		return pick(r, append(others, 9998, 9999, 10000, api.MaxTick-1, api.MaxTick)...)
	}
	return r.Intn(10) - 1
}

// drawnTable is well-formed; some of its phases are not On.
func drawnTable(t testing.TB, r *rand.Rand) api.Table {
	n := pick(r, 1, 1, 2, 2, 3, 4)
	x := api.Table{Groups: make([][2][]int, n), Window: api.MaxTick, Share: r.Intn(30), Revert: r.Intn(6)}
	for i, p := range r.Perm(8)[:pick(r, n, n+r.Intn(9-n), 8, 8)] {
		g, side := i, r.Intn(2)
		if i >= n {
			g = r.Intn(n)
		}
		x.Groups[g][side] = append(x.Groups[g][side], p)
		x.Phases[p] = drawnPhase(r)
	}
	often := 1 + r.Intn(5)
	for p := range x.Phases {
		x.Flash[p] = api.FlashRed
		for q := range p {
			if !plan.Beside(x, p, q) && r.Intn(5) < often {
				x.Conflict[p] += 1 << q
				x.Conflict[q] += 1 << p
			}
		}
	}
	for range pick(r, 1, 1, 2, 3, 4, 4) {
		x.Rails = append(x.Rails, drawnRail(r, x))
	}
	wellFormed(t, x)
	return x
}

func drawnPhase(r *rand.Rand) api.Phase {
	x := api.Phase{On: true, Min: 1 + r.Intn(8), Gap: r.Intn(5), Step: 1 + r.Intn(5), Yellow: 10 + r.Intn(4), Red: r.Intn(4), Lock: r.Intn(2) == 0, Rest: r.Intn(3) == 0}
	x.Max = x.Min + r.Intn(12)
	x.Top = x.Max + r.Intn(12)
	if r.Intn(2) == 0 {
		x.Walk, x.Blinks = 1+r.Intn(6), 1+r.Intn(9)
	}
	return x
}

func drawnRail(r *rand.Rand, x api.Table) api.Rail {
	free := func(p, s int) bool { return x.Conflict[p]&s == 0 }
	beside := func(p, s int) bool {
		for q := range 8 {
			if has(s, q) && q != p && !plan.Beside(x, p, q) {
				return false
			}
		}
		return free(p, s)
	}
	y := api.Rail{Dwell: drawnSet(r, x, free), Exit: drawnSet(r, x, beside), Delay: r.Intn(5), Green: 1 + r.Intn(7), Foot: r.Intn(8), Stay: 1 + r.Intn(9), Limit: 5 + r.Intn(50)}
	if r.Intn(4) > 0 {
		y.Clear, y.Hold = drawnSet(r, x, free), 1+r.Intn(9)
	}
	if r.Intn(2) == 0 {
		y.Most = y.Stay + r.Intn(5)
	}
	y.Bars = r.Intn(256) & plan.On(x) &^ y.Dwell
	return y
}

// drawnSet has one phase that is On, or more, as far as the rule lets them be added.
func drawnSet(r *rand.Rand, x api.Table, rule func(p, s int) bool) int {
	s, most := 0, pick(r, 1, 2, 2, 4)
	for _, p := range r.Perm(8) {
		if x.Phases[p].On && rule(p, s) && most > 0 {
			s += 1 << p
			most--
		}
	}
	return s
}

// drawnRuns are phases in which the sets of the rails are often as they have to be.
func drawnRuns(r *rand.Rand, x api.Table) lit {
	var l lit
	rail := pick(r, x.Rails...)
	own, quiet := pick(r, rail.Clear, rail.Dwell, rail.Exit, 0, 255), r.Intn(2) == 0
	for p := range l {
		colour := pick(r, 0, 0, 0, 1, 1, 1, 2, 3, 4)
		if quiet {
			colour = 0
		}
		if has(own, p) && r.Intn(4) > 0 {
			colour = pick(r, 1, 1, 1, 0, 2)
		}
		if r.Intn(40) == 0 {
			colour = pick(r, others...)
		}
		l[p] = api.Run{Colour: colour, Time: pick(r, near(r), 100, 100), Foot: api.Foot{State: pick(r, 0, 0, 1, 2, 2, 3), Time: near(r)}}
	}
	return l
}

func drawn(r *rand.Rand, x api.Table) args {
	n := len(x.Rails)
	a := args{x: x, lines: r.Intn(16) & r.Intn(16), l: drawnRuns(r, x)}
	a.s = api.Pre{Stage: pick(r, 0, 1, 1, 2, 3, 3, 4, 4, 4, 5, 5, 5), Which: r.Intn(n), Time: near(r), Spent: r.Intn(16)}
	if r.Intn(40) == 0 {
		a.s.Stage = pick(r, others...)
	}
	if a.s.Stage == 0 {
		a.s.Which = pick(r, 0, 0, near(r))
	}
	for k := range a.s.Held {
		a.s.Held[k] = near(r) - 3
	}
	if r.Intn(4) == 0 {
		a.lines |= pick(r, aboveRails...)
		a.s.Spent |= pick(r, aboveRails...)
	}
	return a
}

// P21.1 to P21.3: over drawn well-formed tables and states; R4: and the same in a second call.
func TestWorded(t *testing.T) {
	r := rand.New(rand.NewSource(21))
	seen := map[[2]int]int{}
	times := map[string]int{}
	for range 3000 {
		x := drawnTable(t, r)
		for range 60 {
			a := drawn(r, x)
			want, act := a.worded()
			for range 2 {
				step(t, a.x, a.s, a.lines, a.l, want, act)
			}
			if got := Lines(a.x, a.s, a.lines); got != a.wordedLines() || Ready(a.x, got) != wordedReady(a.x, got) {
				t.Fatalf("Lines(%+v, %+v, %#x) = %+v", a.x.Rails, a.s, a.lines, got)
			}
			seen[[2]int{min(max(a.s.Stage, -1), 6), min(max(want.Stage, -1), 6)}]++
			for k, is := range map[string]bool{
				"start": act.Start != 0 && !act.Back, "end": act.End != 0, "cut": act.Cut != 0, "back": act.Back, "back with a start": act.Back && act.Start != 0, "free": act.Free,
				"spent": want.Spent&^a.s.Spent != 0, "taken over": a.s.Stage == 1 && want.Stage == 1 && want.Which < a.s.Which, "kept": want.Time == a.s.Time && (want.Stage == 2 || want.Stage == 4),
			} {
				if is {
					times[k]++
				}
			}
		}
	}
	for _, y := range [][2]int{{0, 0}, {0, 1}, {1, 1}, {1, 2}, {1, 4}, {2, 1}, {2, 2}, {2, 3}, {3, 1}, {3, 3}, {3, 4}, {4, 1}, {4, 4}, {4, 5}, {5, 0}, {5, 1}, {5, 5}, {6, 6}, {6, 1}, {-1, -1}, {-1, 1}} {
		if seen[y] < 50 {
			t.Errorf("drawn: from %d to %d %d times", y[0], y[1], seen[y])
		}
		delete(seen, y)
	}
	if len(seen) > 0 {
		t.Errorf("changes that P21.2 does not have: %v", seen)
	}
	for _, k := range []string{"start", "end", "cut", "back", "back with a start", "free", "spent", "taken over", "kept"} {
		if times[k] < 400 {
			t.Errorf("drawn: %q %d times", k, times[k])
		}
	}
}

// R4: nothing counts but what P21.1 to P21.3 name.
func TestOtherFields(t *testing.T) {
	r := rand.New(rand.NewSource(210))
	for range 400 {
		x := drawnTable(t, r)
		for range 30 {
			a := drawn(r, x)
			want, act := Step(a.x, a.s, a.lines, a.l)
			for p := range a.l {
				f, g := &a.x.Phases[p], &a.l[p]
				for _, n := range []*int{&f.Gap, &f.Max, &f.Top, &f.Step, &f.Yellow, &f.Red, &f.Walk, &f.Blinks, &f.Recall, &a.x.Flash[p], &g.Left, &g.Press, &g.Extra, &g.Trend.Limit, &g.Trend.Up, &g.Trend.Down} {
					*n = int(r.Uint64())
				}
				f.On, f.Lock, f.Rest, g.Done, g.Maxed = r.Intn(2) == 0, r.Intn(2) == 0, r.Intn(2) == 0, r.Intn(2) == 0, r.Intn(2) == 0
			}
			a.x.Rails = slices.Clone(a.x.Rails)
			for k := range a.x.Rails {
				a.x.Rails[k].Bars, a.x.Rails[k].Limit = int(r.Uint64()), int(r.Uint64())
			}
			a.x.Groups = [][2][]int{{{-1, 9}, {3}}}
			a.x.Detectors, a.x.Buses = []api.Detector{{Phase: -1}}, []api.Bus{{Set: 255}}
			a.x.Extend, a.x.Budget, a.x.Start, a.x.Least, a.x.Window, a.x.Share = -1, 1, -2, 3, -4, 5
			step(t, a.x, a.s, a.lines, a.l, want, act)
		}
	}
}

// R3: no call changes the list of rails, nor the memory behind its length; nil and an empty list are the same.
func TestKeepsLists(t *testing.T) {
	x := yard(t)
	memory := append(slices.Clone(x.Rails), api.Rail{Dwell: 3}, api.Rail{Exit: 4})
	was := slices.Clone(memory)
	for n := range memory {
		x.Rails = memory[:n]
		clone := table.Clone(x)
		for stage := range 7 {
			for _, letter := range []string{"r", "g", "w", "y"} {
				s := spent(on(stage, min(n, 1), 200, 9, 9, 9, 9), 6)
				Step(x, s, 11, all(letter))
				Lines(x, s, 11)
				Ready(x, s)
				Stuck(x, s)
			}
		}
		if !table.Same(x, clone) || !slices.Equal(memory, was) {
			t.Fatalf("the rails have become %+v", memory)
		}
	}
	for _, none := range [][]api.Rail{nil, {}} {
		x.Rails = none
		s := spent(on(0, 0, 5, 9, 9, 9, 9), 15)
		step(t, x, s, 15, all("g"), api.Pre{}, api.Act{Free: true})
		if Lines(x, s, 15) != on(0, 0, 5) || Ready(x, s) != -1 || Stuck(x, s) {
			t.Error("there are rails")
		}
	}
}

// R1: for all tables and states the calls end without a panic.
func TestBroken(t *testing.T) {
	r := rand.New(rand.NewSource(211))
	number := func() int { return pick(r, pick(r, others...), int(r.Uint64()), r.Intn(256), r.Intn(8)-1) }
	for range 30000 {
		x := api.Table{Revert: number(), Rails: make([]api.Rail, pick(r, 0, 1, 2, 3, 4, 4, 5, 6, 65))}
		for k := range x.Rails {
			x.Rails[k] = api.Rail{Bars: number(), Clear: number(), Dwell: number(), Exit: number(), Delay: number(), Green: number(), Foot: number(), Hold: number(), Stay: number(), Most: number(), Limit: number()}
		}
		var l lit
		for p := range l {
			x.Phases[p], x.Conflict[p] = api.Phase{On: r.Intn(2) == 0, Min: number()}, number()
			l[p] = api.Run{Colour: pick(r, 0, 1, number()), Time: number(), Foot: api.Foot{State: pick(r, 0, 1, 2, number()), Time: number()}}
		}
		s := api.Pre{Stage: pick(r, 0, 1, 2, 3, 4, 5, number()), Which: number(), Time: number(), Held: held{number(), number(), number(), number()}, Spent: number()}
		lines := number()
		if got := Lines(x, s, lines); got != (args{x: x, s: s, lines: lines}).wordedLines() || Ready(x, s) != wordedReady(x, s) {
			t.Fatalf("%+v, %+v, %#x: %+v, %d", x.Rails, s, lines, got, Ready(x, s))
		}
		Stuck(x, s)
		if _, act := Step(x, s, lines, l); (act.Start|act.End|act.Cut)&^255 != 0 {
			t.Fatalf("%+v, %+v: %+v", x, s, act)
		}
	}
}

// drive is an intersection with rails, which is driven by rings and phases.
type drive struct {
	x     api.Table
	r     api.Rings
	l     lit
	s     api.Pre
	act   api.Act
	calls int
	here  int
	lines int
	ticks [api.MaxRails]int  // since the last in which a rail that no smaller one hinders was not active, or -1
	stood [api.MaxRails]bool // whether the dwell of a rail was reached in that tick
	entry [api.MaxRails]int  // the ticks that it takes at most
}

func newDrive(t testing.TB, r *rand.Rand) *drive {
	d := &drive{x: drawnTable(t, r), r: api.Rings{At: [2]int{-1, -1}}}
	for k := range d.x.Rails {
		d.x.Rails[k].Limit = api.MaxTick
	}
	bounds, f := bound.All(d.x)
	if f != (api.Fault{}) {
		t.Fatalf("%+v is not accepted: %v", d.x, f)
	}
	d.entry = bounds.Entry
	for k := range d.ticks {
		d.ticks[k] = -1
	}
	for p := range d.l {
		d.l[p] = phase.Begin(d.x.Phases[p])
	}
	return d
}

// tick is a tick of the engine, but for detectors and buses. It reports whether a rail that began to be active has come to its dwell.
func (d *drive) tick(t *testing.T, r *rand.Rand) int {
	t.Helper()
	d.here ^= 1 << r.Intn(50) & plan.On(d.x)
	d.calls |= (d.here | 1<<r.Intn(50)) & plan.On(d.x)
	for p := range d.l {
		if d.l[p].Colour == 1 {
			d.calls &^= 1 << p
		}
	}
	was := d.s
	d.s, d.act = Step(d.x, d.s, d.lines, d.l)
	want := d.calls | d.here
	start, end, press := d.act.Start, d.act.End, 0
	if d.act.Free {
		press = ring.Pressed(d.x, d.r, d.l, want)
		d.r, start, end = ring.Step(d.x, d.r, d.l, want)
	}
	if d.act.Back {
		d.r = ring.Put(d.x, d.x.Rails[was.Which].Exit)
	}
	for p := range d.l {
		c := api.Cue{Start: has(start, p), End: has(end, p), Here: has(d.here, p), Pressed: has(press, p), Cut: has(d.act.Cut, p), Push: d.act.Free && r.Intn(9) == 0}
		d.l[p] = phase.Step(d.x.Phases[p], d.l[p], c)
	}
	return d.timed(t)
}

// timed counts the ticks that T3 speaks of. The first of them is the one before the line becomes active: if Most is Stay, a dwell may end with the next one, and its rail is Spent then.
func (d *drive) timed(t *testing.T) int {
	t.Helper()
	served := 0
	for k, r := range d.x.Rails {
		smaller := d.lines&(1<<k-1) != 0 || d.s.Stage != 0 && d.s.Which < k
		switch {
		case d.s.Held[k] == 0 || smaller:
			d.ticks[k] = -1
		case d.s.Held[k] == 1:
			d.ticks[k] = 1
		case d.ticks[k] >= 0:
			d.ticks[k]++
		}
		stands := d.stands(r.Dwell)
		if d.ticks[k] >= 0 && stands || d.ticks[k] == 1 && d.stood[k] {
			d.ticks[k] = -1
			served++
		}
		d.stood[k] = stands
		if d.ticks[k] > d.entry[k] {
			t.Fatalf("%+v: rail %d has been active for %d ticks, and its entry takes %d at most: %+v, %+v", d.x, k, d.ticks[k], d.entry[k], d.s, d.l)
		}
	}
	return served
}

// stands is whether these phases are green, and all others show red.
func (d *drive) stands(dwell int) bool {
	for p, r := range d.l {
		if has(dwell, p) && r.Colour != 1 || !has(dwell, p) && r.Colour != 0 && r.Colour != 3 {
			return false
		}
	}
	return true
}

// P21.2, P21.3, as far as T3 and T2 hang on them: a rail that no smaller one hinders comes to its dwell within its Entry; its Exit comes first behind it; of two phases that conflict, one is always Red.
func TestDriven(t *testing.T) {
	r := rand.New(rand.NewSource(214))
	served, backs, spents := 0, 0, 0
	for range 600 {
		d, often := newDrive(t, r), pick(r, 10, 40, 150)
		for range 1500 {
			if r.Intn(often) == 0 {
				d.lines ^= 1 << r.Intn(4)
			}
			was := d.s
			served += d.tick(t, r)
			if was.Stage == 5 && d.s.Stage == 5 && d.act.Start != 0 {
				t.Fatalf("%+v begins between the dwell and its exit", d.act)
			}
			if d.act.Back {
				backs++
				for p, y := range d.l {
					if exit := d.x.Rails[was.Which].Exit; has(exit, p) != (y.Colour == 1) || !has(exit, p) && !wordedRed(y) {
						t.Fatalf("behind rail %d: %+v", was.Which, d.l)
					}
				}
			}
			if d.s.Spent != 0 {
				spents++
			}
			d.safe(t)
		}
	}
	if served < 3000 || backs < 2000 || spents < 2000 {
		t.Errorf("drawn: %d served, %d times back, spent for %d ticks", served, backs, spents)
	}
}

func (d *drive) safe(t *testing.T) {
	t.Helper()
	for p := range d.l {
		for q := range d.l {
			if has(d.x.Conflict[p], q) && !wordedRed(d.l[p]) && !wordedRed(d.l[q]) {
				t.Fatalf("%+v: neither %d nor %d is Red", d.x, p, q)
			}
		}
	}
}

// P21.2, P21.3: a whole preempt of a rail with a track, each stage for its ticks.
func TestWhole(t *testing.T) {
	d := &drive{x: yard(t), lines: 2, r: api.Rings{At: [2]int{0, 0}}}
	d.x.Rails[1].Most = 0
	for p := range d.l {
		d.l[p] = phase.Begin(d.x.Phases[p])
	}
	d.l[0], d.l[5] = runs("g")[0], runs("w")[0]
	type part struct{ stage, ticks int }
	var got []part
	for i := range 400 {
		d.lines = 2
		if i >= 200 {
			d.lines = 0
		}
		d.s, d.act = Step(d.x, d.s, d.lines, d.l)
		if len(got) == 0 || got[len(got)-1].stage != d.s.Stage {
			got = append(got, part{stage: d.s.Stage})
		}
		got[len(got)-1].ticks++
		for p := range d.l {
			d.l[p] = phase.Step(d.x.Phases[p], d.l[p], api.Cue{Start: has(d.act.Start, p), End: has(d.act.End, p), Cut: has(d.act.Cut, p)})
		}
		if d.act.Back {
			break
		}
	}
	// Entry: a tick in which the walk is cut, 30 in which it blinks, 10 of yellow and 2 of red clearance. Track: one in which it begins, and 100. Between: one in which it ends, 12. Dwell: likewise, and its Stay; Leave: likewise.
	want := []part{{0, 5}, {1, 42}, {2, 101}, {3, 13}, {4, 101}, {5, 13}, {0, 1}}
	if !slices.Equal(got, want) {
		t.Errorf("%v, want %v", got, want)
	}
	if !d.stands(0x44) {
		t.Errorf("%+v", d.l)
	}
}

// R4: two states go on independently of each other.
func TestIndependent(t *testing.T) {
	x := yard(t)
	letters := []string{"r", "g", "y", "r", "c"}
	var a, b api.Pre
	for i := range 60 {
		a, _ = Step(x, a, i%3, all(letters[i%5]))
		b, _ = Step(x, b, i%16, all(letters[i%4]))
	}
	var c, d api.Pre
	for i := range 60 {
		d, _ = Step(x, d, i%16, all(letters[i%4]))
	}
	for i := range 60 {
		c, _ = Step(x, c, i%3, all(letters[i%5]))
	}
	if a != c || b != d {
		t.Errorf("%+v, %+v; %+v, %+v", a, b, c, d)
	}
}
