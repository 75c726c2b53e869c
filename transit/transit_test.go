package transit

import (
	"math"
	"math/rand"
	"slices"
	"testing"

	"crossbuck/api"
	"crossbuck/bound"
	"crossbuck/phase"
	"crossbuck/ring"
	"crossbuck/table"
)

type (
	locks = [api.MaxBuses]int
	lit   = [api.Phases]api.Run
)

// others are numbers that are no Colour: beside these, and those that a narrower number, a remainder, or a sum that wraps round takes for one.
var others = []int{
	math.MinInt, math.MinInt + 1, math.MinInt32, -(1 << 32), -(1 << 32) + 1, -256, -255, -2, -1,
	4, 5, 8, 9, 255, 256, 257, 1 << 16, 1<<16 + 1, math.MaxInt32, 1 << 32, 1<<32 + 1, 1 << 62, math.MaxInt - 1, math.MaxInt,
}

// aboveBuses and abovePhases are bits that are of no bus, and of no phase.
var (
	aboveBuses  = []int{0, 1 << 4, 1 << 5, 0xF0, 0xFF00, 1 << 31, 1 << 32, 0xF << 32, 1 << 62, math.MaxInt &^ 15, math.MinInt, -16}
	abovePhases = []int{0, 1 << 8, 1 << 9, 0xFF00, 1 << 31, 1 << 32, 0xFF << 32, 1 << 62, math.MaxInt &^ 255, math.MinInt, -256}
)

// town has four buses; those with the numbers 0 and 1 share phase 1.
func town() api.Table {
	return api.Table{Buses: []api.Bus{{Set: 0x03, Lock: 5}, {Set: 0x06, Lock: 1}, {Set: 0x90, Lock: 9999}, {Set: 0x40, Lock: 2}}, Extend: 10, Budget: 20}
}

// greens are runs in which these phases are Green, and all others are Red.
func greens(s int) lit {
	var l lit
	for p := range l {
		l[p].Colour = s >> p & 1
	}
	return l
}

func live(t *testing.T, x api.Table, s api.Ride, ask, want int) {
	t.Helper()
	if got := Live(x, s, ask); got != want {
		t.Fatalf("Live(%+v, %+v, %#x) = %#x, want %#x", x.Buses, s, ask, got, want)
	}
}

func hold(t *testing.T, x api.Table, s api.Ride, l lit, ask, want int) {
	t.Helper()
	if got := Hold(x, s, l, ask); got != want {
		t.Fatalf("Hold(%+v, Extend %d, Budget %d, %+v,\n\t%+v, %#x) = %#x, want %#x", x.Buses, x.Extend, x.Budget, s, l, ask, got, want)
	}
}

func early(t *testing.T, x api.Table, s api.Ride, l lit, ask, want int) {
	t.Helper()
	if got := Early(x, s, l, ask); got != want {
		t.Fatalf("Early(%+v, %+v,\n\t%+v, %#x) = %#x, want %#x", x.Buses, s, l, ask, got, want)
	}
}

func step(t *testing.T, x api.Table, s api.Ride, ask int, held, round bool, want api.Ride) {
	t.Helper()
	if got := Step(x, s, ask, held, round); got != want {
		t.Fatalf("Step(%+v, %+v, %#x, %t, %t) = %+v, want %+v", x.Buses, s, ask, held, round, got, want)
	}
}

// P20.1: a bus is live if it asks and its own Lock is not above 0; Was and Spent do not count.
func TestLive(t *testing.T) {
	for _, y := range []struct {
		lock      locks
		ask, want int
	}{
		{locks{}, 0, 0}, {locks{}, 1, 1}, {locks{}, 2, 2}, {locks{}, 4, 4}, {locks{}, 8, 8}, {locks{}, 6, 6}, {locks{}, 9, 9}, {locks{}, 15, 15},
		{locks{1}, 15, 14}, {locks{0, 1}, 15, 13}, {locks{0, 0, 1}, 15, 11}, {locks{0, 0, 0, 1}, 15, 7}, {locks{1, 1, 1, 1}, 15, 0}, {locks{1, 0, 0, 1}, 5, 4}, {locks{0, 1, 1}, 9, 9}, {locks{0, 5}, 2, 0}, {locks{5, 5, 0, 5}, 0, 0},
		{locks{-1, 1, -1, 1}, 15, 5}, {locks{math.MinInt, math.MaxInt, -(1 << 32), 1 << 32}, 15, 5}, {locks{1 << 32, 1 << 62, 256, 1 << 16}, 15, 0}, {locks{-1, -256, math.MinInt + 1, -9999}, 15, 15},
	} {
		for _, high := range aboveBuses {
			live(t, town(), api.Ride{Lock: y.lock}, y.ask|high, y.want)
			live(t, town(), api.Ride{Lock: y.lock, Was: 15 ^ y.ask, Spent: 99}, y.ask|high, y.want)
			live(t, town(), api.Ride{Lock: y.lock, Was: -1, Spent: math.MinInt}, y.ask|high, y.want)
		}
	}
}

// P20.1, R3: buses that the table does not have are ignored; so are those beyond MaxBuses, which a Ride has no place for (R1).
func TestLiveBuses(t *testing.T) {
	for _, n := range []int{0, 1, 2, 3, 4, 5, 6, 8, 9, 63, 64, 65, 300} {
		x, want := api.Table{Buses: make([]api.Bus, n)}, []int{0, 1, 3, 7, 15}[min(n, 4)]
		for _, ask := range []int{15, -1, math.MaxInt} {
			live(t, x, api.Ride{}, ask, want)
			live(t, x, api.Ride{Lock: locks{1, 1, 1, 1}}, ask, 0)
			live(t, x, api.Ride{Lock: locks{0, 1, 0, 1}}, ask, want&5)
		}
		for k := range 64 {
			live(t, x, api.Ride{}, 1<<k, want&(1<<k))
		}
	}
}

// P20.1: what is green is held for the live buses that have it in their Set.
func TestHold(t *testing.T) {
	x := town()
	for _, y := range []struct {
		lock             locks
		green, ask, want int
	}{
		{locks{}, 0xFF, 0, 0}, {locks{}, 0xFF, 1, 0x03}, {locks{}, 0xFF, 2, 0x06}, {locks{}, 0xFF, 4, 0x90}, {locks{}, 0xFF, 8, 0x40}, {locks{}, 0xFF, 3, 0x07}, {locks{}, 0xFF, 5, 0x93}, {locks{}, 0xFF, 12, 0xD0}, {locks{}, 0xFF, 15, 0xD7},
		{locks{}, 0x01, 15, 0x01}, {locks{}, 0x02, 15, 0x02}, {locks{}, 0x28, 15, 0}, {locks{}, 0xA9, 15, 0x81}, {locks{}, 0, 15, 0}, {locks{}, 0x44, 1, 0}, {locks{}, 0x44, 9, 0x40}, {locks{}, 0x11, 2, 0}, {locks{}, 0x12, 6, 0x12},
		{locks{1}, 0xFF, 15, 0xD6}, {locks{0, 1}, 0xFF, 15, 0xD3}, {locks{1, 1}, 0xFF, 15, 0xD0}, {locks{0, 0, 1}, 0xFF, 15, 0x47}, {locks{0, 0, 0, 1}, 0xFF, 15, 0x97}, {locks{1, 1, 1, 1}, 0xFF, 15, 0}, {locks{9}, 0xFF, 1, 0}, {locks{-9}, 0xFF, 1, 0x03},
	} {
		for _, high := range aboveBuses {
			hold(t, x, api.Ride{Lock: y.lock}, greens(y.green), y.ask|high, y.want)
			hold(t, x, api.Ride{Lock: y.lock, Was: 15 ^ y.ask, Spent: 19}, greens(y.green), y.ask|high, y.want)
		}
	}
}

// P20.1: nothing is held once Spent is at least Budget.
func TestHoldBudget(t *testing.T) {
	for _, y := range []struct {
		budget, spent int
		holds         bool
	}{
		{20, 0, true}, {20, 19, true}, {20, 20, false}, {20, 21, false}, {20, math.MaxInt, false}, {20, -1, true}, {20, math.MinInt, true}, {20, 1 << 32, false}, {20, -(1 << 32) + 20, true},
		{0, 0, false}, {0, -1, true}, {0, 1, false}, {1, 0, true}, {1, 1, false}, {9999, 9998, true}, {9999, 9999, false}, {9999, 10000, false},
		{-5, -5, false}, {-5, -6, true}, {-5, 0, false}, {math.MinInt, math.MinInt, false}, {math.MaxInt, math.MaxInt - 1, true}, {math.MaxInt, math.MaxInt, false}, {math.MaxInt, math.MinInt, true}, {math.MinInt, math.MaxInt, false}, {1 << 32, 5, true},
	} {
		x, want := town(), 0
		if x.Budget = y.budget; y.holds {
			want = 0xD7
		}
		hold(t, x, api.Ride{Spent: y.spent}, greens(0xFF), 15, want)
	}
}

// P20.1: a phase is held only while its own Extra is below Extend.
func TestHoldExtend(t *testing.T) {
	for _, y := range []struct {
		extend, extra int
		holds         bool
	}{
		{10, 0, true}, {10, 9, true}, {10, 10, false}, {10, 11, false}, {10, math.MaxInt, false}, {10, -1, true}, {10, math.MinInt, true}, {10, 1 << 32, false}, {10, -(1 << 32) + 10, true},
		{0, 0, false}, {0, -1, true}, {0, 1, false}, {1, 0, true}, {1, 1, false}, {9999, 9998, true}, {9999, 9999, false}, {9999, 10000, false},
		{-5, -5, false}, {-5, -6, true}, {-5, 0, false}, {math.MinInt, math.MinInt, false}, {math.MaxInt, math.MaxInt - 1, true}, {math.MaxInt, math.MaxInt, false}, {math.MaxInt, math.MinInt, true}, {math.MinInt, math.MaxInt, false}, {1 << 32, 5, true},
	} {
		for p := range api.Phases {
			x, l, want := town(), greens(0xFF), 0
			for q := range l {
				l[q].Extra = math.MinInt
			}
			x.Extend, l[p].Extra = y.extend, y.extra
			if y.extend > math.MinInt {
				want = 0xD7 &^ (1 << p)
			}
			if y.holds {
				want |= 0xD7 & (1 << p)
			}
			hold(t, x, api.Ride{}, l, 15, want)
		}
	}
	x, l := town(), greens(0xFF)
	l[0].Extra, l[1].Extra, l[4].Extra, l[7].Extra = 10, 9, 11, -4
	hold(t, x, api.Ride{}, l, 15, 0xC6)
	hold(t, x, api.Ride{}, l, 1, 0x02)
	hold(t, x, api.Ride{}, l, 4, 0x80)
}

// P20.1: what no live bus has in its Set is asked to end early, if none of its Set is green: for each bus by itself.
func TestEarly(t *testing.T) {
	x := town()
	for _, y := range []struct {
		lock             locks
		green, ask, want int
	}{
		{locks{}, 0, 0, 0}, {locks{}, 0, 1, 0xFC}, {locks{}, 0, 2, 0xF9}, {locks{}, 0, 4, 0x6F}, {locks{}, 0, 8, 0xBF}, {locks{}, 0, 3, 0xFD}, {locks{}, 0, 5, 0xFF}, {locks{}, 0, 15, 0xFF},
		{locks{}, 0x01, 1, 0}, {locks{}, 0x02, 1, 0}, {locks{}, 0x03, 1, 0}, {locks{}, 0xFC, 1, 0xFC}, {locks{}, 0xFE, 1, 0}, {locks{}, 0x80, 4, 0}, {locks{}, 0x10, 4, 0}, {locks{}, 0x6F, 4, 0x6F}, {locks{}, 0xBF, 8, 0xBF}, {locks{}, 0x40, 8, 0},
		{locks{}, 0x01, 3, 0xF9}, {locks{}, 0x04, 3, 0xFC}, {locks{}, 0x02, 3, 0}, {locks{}, 0x28, 3, 0xFD}, {locks{}, 0x01, 5, 0x6F}, {locks{}, 0x10, 5, 0xFC}, {locks{}, 0x11, 5, 0}, {locks{}, 0x12, 15, 0xBF}, {locks{}, 0x52, 15, 0}, {locks{}, 0xFF, 15, 0},
		{locks{1}, 0, 15, 0xFF}, {locks{1}, 0, 1, 0}, {locks{1}, 0, 3, 0xF9}, {locks{0, 1}, 0, 3, 0xFC}, {locks{1, 1}, 0, 3, 0}, {locks{0, 1, 1, 1}, 0, 15, 0xFC}, {locks{0, 1, 1, 1}, 0x02, 15, 0}, {locks{1, 1, 0, 1}, 0x2F, 15, 0x6F}, {locks{-9, 9}, 0, 3, 0xFC},
	} {
		for _, high := range aboveBuses {
			early(t, x, api.Ride{Lock: y.lock}, greens(y.green), y.ask|high, y.want)
			early(t, x, api.Ride{Lock: y.lock, Was: 15 ^ y.ask}, greens(y.green), y.ask|high, y.want)
		}
	}
}

// P20.1: neither Budget nor Extend bounds what ends early.
func TestEarlyUnbounded(t *testing.T) {
	x := town()
	x.Budget, x.Extend = 0, 0
	for _, n := range append([]int{0, 1, 20, 9999, 10000}, others...) {
		l := greens(0xFC)
		for p := range l {
			l[p].Extra = n
		}
		early(t, x, api.Ride{Spent: n}, l, 1, 0xFC)
		early(t, x, api.Ride{Spent: n}, l, 2, 0)
		x.Budget, x.Extend = n, n
		early(t, x, api.Ride{Spent: n}, l, 1, 0xFC)
	}
}

// P20.1: only Green is green, whatever number the Colour is; whether the phase is On does not count.
func TestColours(t *testing.T) {
	for _, colour := range append([]int{api.Red, api.Yellow, api.Clear}, others...) {
		for p := range api.Phases {
			for _, on := range []bool{false, true} {
				x, l := api.Table{Buses: []api.Bus{{Set: 1 << p, Lock: 1}}, Extend: 1, Budget: 1}, greens(0xFF)
				x.Phases[p].On = on
				l[p].Colour = colour
				hold(t, x, api.Ride{}, l, 1, 0)
				early(t, x, api.Ride{}, l, 1, 0xFF&^(1<<p))
				l = lit{}
				l[p].Colour = api.Green
				hold(t, x, api.Ride{}, l, 1, 1<<p)
				early(t, x, api.Ride{}, l, 1, 0)
			}
		}
	}
}

// P20.1: a Set may be any number, of which the lowest eight bits count, as in package set: the results are sets of phases.
func TestSets(t *testing.T) {
	for _, high := range abovePhases {
		for _, s := range []int{0, 0x01, 0x28, 0x80, 0xFE, 0xFF} {
			x := api.Table{Buses: []api.Bus{{Set: s | high}}, Extend: 1, Budget: 1}
			hold(t, x, api.Ride{}, greens(0xFF), 1, s)
			hold(t, x, api.Ride{}, greens(0x0F), 1, s&0x0F)
			hold(t, x, api.Ride{}, greens(0), 1, 0)
			early(t, x, api.Ride{}, greens(0), 1, 0xFF-s)
			early(t, x, api.Ride{}, greens(0xFF-s), 1, 0xFF-s)
			if s != 0 {
				early(t, x, api.Ride{}, greens(s), 1, 0)
				early(t, x, api.Ride{}, greens(0xFF), 1, 0)
			}
			x.Buses = append(x.Buses, api.Bus{Set: 0x21})
			hold(t, x, api.Ride{}, greens(0xFF), 3, s|0x21)
			early(t, x, api.Ride{}, greens(0), 3, 0xFF-(s&0x21))
		}
	}
}

// P20.1: the buses that the table does not have are not asked for their Set.
func TestFewBuses(t *testing.T) {
	all := append(town().Buses, api.Bus{Set: 0x08, Lock: 1}, api.Bus{Set: 0x20, Lock: 1})
	for n, y := range [][2]int{{0, 0}, {0x03, 0xFC}, {0x07, 0xFD}, {0x97, 0xFF}, {0xD7, 0xFF}, {0xD7, 0xFF}, {0xD7, 0xFF}} {
		x := town()
		x.Buses = all[:n]
		hold(t, x, api.Ride{}, greens(0xFF), -1, y[0])
		early(t, x, api.Ride{}, greens(0), -1, y[1])
		early(t, x, api.Ride{}, greens(0xFF), -1, 0)
	}
	x := town()
	x.Buses = all
	hold(t, x, api.Ride{}, greens(0xFF), 0x30, 0)
	early(t, x, api.Ride{}, greens(0), 0x30, 0)
}

// P20.2: Lock goes down to 0; a bus that was live and no longer asks is locked, once its Lock has come to an end.
func TestStepLock(t *testing.T) {
	x := town()
	for _, y := range []struct {
		lock     locks
		was, ask int
		want     api.Ride
	}{
		{locks{}, 0, 0, api.Ride{}}, {locks{}, 0, 15, api.Ride{Was: 15}}, {locks{}, 15, 15, api.Ride{Was: 15}}, {locks{}, 15, 0, api.Ride{Lock: locks{5, 1, 9999, 2}}}, {locks{}, 5, 0, api.Ride{Lock: locks{5, 0, 9999, 0}}}, {locks{}, 15, 10, api.Ride{Lock: locks{5, 0, 9999, 0}, Was: 10}}, {locks{}, 10, 5, api.Ride{Lock: locks{0, 1, 0, 2}, Was: 5}}, {locks{}, 8, 7, api.Ride{Lock: locks{0, 0, 0, 2}, Was: 7}},
		{locks{3, 1, 0, 7}, 0, 0, api.Ride{Lock: locks{2, 0, 0, 6}}}, {locks{3, 1, 0, 7}, 15, 0, api.Ride{Lock: locks{2, 0, 9999, 6}}}, {locks{3, 1, 0, 7}, 15, 15, api.Ride{Lock: locks{2, 0, 0, 6}, Was: 4}}, {locks{3, 1, 0, 7}, 0, 15, api.Ride{Lock: locks{2, 0, 0, 6}, Was: 4}}, {locks{1, 1, 1, 1}, 15, 0, api.Ride{}}, {locks{1, 1, 1, 1}, 15, 15, api.Ride{}},
		{locks{9999, 10000, 2, 1}, 0, 0, api.Ride{Lock: locks{9998, 9999, 1, 0}}}, {locks{math.MaxInt, 1 << 32, 1<<32 + 1, 1 << 62}, 15, 0, api.Ride{Lock: locks{math.MaxInt - 1, 1<<32 - 1, 1 << 32, 1<<62 - 1}}}, {locks{-1, math.MinInt, -(1 << 32) + 5, -9999}, 0, 0, api.Ride{}}, {locks{-1, math.MinInt, -(1 << 32) + 5, -9999}, 15, 1, api.Ride{Lock: locks{0, 1, 9999, 2}, Was: 1}}, {locks{-1, math.MinInt, -3, -9999}, 15, 15, api.Ride{Was: 15}},
	} {
		for _, high := range aboveBuses {
			step(t, x, api.Ride{Lock: y.lock, Was: y.was}, y.ask|high, false, false, y.want)
			step(t, x, api.Ride{Lock: y.lock, Was: y.was | high}, y.ask, false, false, y.want)
			step(t, x, api.Ride{Lock: y.lock, Was: y.was | high}, y.ask|high, true, true, api.Ride{Lock: y.want.Lock, Was: y.want.Was, Spent: 1})
		}
	}
}

// P20.2: the Lock of a bus in the table may be any number.
func TestStepLockAny(t *testing.T) {
	for _, n := range append([]int{0, 1, 2, 9999}, others...) {
		x := town()
		x.Buses[2].Lock = n
		step(t, x, api.Ride{Was: 4}, 0, false, false, api.Ride{Lock: locks{0, 0, n, 0}})
		step(t, x, api.Ride{Was: 4}, 4, false, false, api.Ride{Was: 4})
	}
}

// P20.2: a bus is locked only if it was live in the tick before: not by one that asks in vain.
func TestStepWas(t *testing.T) {
	x, s := town(), api.Ride{Lock: locks{2}}
	for i, y := range []struct {
		ask  int
		want api.Ride
	}{
		{1, api.Ride{Lock: locks{1}}}, {0, api.Ride{}}, {0, api.Ride{}}, {1, api.Ride{Was: 1}}, {1, api.Ride{Was: 1}}, {0, api.Ride{Lock: locks{5}}}, {1, api.Ride{Lock: locks{4}}}, {1, api.Ride{Lock: locks{3}}}, {0, api.Ride{Lock: locks{2}}}, {0, api.Ride{Lock: locks{1}}}, {1, api.Ride{}}, {1, api.Ride{Was: 1}}, {0, api.Ride{Lock: locks{5}}},
	} {
		if s = Step(x, s, y.ask, false, false); s != y.want {
			t.Fatalf("%d: %+v, want %+v", i, s, y.want)
		}
	}
}

// P20.2: Spent begins anew in each round, and counts the ticks that are held.
func TestStepSpent(t *testing.T) {
	for _, y := range []struct{ spent, kept, held, round, both int }{
		{0, 0, 1, 0, 1}, {1, 1, 2, 0, 1}, {7, 7, 8, 0, 1}, {19, 19, 20, 0, 1}, {20, 20, 21, 0, 1}, {9998, 9998, 9999, 0, 1}, {9999, 9999, 10000, 0, 1}, {10000, 10000, 10000, 0, 1}, {10001, 10001, 10000, 0, 1},
		{-1, -1, 1, 0, 1}, {-5, -5, 1, 0, 1}, {math.MinInt, math.MinInt, 1, 0, 1}, {math.MaxInt, math.MaxInt, 10000, 0, 1}, {1 << 32, 1 << 32, 10000, 0, 1}, {-(1 << 32) + 3, -(1 << 32) + 3, 1, 0, 1},
	} {
		for _, x := range []api.Table{town(), {}, {Budget: 3, Extend: -1}} {
			was, ask := 1, 0
			lock := locks{}
			if len(x.Buses) > 0 {
				lock[0] = 5
			}
			step(t, x, api.Ride{Spent: y.spent, Was: was}, ask, false, false, api.Ride{Spent: y.kept, Lock: lock})
			step(t, x, api.Ride{Spent: y.spent, Was: was}, ask, true, false, api.Ride{Spent: y.held, Lock: lock})
			step(t, x, api.Ride{Spent: y.spent, Was: was}, ask, false, true, api.Ride{Spent: y.round, Lock: lock})
			step(t, x, api.Ride{Spent: y.spent, Was: was}, ask, true, true, api.Ride{Spent: y.both, Lock: lock})
		}
	}
}

// P20.2: the Lock of buses that the table does not have is 0, and they are not in Was.
func TestStepFewBuses(t *testing.T) {
	all := append(town().Buses, api.Bus{Set: 0x08, Lock: 3}, api.Bus{Set: 0x20, Lock: 4})
	kept, fresh := locks{2, 3, 4, 5}, locks{5, 1, 9999, 2}
	for n := range 7 {
		x := town()
		x.Buses = all[:n]
		var down, up locks
		copy(down[:], kept[:min(n, 4)])
		copy(up[:], fresh[:min(n, 4)])
		for _, was := range []int{0, 15, -1, 0x30} {
			step(t, x, api.Ride{Lock: locks{3, 4, 5, 6}, Was: was}, 15, false, false, api.Ride{Lock: down})
			step(t, x, api.Ride{Lock: locks{3, 4, 5, 6}, Was: was}, 0, false, false, api.Ride{Lock: down})
			step(t, x, api.Ride{Lock: locks{-3, -4, -5, -6}, Was: was}, -1, false, false, api.Ride{Was: 1<<min(n, 4) - 1})
		}
		step(t, x, api.Ride{Was: 15}, 0, false, false, api.Ride{Lock: up})
		step(t, x, api.Ride{Was: -1}, 0x7FF0, false, false, api.Ride{Lock: up})
	}
}

// The example of the chapter: a bus with Lock 5 that stops asking. It stops in the tick 2, is locked from the next one on, and is live again when its Lock has gone down to 0 in five ticks.
func TestExample(t *testing.T) {
	x := town()
	for again := 3; again < 12; again++ {
		s, heard := api.Ride{}, -1
		for i := range 15 {
			ask := 0
			if i < 2 || i >= again {
				ask = 1
			}
			if i >= 2 && heard < 0 && Live(x, s, ask) == 1 {
				heard = i
			}
			if s = Step(x, s, ask, false, false); i == 2 && s.Lock[0] != 5 {
				t.Errorf("the Lock is %d", s.Lock[0])
			}
		}
		if heard != max(again, 8) {
			t.Errorf("it asks again in tick %d, and is live in tick %d", again, heard)
		}
	}
}

// The buses are yielded in ascending order, by a loop that may be left early and made once more.
func TestEach(t *testing.T) {
	x := town()
	for ask := range 16 {
		buses := each(x, ask|1<<4)
		var want []int
		for k := range 4 {
			if ask>>k&1 == 1 {
				want = append(want, k)
			}
		}
		for range 2 {
			var got []int
			for k, b := range buses {
				if got = append(got, k); b != x.Buses[k] {
					t.Errorf("bus %d is %+v", k, b)
				}
			}
			if !slices.Equal(got, want) {
				t.Errorf("%#x: %d", ask, got)
			}
			for k := range buses {
				if k != want[0] {
					t.Errorf("%#x: the first is %d", ask, k)
				}
				break
			}
		}
	}
}

// result is what all functions return.
type result struct {
	live, hold, early int
	next              api.Ride
}

// args are the arguments of all functions.
type args struct {
	x           api.Table
	s           api.Ride
	l           lit
	ask         int
	held, round bool
}

func (a args) all() result {
	return result{Live(a.x, a.s, a.ask), Hold(a.x, a.s, a.l, a.ask), Early(a.x, a.s, a.l, a.ask), Step(a.x, a.s, a.ask, a.held, a.round)}
}

// has is whether bit k of s is set, by division.
func has(s, k int) bool {
	for range k {
		s = (s - s&1) / 2
	}
	return s%2 != 0
}

// worded is P20.1 and P20.2, phase by phase and bus by bus.
func (a args) worded() result {
	var to result
	isLive := func(k int) bool { return k < len(a.x.Buses) && has(a.ask, k) && !(a.s.Lock[k] > 0) }
	for p := range 8 {
		holds, ends := false, false
		for k := range 4 {
			if !isLive(k) {
				continue
			}
			mine, some := has(a.x.Buses[k].Set, p), false
			for q := range 8 {
				some = some || has(a.x.Buses[k].Set, q) && a.l[q].Colour == 1
			}
			holds = holds || mine && a.l[p].Colour == 1 && a.l[p].Extra < a.x.Extend && a.s.Spent < a.x.Budget
			ends = ends || !mine && !some
		}
		if holds {
			to.hold += 1 << p
		}
		if ends {
			to.early += 1 << p
		}
	}
	for k := range 4 {
		if isLive(k) {
			to.live += 1 << k
		}
		if k < len(a.x.Buses) && a.s.Lock[k] > 0 {
			to.next.Lock[k] = a.s.Lock[k] - 1
		} else if k < len(a.x.Buses) && has(a.s.Was, k) && !has(a.ask, k) {
			to.next.Lock[k] = a.x.Buses[k].Lock
		}
	}
	to.next.Was = to.live
	to.next.Spent = a.s.Spent
	if a.round {
		to.next.Spent = 0
	}
	if a.held && to.next.Spent < 0 {
		to.next.Spent = 1
	} else if a.held && to.next.Spent > 9999 {
		to.next.Spent = 10000
	} else if a.held {
		to.next.Spent++
	}
	return to
}

// pick is one of l.
func pick(r *rand.Rand, l ...int) int { return l[r.Intn(len(l))] }

// near is a small number, or now and then one of the others.
func near(r *rand.Rand) int {
	if r.Intn(20) == 0 {
		return pick(r, append(others, 9998, 9999, 10000)...)
	}
	return r.Intn(7) - 1
}

func drawn(r *rand.Rand) args {
	a := args{ask: r.Intn(16), held: r.Intn(2) == 0, round: r.Intn(2) == 0}
	a.s = api.Ride{Lock: locks{pick(r, 0, near(r)), pick(r, 0, near(r)), pick(r, 0, near(r)), pick(r, 0, near(r))}, Was: r.Intn(16), Spent: near(r)}
	if r.Intn(4) == 0 {
		a.ask |= pick(r, aboveBuses...)
		a.s.Was |= pick(r, aboveBuses...)
	}
	a.x = api.Table{Extend: near(r), Budget: 3 + near(r)}
	for range pick(r, 0, 1, 2, 3, 4, 4, 4, 5, 9) {
		a.x.Buses = append(a.x.Buses, api.Bus{Set: r.Intn(256) & r.Intn(256) & r.Intn(256), Lock: near(r)})
	}
	for k := range a.x.Buses {
		if r.Intn(6) == 0 {
			a.x.Buses[k].Set |= pick(r, abovePhases...)
		}
	}
	for p := range a.l {
		a.l[p] = api.Run{Colour: pick(r, 0, 0, 0, 1, 1, 2, 3, near(r)), Time: near(r), Extra: near(r)}
	}
	return a
}

// P20.1, P20.2: over drawn tables and states, well-formed or not (R1); R4: and the same in a second call.
func TestWorded(t *testing.T) {
	r := rand.New(rand.NewSource(20))
	seen := map[string]int{}
	for range 200000 {
		a := drawn(r)
		want := a.worded()
		for range 2 {
			if got := a.all(); got != want {
				t.Fatalf("%+v\n\tgot  %+v\n\twant %+v", a, got, want)
			}
		}
		for k, is := range map[string]bool{
			"live": want.live != 0, "hold": want.hold != 0, "early": want.early != 0, "hold and early": want.hold != 0 && want.early != 0, "neither": want.live != 0 && want.hold|want.early == 0,
			"lock": want.next.Lock != locks{}, "spent": want.next.Spent > a.s.Spent, "kept": want.next.Spent == a.s.Spent,
		} {
			if is {
				seen[k]++
			}
		}
	}
	for _, k := range []string{"live", "hold", "early", "hold and early", "neither", "lock", "spent", "kept"} {
		if seen[k] < 1000 {
			t.Errorf("drawn: %q %d times", k, seen[k])
		}
	}
}

// R4: nothing counts but the Buses, Extend and Budget of the table, and Colour and Extra of the runs; which buses are first does not count.
func TestOtherFields(t *testing.T) {
	r := rand.New(rand.NewSource(200))
	for range 20000 {
		a := drawn(r)
		want := a.all()
		for p := range a.l {
			f, g := &a.x.Phases[p], &a.l[p]
			for _, n := range []*int{&f.Min, &f.Gap, &f.Max, &f.Top, &f.Step, &f.Yellow, &f.Red, &f.Walk, &f.Blinks, &f.Recall, &a.x.Flash[p], &a.x.Conflict[p], &g.Time, &g.Foot.State, &g.Foot.Time, &g.Left, &g.Press, &g.Trend.Limit, &g.Trend.Up, &g.Trend.Down} {
				*n = int(r.Uint64())
			}
			f.On, f.Lock, f.Rest, g.Done, g.Maxed = r.Intn(2) == 0, r.Intn(2) == 0, r.Intn(2) == 0, r.Intn(2) == 0, r.Intn(2) == 0
		}
		a.x.Groups = [][2][]int{{{-1, 9}, {3}}}
		a.x.Detectors, a.x.Rails = []api.Detector{{Phase: -1}}, []api.Rail{{Bars: 255}}
		a.x.Start, a.x.Revert, a.x.Least, a.x.Window, a.x.Share = -1, 1, -2, 3, -4
		if got := a.all(); got != want {
			t.Fatalf("%+v\n\tgot  %+v\n\twant %+v", a, got, want)
		}
	}
}

// R3: no call changes the list of buses, nor the memory behind its length; nil and an empty list are the same.
func TestKeepsLists(t *testing.T) {
	memory := append(town().Buses, api.Bus{Set: 0x08, Lock: 3})
	was := slices.Clone(memory)
	for n := range memory {
		x := town()
		x.Buses = memory[:n]
		clone := table.Clone(x)
		args{x: x, s: api.Ride{Lock: locks{1, 0, 3, 0}, Was: -1}, l: greens(0x5A), ask: 0x35, held: true}.all()
		if !table.Same(x, clone) || !slices.Equal(memory, was) {
			t.Fatalf("the buses have become %+v", memory)
		}
	}
	none := args{x: api.Table{Extend: 9, Budget: 9}, s: api.Ride{Lock: locks{1, 2, 3, 4}, Was: 15}, l: greens(0xFF), ask: 10}
	empty := none
	empty.x.Buses = []api.Bus{}
	if a, b := none.all(), empty.all(); a != (result{}) || b != (result{}) {
		t.Errorf("without buses: %+v, %+v", a, b)
	}
}

// drive is an intersection with buses, which is driven by rings and phases.
type drive struct {
	x     api.Table
	r     api.Rings
	l     lit
	s     api.Ride
	calls int
	here  int
	ask   int
	cycle int // the ticks that have been held since the round began
	green [api.Phases]int
	most  [api.Phases]int
}

// newTown is an accepted table with two groups, and with buses that are drawn.
func newTown(t testing.TB, r *rand.Rand) api.Table {
	x := api.Table{Groups: [][2][]int{{{0, 1}, {4, 5}}, {{2, 3}, {6, 7}}}, Revert: r.Intn(4), Extend: r.Intn(8), Budget: pick(r, 0, 1, 2, 3, 5, 8, 13, 30)}
	for p := range x.Phases {
		for q := range x.Phases {
			if p != q && (p&2 != q&2 || p&4 == q&4) {
				x.Conflict[p] |= 1 << q
			}
		}
		x.Phases[p] = api.Phase{On: true, Min: 1 + r.Intn(5), Gap: r.Intn(5), Step: 1 + r.Intn(3), Yellow: 10, Red: r.Intn(3), Rest: r.Intn(4) == 0}
		x.Phases[p].Max = x.Phases[p].Min + r.Intn(9)
		x.Phases[p].Top = x.Phases[p].Max + r.Intn(9)
		x.Flash[p] = api.FlashRed
	}
	for range 1 + r.Intn(4) {
		x.Buses = append(x.Buses, api.Bus{Set: 1<<r.Intn(8) | 1<<r.Intn(8), Lock: 1 + r.Intn(20)})
	}
	if _, f := bound.All(x); f != (api.Fault{}) {
		t.Fatalf("%+v is not accepted: %v", x, f)
	}
	return x
}

// tick is a tick of the engine, but for detectors, walks and rails; it reports whether a round has ended.
func (d *drive) tick(r *rand.Rand) bool {
	for p := range d.l {
		if r.Intn(12) == 0 {
			d.here ^= 1 << p
		}
		if d.l[p].Colour == api.Green {
			d.calls &^= 1 << p
		} else if has(d.here, p) || r.Intn(40) == 0 {
			d.calls |= 1 << p
		}
	}
	if r.Intn(15) == 0 {
		d.ask ^= 1 << r.Intn(5)
	}
	want := d.calls | d.here
	next, start, end := ring.Step(d.x, d.r, d.l, want)
	press, holds, earlies := ring.Pressed(d.x, d.r, d.l, want), Hold(d.x, d.s, d.l, d.ask), Early(d.x, d.s, d.l, d.ask)
	held := false
	for p := range d.l {
		c := api.Cue{Start: has(start, p), End: has(end, p), Here: has(d.here, p), Pressed: has(press, p), Hold: has(holds, p), Early: has(earlies, p)}
		if c.Start {
			d.green[p] = 0
		}
		if phase.Held(d.x.Phases[p], d.l[p], c) {
			held = true
			d.green[p]++
		}
		d.most[p] = max(d.most[p], d.green[p])
		d.l[p] = phase.Step(d.x.Phases[p], d.l[p], c)
	}
	round := d.r.Cross && !next.Cross && next.Group <= d.r.Group
	if d.s = Step(d.x, d.s, d.ask, held, round); round {
		d.cycle = 0
	}
	if held {
		d.cycle++
	}
	d.r = next
	return round
}

// P20.3: in one cycle green times are held for at most Budget ticks, and one green time for at most Extend ticks; both come to it.
func TestBounds(t *testing.T) {
	r := rand.New(rand.NewSource(203))
	budgets, extends, rounds := 0, 0, 0
	for range 400 {
		d := drive{x: newTown(t, r), r: api.Rings{At: [2]int{-1, -1}}}
		for p := range d.l {
			d.l[p] = phase.Begin(d.x.Phases[p])
		}
		for range 2000 {
			if d.tick(r) {
				rounds++
			}
			if d.cycle > d.x.Budget || slices.Max(d.green[:]) > d.x.Extend {
				t.Fatalf("%+v: %d ticks of this cycle are held; of the green times, %v", d.x, d.cycle, d.green)
			}
			if d.cycle > 0 && d.cycle == d.x.Budget {
				budgets++
			}
		}
		if m := slices.Max(d.most[:]); m > 0 && m == d.x.Extend {
			extends++
		}
	}
	if budgets < 1000 || extends < 100 || rounds < 1000 {
		t.Errorf("drawn: Budget is spent for %d ticks, Extend is reached for %d tables, %d rounds", budgets, extends, rounds)
	}
}

// P20.1: a green phase that others wait for, with a car in each tick, is done when they have waited for Max ticks; for a bus of another phase at Min; and for its own one Extend ticks later.
func TestDriven(t *testing.T) {
	x := api.Phase{On: true, Min: 5, Gap: 9, Max: 50, Top: 50, Yellow: 10, Red: 1}
	for _, y := range []struct{ bus, ask, want int }{{0x02, 0, 51}, {0x02, 1, 5}, {0x01, 1, 54}, {0x03, 1, 54}, {0x01, 2, 51}} {
		z := api.Table{Buses: []api.Bus{{Set: y.bus, Lock: 1}}, Extend: 3, Budget: 9}
		l, s, n := lit{{Colour: api.Green, Time: 1, Left: 9, Trend: api.Trend{Limit: 50}}}, api.Ride{}, 1
		for ; n < 99 && !l[0].Done; n++ {
			c := api.Cue{Here: true, Pressed: true, Hold: has(Hold(z, s, l, y.ask), 0), Early: has(Early(z, s, l, y.ask), 0)}
			held := phase.Held(x, l[0], c)
			l[0], s = phase.Step(x, l[0], c), Step(z, s, y.ask, held, false)
		}
		if n != y.want || s.Spent != l[0].Extra {
			t.Errorf("bus %#x, ask %d: done in tick %d, %d held, %d spent", y.bus, y.ask, n, l[0].Extra, s.Spent)
		}
	}
}

// R4: two states go on independently of each other.
func TestIndependent(t *testing.T) {
	x := town()
	a, b := api.Ride{}, api.Ride{}
	for i := range 30 {
		a, b = Step(x, a, i%3, i%2 == 0, false), Step(x, b, i%5, false, i%7 == 0)
	}
	c, d := api.Ride{}, api.Ride{}
	for i := range 30 {
		d = Step(x, d, i%5, false, i%7 == 0)
	}
	for i := range 30 {
		c = Step(x, c, i%3, i%2 == 0, false)
	}
	if a != c || b != d {
		t.Errorf("%+v, %+v; %+v, %+v", a, b, c, d)
	}
}
