package check

import (
	"math"
	"math/rand"
	"reflect"
	"slices"
	"testing"

	"crossbuck/api"
	"crossbuck/plan"
	"crossbuck/set"
	"crossbuck/table"
)

type rows = [2][]int

// on are the phases of the tables crossing that are On; phase 4 is not.
var on = []int{0, 1, 2, 3, 5, 6, 7}

// crossing is a well-formed table of three groups with four rails, in which each number is as small as it may be beside the others, or nearly so.
func crossing() api.Table {
	var t api.Table
	t.Groups = []rows{{{1, 0}, {5}}, {nil, {6}}, {{3, 2}, {7}}}
	t.Conflict = [8]int{
		0: set.Of(1, 2, 3, 6, 7), 1: set.Of(0, 2, 3, 6, 7), 5: set.Of(2, 3, 6, 7),
		6: set.Of(0, 1, 2, 3, 5, 7),
		2: set.Of(0, 1, 3, 5, 6), 3: set.Of(0, 1, 2, 5, 6), 7: set.Of(0, 1, 5, 6),
	}
	for _, p := range on {
		t.Phases[p] = goodPhase()
		t.Flash[p] = api.FlashRed
		t.Detectors = append(t.Detectors, api.Detector{Phase: p, On: 2, Off: 1})
		t.Buses = append(t.Buses, api.Bus{Set: set.Of(p), Lock: 1})
	}
	t.Buses = t.Buses[3:]
	t.Flash[0], t.Flash[5] = api.FlashYellow, api.FlashYellow
	t.Rails = []api.Rail{goodRail(), goodRail(), goodRail(), goodRail()}
	return t
}

func goodPhase() api.Phase {
	return api.Phase{On: true, Min: 5, Max: 7, Top: 9, Step: 1, Yellow: 10, Walk: 1, Blinks: 1}
}

func goodRail() api.Rail {
	return api.Rail{
		Bars: set.Of(6), Clear: set.Of(3, 7), Dwell: set.Of(0, 5), Exit: set.Of(2, 7),
		Delay: 5, Green: 1, Hold: 1, Stay: 3, Most: 3, Limit: 6,
	}
}

// small is a well-formed table of one phase.
func small(p int) api.Table {
	t := api.Table{Groups: []rows{{{p}, nil}}}
	t.Phases[p] = api.Phase{On: true, Min: 1, Max: 1, Top: 1, Yellow: 10}
	t.Flash[p] = api.FlashYellow
	return t
}

// great is a well-formed table in which all times are as great as they may be.
func great() api.Table {
	t := crossing()
	const most = api.MaxTime
	for _, p := range on {
		t.Phases[p] = api.Phase{On: true, Min: most, Gap: most, Max: most, Top: most, Step: most, Yellow: most, Red: most, Walk: most, Blinks: most, Recall: api.FootRecall, Lock: true, Rest: true}
	}
	for d := range t.Detectors {
		t.Detectors[d] = api.Detector{Phase: 7, On: 1000000, Off: 1000000, Delay: 999.9, Extend: 999.9, MaxOn: most, MaxOff: most}
	}
	for k := range t.Rails {
		t.Rails[k] = api.Rail{Bars: set.Of(1, 2, 3, 6, 7), Clear: set.Of(0, 5), Dwell: set.Of(0, 5), Exit: set.Of(0, 5), Delay: most, Green: most, Foot: most, Hold: most, Stay: most, Most: most, Limit: api.MaxTick}
	}
	for b := range t.Buses {
		t.Buses[b] = api.Bus{Set: set.Of(on...), Lock: most}
	}
	t.Extend, t.Budget, t.Start, t.Revert, t.Least, t.Window, t.Share = most, most, most, most, most, api.MaxTick, api.MaxTick
	return t
}

func none() api.Fault { return api.Fault{} }

func at(code api.Errno, n int) api.Fault { return api.Fault{Code: code, At: n} }

// expect is the Fault of a case that is bad, or none.
func expect(bad bool, code api.Errno, n int) api.Fault {
	if bad {
		return at(code, n)
	}
	return none()
}

func want(t *testing.T, what any, x api.Table, f api.Fault) {
	t.Helper()
	if got := Check(x); got != f {
		t.Errorf("%v: Check = {%d, %d}, want {%d, %d}", what, got.Code, got.At, f.Code, f.At)
	}
}

// P9.1: well-formed tables have no Fault; the zero Table has no Groups.
func TestCheck(t *testing.T) {
	want(t, "crossing", crossing(), none())
	want(t, "great", great(), none())
	for p := range api.Phases {
		want(t, "small", small(p), none())
	}
	want(t, "zero", api.Table{}, at(api.ErrRing, 0))
}

// P9.1, number 1: what table.May does not permit is refused, also in a place that no other rule reads.
func TestRange(t *testing.T) {
	for i, turn := range []func(x *api.Table){
		func(x *api.Table) { x.Extend = -1 },
		func(x *api.Table) { x.Share = math.MaxInt },
		func(x *api.Table) { x.Phases[4].Gap = 10000 },
		func(x *api.Table) { x.Phases[3].Min = math.MinInt },
		func(x *api.Table) { x.Groups[2][1][0] = 8 },
		func(x *api.Table) { x.Groups[2][1][0] = -1 },
		func(x *api.Table) { x.Groups = append(x.Groups, rows{}, rows{}) },
		func(x *api.Table) { x.Groups[0][0] = make([]int, 9) },
		func(x *api.Table) { x.Conflict[4] = 256 },
		func(x *api.Table) { x.Conflict[7] = -1 },
		func(x *api.Table) { x.Detectors[3].Phase = 8 },
		func(x *api.Table) { x.Detectors[3].Phase = math.MinInt },
		func(x *api.Table) { x.Detectors[3].On = math.NaN() },
		func(x *api.Table) { x.Detectors[3].Off = 0 },
		func(x *api.Table) { x.Detectors[3].Delay = math.Inf(1) },
		func(x *api.Table) { x.Detectors = make([]api.Detector, 17) },
		func(x *api.Table) { x.Rails[3].Exit = 256 },
		func(x *api.Table) { x.Rails = append(x.Rails, goodRail()) },
		func(x *api.Table) { x.Buses[3].Set = 256 },
		func(x *api.Table) { x.Buses = append(x.Buses, x.Buses[0]) },
		func(x *api.Table) { x.Flash[4] = 3 },
	} {
		x := crossing()
		turn(&x)
		want(t, i, x, at(api.ErrRange, 0))
	}
}

// P9.1, number 2: each rule of a phase at both of its ends, for each phase; nothing is asked of one that is not On.
func TestPhase(t *testing.T) {
	for i, c := range []struct {
		turn func(x *api.Phase)
		bad  bool
	}{
		{func(x *api.Phase) { x.Min = 0 }, true},
		{func(x *api.Phase) { x.Min = 1 }, false},
		{func(x *api.Phase) { x.Yellow = 0 }, true},
		{func(x *api.Phase) { x.Yellow = 9 }, true},
		{func(x *api.Phase) { x.Yellow = 11 }, false},
		{func(x *api.Phase) { x.Max = 4 }, true},
		{func(x *api.Phase) { x.Max = 5 }, false},
		{func(x *api.Phase) { x.Top = 6 }, true},
		{func(x *api.Phase) { x.Top = 4 }, true},
		{func(x *api.Phase) { x.Top = 7 }, false},
		{func(x *api.Phase) { x.Step = 0 }, true},
		{func(x *api.Phase) { x.Step, x.Top = 0, 8 }, true},
		{func(x *api.Phase) { x.Step, x.Top = 0, 7 }, false},
		{func(x *api.Phase) { x.Step, x.Top = 0, 6 }, true},
		{func(x *api.Phase) { x.Min, x.Max, x.Top, x.Step = 9, 9, 9, 0 }, false},
		{func(x *api.Phase) { x.Walk = 0 }, true},
		{func(x *api.Phase) { x.Blinks = 0 }, true},
		{func(x *api.Phase) { x.Walk, x.Blinks = 0, 9999 }, true},
		{func(x *api.Phase) { x.Walk, x.Blinks = 9999, 0 }, true},
		{func(x *api.Phase) { x.Walk, x.Blinks = 0, 0 }, false},
		{func(x *api.Phase) { x.Walk, x.Blinks = 2, 9999 }, false},
		{func(x *api.Phase) { x.Walk, x.Blinks, x.Recall = 0, 0, api.NoRecall }, false},
		{func(x *api.Phase) { x.Walk, x.Blinks, x.Recall = 0, 0, api.MinRecall }, false},
		{func(x *api.Phase) { x.Walk, x.Blinks, x.Recall = 0, 0, api.MaxRecall }, false},
		{func(x *api.Phase) { x.Walk, x.Blinks, x.Recall = 0, 0, api.FootRecall }, true},
		{func(x *api.Phase) { x.Recall = api.FootRecall }, false},
		{func(x *api.Phase) { x.Recall = api.MaxRecall }, false},
		{func(x *api.Phase) { x.Gap, x.Red, x.Lock, x.Rest = 9999, 9999, true, true }, false},
		{func(x *api.Phase) { x.Walk, x.Blinks = 5000, 5000 }, false},
	} {
		for _, p := range on {
			x := crossing()
			c.turn(&x.Phases[p])
			want(t, i, x, expect(c.bad, api.ErrPhase, p))
			c.turn(&x.Phases[on[len(on)-1]])
			want(t, i, x, expect(c.bad, api.ErrPhase, p))
		}
		x := crossing()
		x.Phases[4] = goodPhase()
		x.Phases[4].On = false
		c.turn(&x.Phases[4])
		want(t, i, x, none())
	}
}

// P9.1, number 3: no Groups, whether phases are On or not.
func TestNoGroups(t *testing.T) {
	for _, x := range []api.Table{{}, crossing(), small(0)} {
		x.Groups = nil
		want(t, "nil", x, at(api.ErrRing, 0))
		x.Groups = []rows{}
		want(t, "empty", x, at(api.ErrRing, 0))
	}
}

// P9.1, number 3: groups of tables by hand, and the smallest one that is wrong.
func TestRing(t *testing.T) {
	for _, c := range []struct {
		groups []rows
		want   api.Fault
	}{
		{[]rows{{{1, 0}, {5}}, {{6}, nil}, {{3, 2}, {7}}}, none()},
		{[]rows{{{3, 2}, {7}}, {{6}, {}}, {{1, 0}, {5}}}, none()},
		{[]rows{{{3, 2}, {7}}, {{6}, {}}, {{1, 0}, nil}, {{5}, nil}}, none()},
		{[]rows{{{1, 0, 2, 3, 5, 6, 7}, nil}}, none()},
		// A group without phases.
		{[]rows{{}}, at(api.ErrRing, 0)},
		{[]rows{{}, {{1, 0}, {5}}, {nil, {6}}, {{3, 2}, {7}}}, at(api.ErrRing, 0)},
		{[]rows{{{1, 0}, {5}}, {nil, {6}}, {{}, {}}, {{3, 2}, {7}}}, at(api.ErrRing, 2)},
		{[]rows{{{1, 0}, {5}}, {nil, {6}}, {{3, 2}, {7}}, {}}, at(api.ErrRing, 3)},
		// A phase that is not On.
		{[]rows{{{4, 1, 0}, {5}}, {nil, {6}}, {{3, 2}, {7}}}, at(api.ErrRing, 0)},
		{[]rows{{{1, 0}, {5, 4}}, {nil, {6}}, {{3, 2}, {7}}}, at(api.ErrRing, 0)},
		{[]rows{{{1, 0}, {5}}, {{4}, {6}}, {{3, 2}, {7}}}, at(api.ErrRing, 1)},
		{[]rows{{{1, 0}, {5}}, {nil, {6}}, {{3, 2}, {4, 7}}}, at(api.ErrRing, 2)},
		{[]rows{{{1, 0}, {5}}, {nil, {6}}, {{3, 2}, {7}}, {{4}, nil}}, at(api.ErrRing, 3)},
		// A phase that occurs at an earlier position: the later group is wrong.
		{[]rows{{{1, 1, 0}, {5}}, {nil, {6}}, {{3, 2}, {7}}}, at(api.ErrRing, 0)},
		{[]rows{{{1, 0, 1}, {5}}, {nil, {6}}, {{3, 2}, {7}}}, at(api.ErrRing, 0)},
		{[]rows{{{1, 0}, {1}}, {nil, {6}}, {{3, 2}, {7, 5}}}, at(api.ErrRing, 0)},
		{[]rows{{{1, 0}, {5, 0}}, {nil, {6}}, {{3, 2}, {7}}}, at(api.ErrRing, 0)},
		{[]rows{{{1, 0, 6}, {5}}, {nil, {6}}, {{3, 2}, {7}}}, at(api.ErrRing, 1)},
		{[]rows{{{1, 0}, {5, 7}}, {nil, {6}}, {{3, 2}, {7}}}, at(api.ErrRing, 2)},
		{[]rows{{{1, 0}, {5}}, {nil, {6}}, {{3, 6, 2}, {7}}}, at(api.ErrRing, 2)},
		{[]rows{{{1, 0}, {5}}, {nil, {6}}, {{3, 2}, {7, 7}}}, at(api.ErrRing, 2)},
		{[]rows{{{1, 0}, {5}}, {nil, {6}}, {{3, 2}, {7, 2}}}, at(api.ErrRing, 2)},
		{[]rows{{{1, 0}, {5}}, {nil, {6}}, {{3, 2}, {7}}, {{3}, nil}}, at(api.ErrRing, 3)},
		{[]rows{{{1, 0}, {5}}, {{5}, {6}}, {{3, 2, 3}, {7}}}, at(api.ErrRing, 1)},
		// A phase that is On and occurs nowhere; any wrong group comes first.
		{[]rows{{{1, 0}, {5}}, {nil, {6}}, {{3, 2}, nil}}, at(api.ErrRing, 0)},
		{[]rows{{{1}, {5}}, {nil, {6}}, {{3, 2}, {7}}}, at(api.ErrRing, 0)},
		{[]rows{{{1, 0}, {5}}, {nil, {6}}, {{3}, {7, 3}}}, at(api.ErrRing, 2)},
		{[]rows{{{1, 0}, {5}}, {nil, {6}}, {{3, 2}, nil}, {}}, at(api.ErrRing, 3)},
		{[]rows{{{1, 0}, {5}}, {nil, {6}}, {{3, 2}, {4}}}, at(api.ErrRing, 2)},
		{[]rows{{{0}, nil}}, at(api.ErrRing, 0)},
	} {
		x := crossing()
		x.Conflict, x.Rails = [8]int{}, nil
		x.Groups = c.groups
		want(t, c.groups, x, c.want)
	}
}

// P9.1, number 3: a phase that is On occurs nowhere, for each phase.
func TestRingMissing(t *testing.T) {
	for p := range api.Phases {
		x := small((p + 1) % api.Phases)
		x.Phases[p] = goodPhase()
		x.Flash[p] = api.FlashRed
		want(t, p, x, at(api.ErrRing, 0))
		x.Phases[p].On = false
		want(t, p, x, none())
	}
}

// besides reports whether two phases are Beside each other in crossing.
func besides(p, q int) bool {
	return slices.Contains([][2]int{{0, 5}, {1, 5}, {2, 7}, {3, 7}}, [2]int{min(p, q), max(p, q)})
}

// turned returns crossing where q is in the Conflict of p as given, and the other way round.
func turned(p, q int, pHas, qHas bool) api.Table {
	x := crossing()
	x.Conflict[p], x.Conflict[q] = set.Without(x.Conflict[p], q), set.Without(x.Conflict[q], p)
	if pHas {
		x.Conflict[p] = set.With(x.Conflict[p], q)
	}
	if qHas {
		x.Conflict[q] = set.With(x.Conflict[q], p)
	}
	return x
}

// P9.1, number 4: each two phases that are On, with each of them in the other one's Conflict or not.
func TestConflict(t *testing.T) {
	for i, p := range on {
		for _, q := range on[:i] {
			what := []int{p, q}
			want(t, what, turned(p, q, true, false), at(api.ErrConflict, q))
			want(t, what, turned(p, q, false, true), at(api.ErrConflict, q))
			want(t, what, turned(p, q, false, false), none())
			want(t, what, turned(p, q, true, true), expect(besides(p, q), api.ErrConflict, q))
		}
	}
}

// P9.1, number 4: a phase in its own Conflict, and the smallest phase for which something holds.
func TestConflictOwn(t *testing.T) {
	for _, p := range on {
		x := crossing()
		x.Conflict[p] = set.With(x.Conflict[p], p)
		want(t, p, x, at(api.ErrConflict, p))
		x.Conflict[7] = set.With(x.Conflict[7], 7)
		want(t, p, x, at(api.ErrConflict, p))
		y := small(p)
		y.Conflict[p] = set.Of(p)
		want(t, p, y, at(api.ErrConflict, p))
	}
	x := crossing()
	x.Conflict[2] = set.With(x.Conflict[2], 2)
	x.Conflict[5] = set.With(x.Conflict[5], 1)
	want(t, "2 in its own, 1 in that of 5", x, at(api.ErrConflict, 1))
	x = crossing()
	x.Conflict[1] = set.With(x.Conflict[1], 1)
	x.Conflict[5] = set.With(x.Conflict[5], 2)
	x.Conflict[2] = set.Without(x.Conflict[2], 6)
	want(t, "1 in its own, 2 not against 6", x, at(api.ErrConflict, 1))
}

// P9.1, number 4: a phase that is not On may be in any Conflict, and any phase in its Conflict.
func TestConflictOff(t *testing.T) {
	for s := range 256 {
		x := crossing()
		x.Conflict[4] = s
		for _, p := range on {
			if set.Has(s, (p+3)%8) {
				x.Conflict[p] = set.With(x.Conflict[p], 4)
			}
		}
		want(t, s, x, none())
	}
}

// P9.1, number 5: Off and On of each detector, and its Phase.
func TestDetector(t *testing.T) {
	above := func(x float64) float64 { return math.Nextafter(x, math.Inf(1)) }
	for i, c := range []struct {
		phase   int
		on, off float64
		bad     bool
	}{
		{0, 1, 1, false}, {7, 2, 1, false}, {0, 1, 2, true}, {5, 1, above(1), true}, {5, above(1), 1, false},
		{6, 1000000, 1000000, false}, {6, math.Nextafter(1000000, 0), 1000000, true},
		{1, math.SmallestNonzeroFloat64, math.SmallestNonzeroFloat64, false}, {1, math.SmallestNonzeroFloat64, 1, true},
		{4, 2, 1, true}, {4, 1, 2, true}, {3, 2, 1, false},
	} {
		for d := range 16 {
			x := crossing()
			x.Detectors = make([]api.Detector, 16)
			for i := range x.Detectors {
				x.Detectors[i] = api.Detector{Phase: on[i%len(on)], On: 2, Off: 2}
			}
			x.Detectors[d] = api.Detector{Phase: c.phase, On: c.on, Off: c.off}
			want(t, i, x, expect(c.bad, api.ErrDetector, d))
			x.Detectors[15] = x.Detectors[d]
			want(t, i, x, expect(c.bad, api.ErrDetector, d))
		}
	}
	x := crossing()
	x.Detectors = nil
	want(t, "no detectors", x, none())
}

// P9.1, number 6: the sets of each rail.
func TestRailSets(t *testing.T) {
	for i, c := range []struct {
		turn func(r *api.Rail)
		bad  bool
	}{
		{func(r *api.Rail) { r.Bars |= set.Of(4) }, true},
		{func(r *api.Rail) { r.Bars = set.Of(4) }, true},
		{func(r *api.Rail) { r.Clear |= set.Of(4) }, true},
		{func(r *api.Rail) { r.Clear = set.Of(4) }, true},
		{func(r *api.Rail) { r.Dwell |= set.Of(4) }, true},
		{func(r *api.Rail) { r.Dwell = set.Of(4) }, true},
		{func(r *api.Rail) { r.Exit |= set.Of(4) }, true},
		{func(r *api.Rail) { r.Exit = set.Of(4) }, true},
		{func(r *api.Rail) { r.Dwell = 0 }, true},
		{func(r *api.Rail) { r.Exit = 0 }, true},
		{func(r *api.Rail) { r.Bars = 0 }, false},
		{func(r *api.Rail) { r.Bars = set.Of(0) }, true},
		{func(r *api.Rail) { r.Bars = set.Of(5) }, true},
		{func(r *api.Rail) { r.Bars = set.Of(0, 5) }, true},
		{func(r *api.Rail) { r.Bars = set.Of(1, 2, 3, 6, 7) }, false},
		{func(r *api.Rail) { r.Dwell = set.Of(6) }, true},
		{func(r *api.Rail) { r.Dwell = set.Of(7); r.Bars = set.Of(6, 7) }, true},
		{func(r *api.Rail) { r.Clear = set.Of(2, 3) }, true},
		{func(r *api.Rail) { r.Clear = set.Of(3, 6) }, true},
		{func(r *api.Rail) { r.Clear = set.Of(0, 1, 5) }, true},
		{func(r *api.Rail) { r.Clear = set.Of(5, 6) }, true},
		{func(r *api.Rail) { r.Clear = set.Of(0, 5) }, false},
		{func(r *api.Rail) { r.Clear = set.Of(6) }, false},
		{func(r *api.Rail) { r.Dwell = set.Of(0, 1) }, true},
		{func(r *api.Rail) { r.Dwell = set.Of(2, 5, 7) }, true},
		{func(r *api.Rail) { r.Dwell = set.Of(0, 7) }, true},
		{func(r *api.Rail) { r.Dwell = set.Of(2, 7) }, false},
		{func(r *api.Rail) { r.Dwell = set.Of(3) }, false},
		{func(r *api.Rail) { r.Exit = set.Of(2, 3) }, true},
		{func(r *api.Rail) { r.Exit = set.Of(1, 7) }, true},
		{func(r *api.Rail) { r.Exit = set.Of(2, 3, 7) }, true},
		{func(r *api.Rail) { r.Exit = set.Of(5, 6) }, true},
		{func(r *api.Rail) { r.Exit = set.Of(0, 5) }, false},
		{func(r *api.Rail) { r.Exit = set.Of(1, 5) }, false},
		{func(r *api.Rail) { r.Exit = set.Of(0) }, false},
		{func(r *api.Rail) { r.Exit = set.Of(6) }, false},
	} {
		wantRail(t, i, c.turn, c.bad)
	}
}

// P9.1, number 6: the times of each rail.
func TestRailTimes(t *testing.T) {
	for i, c := range []struct {
		turn func(r *api.Rail)
		bad  bool
	}{
		{func(r *api.Rail) { r.Hold = 0 }, true},
		{func(r *api.Rail) { r.Hold = 9999 }, false},
		{func(r *api.Rail) { r.Clear = 0 }, true},
		{func(r *api.Rail) { r.Clear, r.Hold = 0, 9999 }, true},
		{func(r *api.Rail) { r.Clear, r.Hold = 0, 0 }, false},
		{func(r *api.Rail) { r.Green = 0 }, true},
		{func(r *api.Rail) { r.Green = 9999 }, false},
		{func(r *api.Rail) { r.Stay = 0 }, true},
		{func(r *api.Rail) { r.Stay, r.Most = 0, 0 }, true},
		{func(r *api.Rail) { r.Stay = 1 }, false},
		{func(r *api.Rail) { r.Stay, r.Most = 1, 0 }, false},
		{func(r *api.Rail) { r.Stay, r.Most = 1, 1 }, false},
		{func(r *api.Rail) { r.Most = 0 }, false},
		{func(r *api.Rail) { r.Most = 1 }, true},
		{func(r *api.Rail) { r.Most = 2 }, true},
		{func(r *api.Rail) { r.Most = 4 }, false},
		{func(r *api.Rail) { r.Stay = 4 }, true},
		{func(r *api.Rail) { r.Stay, r.Most = 9999, 0 }, false},
		{func(r *api.Rail) { r.Limit = 5 }, true},
		{func(r *api.Rail) { r.Limit = 4 }, true},
		{func(r *api.Rail) { r.Limit = 0 }, true},
		{func(r *api.Rail) { r.Delay = 6 }, true},
		{func(r *api.Rail) { r.Delay, r.Limit = 0, 0 }, true},
		{func(r *api.Rail) { r.Delay, r.Limit = 0, 1 }, false},
		{func(r *api.Rail) { r.Delay, r.Limit = 9999, 9999 }, true},
		{func(r *api.Rail) { r.Delay, r.Limit = 9999, 10000 }, false},
		{func(r *api.Rail) { r.Limit = api.MaxTick }, false},
		{func(r *api.Rail) { r.Foot = 9999 }, false},
	} {
		wantRail(t, i, c.turn, c.bad)
	}
}

// wantRail turns each rail, alone and beside the last one.
func wantRail(t *testing.T, what any, turn func(r *api.Rail), bad bool) {
	t.Helper()
	for k := range 4 {
		x := crossing()
		turn(&x.Rails[k])
		want(t, what, x, expect(bad, api.ErrRail, k))
		x.Rails[3] = x.Rails[k]
		want(t, what, x, expect(bad, api.ErrRail, k))
		x.Rails = x.Rails[:k]
		want(t, what, x, none())
	}
}

// P9.1, number 6: phases in different groups, or in one row, may clear and dwell together if they do not conflict, but not come first together.
func TestRailExit(t *testing.T) {
	for i, p := range on {
		for _, q := range on[:i] {
			what := []int{p, q}
			x := turned(p, q, false, false)
			x.Rails[1].Bars = 0
			x.Rails[1].Clear = set.Of(p, q)
			want(t, what, x, none())
			x.Rails[1].Dwell = set.Of(p, q)
			want(t, what, x, none())
			x.Rails[1].Exit = set.Of(p, q)
			want(t, what, x, expect(!besides(p, q), api.ErrRail, 1))
		}
	}
	x := crossing()
	x.Conflict = [8]int{}
	x.Rails[2].Exit = set.Of(0, 1, 5)
	want(t, "0, 1, 5", x, at(api.ErrRail, 2))
	x.Rails[2].Exit = set.Of(2, 5, 7)
	want(t, "2, 5, 7", x, at(api.ErrRail, 2))
	x.Rails[2].Exit = set.Of(on...)
	want(t, "all", x, at(api.ErrRail, 2))
}

// P9.1, number 7: the Set and the Lock of each bus.
func TestBus(t *testing.T) {
	for i, c := range []struct {
		bus api.Bus
		bad bool
	}{
		{api.Bus{Set: 0, Lock: 1}, true}, {api.Bus{Set: set.Of(4), Lock: 1}, true}, {api.Bus{Set: set.Of(3, 4), Lock: 1}, true}, {api.Bus{Set: 255, Lock: 1}, true},
		{api.Bus{Set: set.Of(0), Lock: 0}, true}, {api.Bus{}, true}, {api.Bus{Set: set.Of(4)}, true},
		{api.Bus{Set: set.Of(0), Lock: 1}, false}, {api.Bus{Set: set.Of(7), Lock: 2}, false}, {api.Bus{Set: set.Of(on...), Lock: 9999}, false}, {api.Bus{Set: set.Of(0, 1, 2), Lock: 1}, false},
	} {
		for b := range 4 {
			x := crossing()
			x.Buses[b] = c.bus
			want(t, i, x, expect(c.bad, api.ErrBus, b))
			x.Buses[3] = c.bus
			want(t, i, x, expect(c.bad, api.ErrBus, b))
			x.Buses = x.Buses[:b]
			want(t, i, x, none())
		}
	}
}

// P9.1, number 8: each two phases that flash yellow; the smaller one is wrong if they conflict.
func TestFlashYellow(t *testing.T) {
	for i, p := range on {
		for _, q := range on[:i] {
			x := crossing()
			for _, r := range on {
				x.Flash[r] = api.FlashRed
			}
			x.Flash[p] = api.FlashYellow
			want(t, p, x, none())
			x.Flash[q] = api.FlashYellow
			want(t, []int{p, q}, x, expect(!besides(p, q), api.ErrFlash, q))
			y := turned(p, q, false, false)
			y.Flash = x.Flash
			want(t, []int{p, q}, y, none())
		}
	}
}

// P9.1, number 8: a phase that is On is not dark, and one that is not On flashes in any way.
func TestFlashDark(t *testing.T) {
	for _, p := range on {
		x := crossing()
		x.Flash[p] = api.Dark
		want(t, p, x, at(api.ErrFlash, p))
		x.Flash[7] = api.Dark
		want(t, p, x, at(api.ErrFlash, p))
	}
	for flash := range 3 {
		x := crossing()
		x.Flash[4], x.Conflict[4] = flash, 255
		x.Conflict[0] = set.With(x.Conflict[0], 4)
		x.Conflict[5] = set.With(x.Conflict[5], 4)
		want(t, flash, x, none())
	}
	x := crossing()
	x.Flash[3], x.Flash[2], x.Flash[6] = api.Dark, api.FlashYellow, api.Dark
	want(t, "0 and 2 yellow, 3 dark", x, at(api.ErrFlash, 0))
	x.Flash[0], x.Flash[5] = api.FlashRed, api.FlashRed
	want(t, "2 yellow, 3 dark", x, at(api.ErrFlash, 3))
}

// P9.1: of two rules that apply, the Fault is that of the first, also if that of the second is at a smaller number.
func TestOrder(t *testing.T) {
	l := []struct {
		turn func(x *api.Table)
		want api.Fault
	}{
		{func(x *api.Table) { x.Share = -1 }, at(api.ErrRange, 0)},
		{func(x *api.Table) { x.Phases[7].Min = 0 }, at(api.ErrPhase, 7)},
		{func(x *api.Table) { x.Groups = append(x.Groups[:3:3], rows{}) }, at(api.ErrRing, 3)},
		{func(x *api.Table) { x.Conflict[6] = set.With(x.Conflict[6], 6) }, at(api.ErrConflict, 6)},
		{func(x *api.Table) { x.Detectors[5].Phase = 4 }, at(api.ErrDetector, 5)},
		{func(x *api.Table) { x.Rails[3].Green = 0 }, at(api.ErrRail, 3)},
		{func(x *api.Table) { x.Buses[2].Lock = 0 }, at(api.ErrBus, 2)},
		{func(x *api.Table) { x.Flash[0] = api.Dark }, at(api.ErrFlash, 0)},
	}
	for i, first := range l {
		all := crossing()
		for _, second := range l[i:] {
			x := crossing()
			second.turn(&x)
			first.turn(&x)
			want(t, []any{first.want, second.want}, x, first.want)
			second.turn(&all)
		}
		want(t, "all of the others", all, first.want)
	}
}

// P9.1: a table without Groups is refused by its phases, if they are wrong, and otherwise before its lists are.
func TestOrderNoGroups(t *testing.T) {
	x := crossing()
	x.Groups, x.Conflict[0], x.Detectors[0].Off, x.Rails[0].Exit, x.Buses[0].Set, x.Flash[0] = nil, 255, 3, 0, 0, 0
	want(t, "no Groups", x, at(api.ErrRing, 0))
	x.Phases[7].Min = 0
	want(t, "Min", x, at(api.ErrPhase, 7))
	x.Buses[3].Set = 256
	want(t, "Set", x, at(api.ErrRange, 0))
}

// findings keeps the first Fault that applies.
type findings struct {
	first api.Fault
	found bool
}

func (f *findings) note(applies bool, code api.Errno, n int) {
	if applies && !f.found {
		f.first, f.found = at(code, n), true
	}
}

// worded is P9.1 word by word, with lists of phases and of positions in place of sets.
func worded(x api.Table) api.Fault {
	var f findings
	if !table.May(x) {
		return at(api.ErrRange, 0)
	}
	for p, y := range x.Phases {
		f.note(y.On && wrongPhase(y), api.ErrPhase, p)
	}
	wordedRing(x, &f)
	if f.found { // what follows is about phases that are at one position
		return f.first
	}
	for p := range x.Phases {
		f.note(x.Phases[p].On && wrongConflict(x, p), api.ErrConflict, p)
	}
	for d, y := range x.Detectors {
		f.note(y.Off > y.On || !x.Phases[y.Phase].On, api.ErrDetector, d)
	}
	for k, y := range x.Rails {
		f.note(wrongRail(x, y), api.ErrRail, k)
	}
	for b, y := range x.Buses {
		f.note(len(list(y.Set)) == 0 || anyOff(x, y.Set) || y.Lock < 1, api.ErrBus, b)
	}
	for p, y := range x.Flash {
		wrong := y == 0
		for _, q := range list(x.Conflict[p]) {
			wrong = wrong || y == 2 && x.Phases[q].On && x.Flash[q] == 2
		}
		f.note(x.Phases[p].On && wrong, api.ErrFlash, p)
	}
	return f.first
}

func wrongPhase(y api.Phase) bool {
	zeros := 0
	for _, n := range []int{y.Walk, y.Blinks} {
		if n == 0 {
			zeros++
		}
	}
	return slices.Contains([]bool{
		y.Min < 1, y.Yellow < 10, y.Max < y.Min, y.Top < y.Max,
		y.Step < 1 && y.Top > y.Max, zeros == 1, y.Recall == 3 && y.Walk == 0,
	}, true)
}

// position is where a phase is.
type position struct{ group, ring, phase int }

func positions(x api.Table) []position {
	var l []position
	for g := range x.Groups {
		for r := range 2 {
			for _, p := range x.Groups[g][r] {
				l = append(l, position{g, r, p})
			}
		}
	}
	return l
}

// of is the first position of a phase, or none at a group that there is not.
func of(x api.Table, p int) position {
	for _, y := range positions(x) {
		if y.phase == p {
			return y
		}
	}
	return position{group: -1, phase: p}
}

func wordedRing(x api.Table, f *findings) {
	f.note(len(x.Groups) == 0, api.ErrRing, 0)
	l := positions(x)
	for g := range x.Groups {
		f.note(!slices.ContainsFunc(l, func(y position) bool { return y.group == g }), api.ErrRing, g)
		for i, y := range l {
			earlier := slices.ContainsFunc(l[:i], func(z position) bool { return z.phase == y.phase })
			f.note(y.group == g && (!x.Phases[y.phase].On || earlier), api.ErrRing, g)
		}
	}
	for p := range x.Phases {
		f.note(x.Phases[p].On && of(x, p).group < 0, api.ErrRing, 0)
	}
}

// list is the phases of a set.
func list(s int) []int {
	var l []int
	for p := 0; s > 0; p++ {
		if s%2 == 1 {
			l = append(l, p)
		}
		s /= 2
	}
	return l
}

func holds(s, p int) bool { return slices.Contains(list(s), p) }

func anyOff(x api.Table, s int) bool {
	return slices.ContainsFunc(list(s), func(p int) bool { return !x.Phases[p].On })
}

func wrongConflict(x api.Table, p int) bool {
	wrong := holds(x.Conflict[p], p)
	for q := range x.Phases {
		a, b := of(x, p), of(x, q)
		beside := a.group == b.group && a.ring != b.ring
		wrong = wrong || x.Phases[q].On && (holds(x.Conflict[p], q) != holds(x.Conflict[q], p) || beside && holds(x.Conflict[p], q))
	}
	return wrong
}

func wrongRail(x api.Table, y api.Rail) bool {
	for _, s := range []int{y.Bars, y.Clear, y.Dwell, y.Exit} {
		if anyOff(x, s) {
			return true
		}
	}
	wrong := y.Dwell == 0 || y.Exit == 0
	for _, p := range list(y.Dwell) {
		wrong = wrong || holds(y.Bars, p)
	}
	for _, s := range []int{y.Clear, y.Dwell, y.Exit} {
		for _, p := range list(s) {
			for _, q := range list(s) {
				a, b := of(x, p), of(x, q)
				wrong = wrong || p != q && (holds(x.Conflict[p], q) || holds(x.Conflict[q], p))
				wrong = wrong || p != q && s == y.Exit && (a.group != b.group || a.ring == b.ring)
			}
		}
	}
	empty := len(list(y.Clear)) == 0
	return wrong || y.Hold == 0 && !empty || y.Hold > 0 && empty ||
		y.Green < 1 || y.Stay < 1 || y.Most > 0 && y.Most < y.Stay || !(y.Limit > y.Delay)
}

// drawn is a well-formed table of any size; phases that are not On have anything that their ranges permit.
func drawn(r *rand.Rand) api.Table {
	x := api.Table{Extend: r.Intn(100), Budget: r.Intn(100), Start: r.Intn(100), Revert: r.Intn(100), Least: r.Intn(100), Window: r.Intn(100), Share: r.Intn(100)}
	phases := r.Perm(api.Phases)
	off := phases[1+r.Intn(api.Phases):]
	phases = phases[:len(phases)-len(off)]
	x.Groups = make([]rows, 1+r.Intn(min(4, len(phases))))
	for i, p := range phases {
		g, ring := i, r.Intn(2)
		if i >= len(x.Groups) {
			g = r.Intn(len(x.Groups))
		}
		x.Groups[g][ring] = append(x.Groups[g][ring], p)
		x.Phases[p] = drawnPhase(r)
	}
	drawConflict(r, &x, phases)
	for _, p := range off {
		x.Phases[p] = api.Phase{Min: r.Intn(3), Max: r.Intn(3), Top: r.Intn(3), Yellow: r.Intn(20), Walk: r.Intn(2), Recall: r.Intn(4)}
		x.Conflict[p], x.Flash[p] = r.Intn(256), r.Intn(3)
	}
	for range r.Intn(17) {
		level := 1 + r.Float64()
		x.Detectors = append(x.Detectors, api.Detector{Phase: phases[r.Intn(len(phases))], On: level + float64(r.Intn(2)), Off: level, Delay: r.Float64()})
	}
	for range r.Intn(5) {
		x.Rails = append(x.Rails, drawnRail(r, x, phases))
	}
	for range r.Intn(5) {
		x.Buses = append(x.Buses, api.Bus{Set: set.Of(phases[r.Intn(len(phases)):]...), Lock: 1 + r.Intn(3)})
	}
	return x
}

func drawnPhase(r *rand.Rand) api.Phase {
	y := api.Phase{On: true, Gap: r.Intn(3), Yellow: 10 + r.Intn(2), Red: r.Intn(3), Recall: r.Intn(3), Lock: r.Intn(2) == 0, Rest: r.Intn(2) == 0}
	y.Min = 1 + r.Intn(3)
	y.Max = y.Min + r.Intn(2)
	y.Top = y.Max + r.Intn(2)
	y.Step = y.Top - y.Max
	if r.Intn(2) == 0 {
		y.Walk, y.Blinks, y.Recall = 1+r.Intn(2), 1+r.Intn(2), r.Intn(4)
	}
	return y
}

// drawConflict sets Conflict and Flash of the phases that are On.
func drawConflict(r *rand.Rand, x *api.Table, phases []int) {
	yellow := 0
	for i, p := range phases {
		for _, q := range phases[:i] {
			a, b := of(*x, p), of(*x, q)
			if (a.group != b.group || a.ring == b.ring) && r.Intn(4) > 0 {
				x.Conflict[p] += 1 << q
				x.Conflict[q] += 1 << p
			}
		}
	}
	for _, p := range phases {
		x.Flash[p] = api.FlashRed
		if x.Conflict[p]&yellow == 0 && r.Intn(2) == 0 {
			x.Flash[p] = api.FlashYellow
			yellow += 1 << p
		}
	}
	for p := range x.Phases {
		if !slices.Contains(phases, p) {
			for _, q := range phases {
				x.Conflict[q] += r.Intn(2) << p
			}
		}
	}
}

// apart is a set of phases that do not conflict, where some are left out.
func apart(r *rand.Rand, x api.Table, phases []int) int {
	s := 0
	for _, i := range r.Perm(len(phases)) {
		if p := phases[i]; x.Conflict[p]&s == 0 && (s == 0 || r.Intn(2) == 0) {
			s += 1 << p
		}
	}
	return s
}

func drawnRail(r *rand.Rand, x api.Table, phases []int) api.Rail {
	y := api.Rail{Dwell: apart(r, x, phases), Delay: r.Intn(3), Green: 1 + r.Intn(2), Foot: r.Intn(3), Stay: 1 + r.Intn(3)}
	if r.Intn(2) == 0 {
		y.Clear, y.Hold = apart(r, x, phases), 1+r.Intn(2)
	}
	if r.Intn(2) == 0 {
		y.Most = y.Stay + r.Intn(2)
	}
	y.Bars = set.Of(phases...) & r.Intn(256) &^ y.Dwell
	y.Limit = y.Delay + 1 + r.Intn(2)
	p, q := phases[r.Intn(len(phases))], phases[r.Intn(len(phases))]
	y.Exit = set.Of(p)
	if a, b := of(x, p), of(x, q); a.group == b.group && a.ring != b.ring {
		y.Exit = set.Of(p, q)
	}
	return y
}

// leaves are the places of a table that hold a number or a bool.
func leaves(v reflect.Value) []reflect.Value {
	var l []reflect.Value
	switch v.Kind() {
	case reflect.Struct:
		for i := range v.NumField() {
			l = append(l, leaves(v.Field(i))...)
		}
	case reflect.Array, reflect.Slice:
		for i := range v.Len() {
			l = append(l, leaves(v.Index(i))...)
		}
	case reflect.Int, reflect.Bool, reflect.Float64:
		l = append(l, v)
	}
	return l
}

// stir changes one place of a table a little.
func stir(r *rand.Rand, x *api.Table) {
	l := leaves(reflect.ValueOf(x).Elem())
	switch v := l[r.Intn(len(l))]; v.Kind() {
	case reflect.Bool:
		v.SetBool(!v.Bool())
	case reflect.Float64:
		v.SetFloat(v.Float() * (0.5 + r.Float64()))
	default:
		n := v.Int()
		v.SetInt([]int64{0, 1, n + 1, max(0, n-1), n ^ 1<<r.Intn(8)}[r.Intn(5)])
	}
	if r.Intn(4) == 0 {
		stirGroup(r, x)
	}
}

// stirGroup appends or cuts off a phase of a row, or a group.
func stirGroup(r *rand.Rand, x *api.Table) {
	g, ring := r.Intn(len(x.Groups)), r.Intn(2)
	row := x.Groups[g][ring]
	switch n := r.Intn(6); {
	case n == 0:
		x.Groups = append(x.Groups, rows{})
	case n < 3:
		x.Groups[g][ring] = append(slices.Clone(row), r.Intn(api.Phases))
	case n < 5 && len(row) > 0:
		x.Groups[g][ring] = row[1:]
	case len(x.Groups) > 1:
		x.Groups = x.Groups[:len(x.Groups)-1]
	}
}

// P9.1: tables that are drawn to be well-formed are so, and what Check returns for tables with a few changed places is what the wording says.
func TestWorded(t *testing.T) {
	r := rand.New(rand.NewSource(9))
	met := map[api.Errno]int{}
	for i := range 15000 {
		x := drawn(r)
		want(t, "drawn", x, none())
		if w := worded(x); w != none() {
			t.Fatalf("the wording has %v for %+v", w, x)
		}
		for range 1 + i%3 {
			stir(r, &x)
		}
		f := worded(x)
		met[f.Code]++
		if got := Check(x); got != f {
			t.Fatalf("%+v: Check = {%d, %d}, want {%d, %d}", x, got.Code, got.At, f.Code, f.At)
		}
	}
	for _, code := range []api.Errno{api.OK, api.ErrRange, api.ErrPhase, api.ErrRing, api.ErrConflict, api.ErrDetector, api.ErrRail, api.ErrBus, api.ErrFlash} {
		if met[code] < 50 {
			t.Errorf("error %d was met %d times only", code, met[code])
		}
	}
}

// P9.2: in a table without a Fault no two phases that are Beside each other conflict, whatever Conflict and Groups were before.
func TestBeside(t *testing.T) {
	r := rand.New(rand.NewSource(92))
	pairs := 0
	for i := range 10000 {
		x := drawn(r)
		for range i % 2 {
			stirGroup(r, &x)
			x.Conflict[r.Intn(8)] ^= 1 << r.Intn(8)
		}
		if Check(x) != none() {
			continue
		}
		for p := range api.Phases {
			for q := range api.Phases {
				if !plan.Beside(x, p, q) {
					continue
				}
				pairs++
				if holds(x.Conflict[p], q) || holds(x.Conflict[q], p) {
					t.Fatalf("%v, %v: %d and %d are beside each other, and conflict", x.Groups, x.Conflict, p, q)
				}
			}
		}
	}
	if pairs < 1000 {
		t.Errorf("only %d pairs were met", pairs)
	}
}

// R1, P9.1: tables with anything in any place; all but a few are not within their ranges.
func TestAnything(t *testing.T) {
	ends := []int64{math.MinInt, math.MinInt32, -256, -1, 0, 1, 2, 3, 7, 8, 9, 10, 255, 256, 9999, 10000, math.MaxInt32, 1 << 31, math.MaxInt - 1, math.MaxInt}
	floats := []float64{math.NaN(), math.Inf(1), math.Inf(-1), math.Copysign(0, -1), 0, 1, -1, 1000001, math.MaxFloat64, math.SmallestNonzeroFloat64}
	r := rand.New(rand.NewSource(1))
	for range 5000 {
		x := drawn(r)
		if r.Intn(3) == 0 {
			x.Groups = append(x.Groups, make([]rows, r.Intn(300))...)
			x.Groups[0][0] = make([]int, r.Intn(300))
			x.Detectors = append(x.Detectors, make([]api.Detector, r.Intn(300))...)
			x.Rails = append(x.Rails, make([]api.Rail, r.Intn(300))...)
			x.Buses = append(x.Buses, make([]api.Bus, r.Intn(300))...)
		}
		l := leaves(reflect.ValueOf(&x).Elem())
		for range r.Intn(20) {
			switch v := l[r.Intn(len(l))]; v.Kind() {
			case reflect.Int:
				v.SetInt(ends[r.Intn(len(ends))])
			case reflect.Float64:
				v.SetFloat(floats[r.Intn(len(floats))])
			}
		}
		want(t, "anything", x, worded(x))
	}
}

// R3: a nil list and an empty list are equivalent.
func TestEmptyLists(t *testing.T) {
	x := small(3)
	x.Groups[0][1] = []int{}
	x.Detectors, x.Rails, x.Buses = []api.Detector{}, []api.Rail{}, []api.Bus{}
	want(t, "empty lists", x, none())
	x.Groups[0] = rows{{}, {}}
	want(t, "empty rows", x, at(api.ErrRing, 0))
}

// behind returns crossing with something wrong behind the length of its lists, and the memory of all of them.
func behind() (api.Table, func() any) {
	x := crossing()
	first, second := []int{1, 0, 4}, []int{5, 4}
	groups := []rows{{first[:2], second[:1]}, {nil, {6}}, {{3, 2}, {7}}, {{4}, {4}}}
	detectors := append(x.Detectors, api.Detector{Phase: 4})
	rails := append(x.Rails, api.Rail{})
	buses := append(x.Buses, api.Bus{})
	x.Groups, x.Detectors, x.Rails, x.Buses = groups[:3], detectors[:7], rails[:4], buses[:4]
	return x, func() any {
		lists := api.Table{Groups: groups, Detectors: detectors, Rails: rails, Buses: buses}
		return []any{slices.Clone(first), slices.Clone(second), table.Clone(lists)}
	}
}

// R3 and R4: Check changes no list and no memory behind one, finds nothing there, and returns the same again.
func TestKeepsLists(t *testing.T) {
	x, memory := behind()
	was := memory()
	for range 3 {
		want(t, "lists with more behind them", x, none())
	}
	x.Flash[7] = api.Dark
	for range 3 {
		want(t, "dark", x, at(api.ErrFlash, 7))
	}
	if now := memory(); !reflect.DeepEqual(now, was) {
		t.Errorf("the lists have become %+v, want %+v", now, was)
	}
}
