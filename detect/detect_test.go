package detect

import (
	"math"
	"math/rand"
	"slices"
	"testing"

	"crossbuck/api"
	"crossbuck/delay"
	"crossbuck/diag"
	"crossbuck/level"
	"crossbuck/secs"
)

var (
	inf   = math.Inf(1)
	nan   = math.NaN()
	minus = math.Copysign(0, -1)
)

// faulty are samples that are bad.
var faulty = []float64{nan, -nan, math.Float64frombits(0x7FF0000000000001), inf, -inf, math.Nextafter(1000000, inf), math.Nextafter(-1000000, -inf), 1e300, -math.MaxFloat64}

// noPhases are numbers that are not phases, also some whose lowest bits are those of a phase.
var noPhases = []int{-1, -2, -8, -64, 8, 9, 15, 16, 31, 32, 35, 62, 63, 64, 67, 256, 259, 1 << 32, 1<<32 + 3, math.MinInt32, math.MinInt, math.MinInt + 3, math.MaxInt}

// out, failed, stuckOn and stuckOff are channels of which each calls for one reason only, the last two with MaxOn 3 and MaxOff 4.
var (
	out      = api.Channel{Timer: api.Timer{Out: true}}
	failed   = api.Channel{Level: api.Level{Bad: 3}}
	stuckOn  = api.Channel{Watch: api.Watch{On: 3}}
	stuckOff = api.Channel{Watch: api.Watch{Off: 4}}
)

func tableOf(l ...api.Detector) api.Table { return api.Table{Detectors: l} }

func step(t *testing.T, x api.Table, l []api.Channel, samples []float64, want ...api.Channel) {
	t.Helper()
	if got := Step(x, l, samples); !slices.Equal(got, want) {
		t.Errorf("Step of %v, %v, samples %v = %v, want %v", x.Detectors, l, samples, got, want)
	}
}

func here(t *testing.T, x api.Table, l []api.Channel, want int) {
	t.Helper()
	if got := Here(x, l); got != want {
		t.Errorf("Here of %v, %v = %#x, want %#x", x.Detectors, l, got, want)
	}
}

// P14.1: a detector, tick by tick: a vehicle that comes and goes, one that is too short for the delay, and samples that fail.
func TestTicks(t *testing.T) {
	x := tableOf(api.Detector{Phase: 6, On: 5, Off: 2, Delay: 0.1, Extend: 0.2, MaxOn: 4, MaxOff: 3})
	var l []api.Channel
	for i, tick := range []struct {
		sample float64
		want   api.Channel
		calls  bool
	}{
		{6, api.Channel{Level: api.Level{On: true}, Watch: api.Watch{On: 1}, Timer: api.Timer{Held: 1}}, false},
		{3, api.Channel{Level: api.Level{On: true}, Watch: api.Watch{On: 2}, Timer: api.Timer{Held: 2, Tail: 2, Out: true}}, true},
		{2, api.Channel{Watch: api.Watch{Off: 1}, Timer: api.Timer{Tail: 1, Out: true}}, true},
		{5, api.Channel{Level: api.Level{On: true}, Watch: api.Watch{On: 1}, Timer: api.Timer{Held: 1, Out: true}}, true},
		{0, api.Channel{Watch: api.Watch{Off: 1}}, false},
		{3, api.Channel{Watch: api.Watch{Off: 2}}, false},
		{-1, api.Channel{Watch: api.Watch{Off: 3}}, true},
		{nan, api.Channel{Level: api.Level{Bad: 1}, Watch: api.Watch{Off: 4}}, true},
		{9, api.Channel{Level: api.Level{On: true}, Watch: api.Watch{On: 1}, Timer: api.Timer{Held: 1}}, false},
		{1, api.Channel{Watch: api.Watch{Off: 1}}, false},
		{inf, api.Channel{Level: api.Level{Bad: 1}, Watch: api.Watch{Off: 2}}, false},
		{-inf, api.Channel{Level: api.Level{Bad: 2}, Watch: api.Watch{Off: 3}}, true},
		{nan, api.Channel{Level: api.Level{Bad: 3}, Watch: api.Watch{On: 1}, Timer: api.Timer{Held: 1}}, true},
		{nan, api.Channel{Level: api.Level{Bad: 4}, Watch: api.Watch{On: 2}, Timer: api.Timer{Held: 2, Tail: 2, Out: true}}, true},
		{3, api.Channel{Watch: api.Watch{Off: 1}, Timer: api.Timer{Tail: 1, Out: true}}, true},
		{3, api.Channel{Watch: api.Watch{Off: 2}, Timer: api.Timer{Out: true}}, true},
		{7, api.Channel{Level: api.Level{On: true}, Watch: api.Watch{On: 1}, Timer: api.Timer{Held: 1}}, false},
	} {
		l = Step(x, l, []float64{tick.sample})
		if !slices.Equal(l, []api.Channel{tick.want}) || (Here(x, l) == 0x40) != tick.calls || Here(x, l)&^0x40 != 0 {
			t.Fatalf("tick %d: %v, Here %#x, want %v and %t", i, l, Here(x, l), tick.want, tick.calls)
		}
	}
}

// P14.1: each detector has its own numbers, the channel at its index and the sample at its index.
func TestStepElements(t *testing.T) {
	first := api.Detector{Phase: 1, On: 5, Off: 2, Delay: 0.3, Extend: 0.7}
	second := api.Detector{Phase: 1, On: 50, Off: 20, Delay: 0, Extend: 0.9}
	third := api.Detector{Phase: 1, On: 500, Off: 200, Delay: 99, Extend: 1}
	l := []api.Channel{
		{Level: api.Level{Bad: 1}, Watch: api.Watch{Off: 10}, Timer: api.Timer{Held: 3}},
		{Level: api.Level{On: true}, Watch: api.Watch{On: 20}, Timer: api.Timer{Held: 20, Tail: 9, Out: true}},
		{Level: api.Level{On: true, Bad: 2}, Watch: api.Watch{On: 30}, Timer: api.Timer{Held: 30, Tail: 5, Out: true}},
	}
	step(t, tableOf(first, second, third), l, []float64{5, 20, 201},
		api.Channel{Level: api.Level{On: true}, Watch: api.Watch{On: 1}, Timer: api.Timer{Held: 4, Tail: 7, Out: true}},
		api.Channel{Watch: api.Watch{Off: 1}, Timer: api.Timer{Tail: 8, Out: true}},
		api.Channel{Level: api.Level{On: true}, Watch: api.Watch{On: 31}, Timer: api.Timer{Held: 31, Tail: 4, Out: true}})
	step(t, tableOf(third, first, second), l, []float64{20, nan, nan},
		api.Channel{Watch: api.Watch{Off: 11}},
		api.Channel{Level: api.Level{On: true, Bad: 1}, Watch: api.Watch{On: 21}, Timer: api.Timer{Held: 21, Tail: 7, Out: true}},
		api.Channel{Level: api.Level{On: true, Bad: 3}, Watch: api.Watch{On: 31}, Timer: api.Timer{Held: 31, Tail: 9, Out: true}})
}

// P14.1: a channel that l does not have is the zero value, and a sample that is missing is bad; what is too much, and what is behind the length of a list, does not count.
func TestStepMissing(t *testing.T) {
	d := api.Detector{On: 5, Off: 2, Extend: 0.4}
	x := tableOf(d, d, d)
	c := api.Channel{Level: api.Level{On: true, Bad: 1}, Watch: api.Watch{On: 7}, Timer: api.Timer{Held: 7, Tail: 4, Out: true}}
	all, samples := []api.Channel{c, c, c, c}, []float64{3, 3, 3, 3}
	for channels := range 5 {
		for given := range 5 {
			var want []api.Channel
			for i := range 3 {
				next := api.Channel{Watch: api.Watch{Off: 1}}
				if i < channels {
					next = api.Channel{Level: api.Level{On: true}, Watch: api.Watch{On: 8}, Timer: api.Timer{Held: 8, Tail: 4, Out: true}}
				}
				if i >= given {
					next.Level.Bad = 1
				}
				if i >= given && i < channels {
					next.Level.Bad = 2
				}
				want = append(want, next)
			}
			step(t, x, all[:channels], samples[:given], want...)
		}
	}
	step(t, x, nil, nil, Step(x, []api.Channel{}, []float64{})...)
}

// P14.1: there are as many channels as detectors, none and more than a table may have among them.
func TestStepLength(t *testing.T) {
	for _, n := range []int{0, 1, 2, api.MaxDetectors, api.MaxDetectors + 1, 100} {
		x := tableOf(make([]api.Detector, n)...)
		for i := range x.Detectors {
			x.Detectors[i] = api.Detector{Phase: 7, On: float64(i), Off: -1}
		}
		for _, given := range []int{0, 1, 50, 200} {
			samples := slices.Repeat([]float64{25}, given)
			got := Step(x, make([]api.Channel, 300), samples)
			if len(got) != n {
				t.Fatalf("%d channels of %d detectors", len(got), n)
			}
			for i, c := range got {
				if c.Level.On != (i < given && i <= 25) || (c.Level.Bad == 1) != (i >= given) {
					t.Errorf("%d detectors, %d samples: channel %d is %v", n, given, i, c)
				}
			}
		}
	}
	step(t, api.Table{}, []api.Channel{out, failed}, []float64{1, 2})
}

// P14.1: Watch and Timer have what is seen at the new Level, not at the previous one.
func TestStepSeen(t *testing.T) {
	x := tableOf(api.Detector{On: 5, Off: 2})
	on, off := api.Watch{On: 1}, api.Watch{Off: 1}
	held, none := api.Timer{Held: 1, Out: true}, api.Timer{}
	for _, c := range []struct {
		was    api.Level
		sample float64
		now    api.Level
		watch  api.Watch
		timer  api.Timer
	}{
		{api.Level{}, 5, api.Level{On: true}, on, held}, {api.Level{}, 3, api.Level{}, off, none}, {api.Level{}, 2, api.Level{}, off, none},
		{api.Level{On: true}, 5, api.Level{On: true}, on, held}, {api.Level{On: true}, 3, api.Level{On: true}, on, held}, {api.Level{On: true}, 2, api.Level{}, off, none},
		{api.Level{Bad: 1}, nan, api.Level{Bad: 2}, off, none}, {api.Level{Bad: 2}, nan, api.Level{Bad: 3}, on, held}, {api.Level{Bad: 3}, inf, api.Level{Bad: 4}, on, held},
		{api.Level{On: true, Bad: 1}, nan, api.Level{On: true, Bad: 2}, on, held}, {api.Level{Bad: 9}, 3, api.Level{}, off, none}, {api.Level{Bad: 9}, 5, api.Level{On: true}, on, held},
		{api.Level{On: true, Bad: 9}, 2, api.Level{}, off, none}, {api.Level{Bad: math.MaxInt}, -inf, api.Level{Bad: 10000}, on, held}, {api.Level{Bad: math.MinInt}, nan, api.Level{Bad: 1}, off, none},
	} {
		step(t, x, []api.Channel{{Level: c.was}}, []float64{c.sample}, api.Channel{Level: c.now, Watch: c.watch, Timer: c.timer})
	}
}

// seconds are times, with the ticks that secs.Ticks makes of them; what it refuses has 0.
var seconds = []struct {
	s float64
	n int
}{
	{0, 0}, {minus, 0}, {0.04, 0}, {0.05, 0}, {math.Nextafter(0.05, 1), 1}, {0.1, 1}, {0.15, 2}, {0.24, 2}, {0.25, 2}, {0.26, 3}, {0.35, 4}, {1, 10}, {2.5, 25}, {60, 600}, {999.8, 9998}, {999.9, 9999},
	{math.Nextafter(999.9, inf), 0}, {1000, 0}, {9999, 0}, {1e300, 0}, {-math.SmallestNonzeroFloat64, 0}, {-0.1, 0}, {-60, 0}, {inf, 0}, {-inf, 0}, {nan, 0}, {-nan, 0},
}

// P14.1: Delay and Extend are seconds, each converted by itself.
func TestStepSeconds(t *testing.T) {
	seen := api.Level{On: true}
	for _, late := range seconds {
		for _, tail := range seconds {
			x := tableOf(api.Detector{On: 5, Off: 2, Delay: late.s, Extend: tail.s})
			l := []api.Channel{{Level: seen, Timer: api.Timer{Held: late.n}}}
			step(t, x, l, []float64{3}, api.Channel{Level: seen, Watch: api.Watch{On: 1}, Timer: api.Timer{Held: late.n + 1, Tail: tail.n, Out: true}})
			if late.n > 0 {
				l[0].Timer.Held--
				step(t, x, l, []float64{3}, api.Channel{Level: seen, Watch: api.Watch{On: 1}, Timer: api.Timer{Held: late.n}})
			}
		}
	}
}

// P14.1: Step asks neither Phase nor MaxOn nor MaxOff of a detector, and nothing else of the table.
func TestStepOtherFields(t *testing.T) {
	plain := api.Detector{On: 5, Off: 2, Delay: 0.2, Extend: 0.3}
	other := tableOf(plain, plain, plain)
	for i := range other.Detectors {
		other.Detectors[i].Phase, other.Detectors[i].MaxOn, other.Detectors[i].MaxOff = noPhases[i], i, -i
	}
	other.Groups, other.Rails, other.Buses, other.Share = make([][2][]int, 9), make([]api.Rail, 9), make([]api.Bus, 9), -1
	r := rand.New(rand.NewSource(140))
	var l []api.Channel
	for range 2000 {
		samples := []float64{drawnSample(r, plain), drawnSample(r, plain)}
		l = Step(tableOf(plain, plain, plain), l, samples)
		step(t, other, l, samples, Step(tableOf(plain, plain, plain), l, samples)...)
	}
}

// R3: Step and Here leave their lists and what is behind them as they are, and the result is new memory.
func TestLists(t *testing.T) {
	d := api.Detector{Phase: 3, On: 5, Off: 2, Extend: 1, MaxOn: 3, MaxOff: 4}
	detectors, channels, samples := []api.Detector{d, d, d, d}, []api.Channel{out, failed, stuckOn, stuckOff}, []float64{1, 9, 3, 7}
	x, l, s := tableOf(detectors[:2]...), channels[:2], samples[:2]
	same := func() bool {
		return slices.Equal(detectors, []api.Detector{d, d, d, d}) && slices.Equal(channels, []api.Channel{out, failed, stuckOn, stuckOff}) && slices.Equal(samples, []float64{1, 9, 3, 7})
	}
	got := Step(x, l, s)
	want := slices.Clone(got)
	here(t, x, l, 8)
	if !same() {
		t.Errorf("changed: %v, %v, %v", detectors, channels, samples)
	}
	again := Step(x, l, s)
	for i := range again {
		again[i] = stuckOff
	}
	_ = append(again, stuckOff, stuckOff)
	if !same() || !slices.Equal(got, want) {
		t.Errorf("not new memory: %v, %v", channels, got)
	}
	l[0], s[0], detectors[0].Extend = stuckOn, nan, 5
	if !slices.Equal(got, want) {
		t.Errorf("kept: %v, want %v", got, want)
	}
}

// P14.1: a channel calls if it is Out, has failed or is stuck, and for nothing else.
func TestHere(t *testing.T) {
	x := tableOf(api.Detector{Phase: 5, MaxOn: 3, MaxOff: 4})
	for _, c := range []struct {
		c     api.Channel
		calls bool
	}{
		{api.Channel{}, false}, {out, true}, {failed, true}, {stuckOn, true}, {stuckOff, true},
		{api.Channel{Timer: api.Timer{Held: 9999, Tail: 9999}}, false}, {api.Channel{Timer: api.Timer{Held: 9999, Tail: 9999, Out: true}}, true},
		{api.Channel{Level: api.Level{On: true}}, false}, {api.Channel{Level: api.Level{On: true, Bad: 2}}, false}, {api.Channel{Level: api.Level{On: true, Bad: 3}}, true},
		{api.Channel{Level: api.Level{Bad: 2}}, false}, {api.Channel{Level: api.Level{Bad: 10000}}, true}, {api.Channel{Level: api.Level{Bad: math.MaxInt}}, true}, {api.Channel{Level: api.Level{Bad: math.MinInt}}, false},
		{api.Channel{Watch: api.Watch{On: 2, Off: 3}}, false}, {api.Channel{Watch: api.Watch{On: 4}}, true}, {api.Channel{Watch: api.Watch{Off: 5}}, true}, {api.Channel{Watch: api.Watch{On: 2, Off: 4}}, true}, {api.Channel{Watch: api.Watch{On: 3, Off: 3}}, true},
		{api.Channel{Level: api.Level{On: true, Bad: 2}, Watch: api.Watch{On: 2, Off: 3}, Timer: api.Timer{Held: 7, Tail: 7}}, false},
		{api.Channel{Level: api.Level{On: true, Bad: 3}, Watch: api.Watch{On: 3, Off: 4}, Timer: api.Timer{Held: 7, Tail: 7, Out: true}}, true},
	} {
		want := 0
		if c.calls {
			want = 0x20
		}
		here(t, x, []api.Channel{c.c}, want)
	}
}

// P14.1: the limits of Stuck are MaxOn for On and MaxOff for Off, of the detector itself; one that is not above 0 is none.
func TestHereLimits(t *testing.T) {
	for _, limit := range []int{math.MinInt, -9999, -1, 0, 1, 2, 30, 9998, 9999, 10000, math.MaxInt} {
		for _, n := range []int{math.MinInt, -1, 0, 1, 2, 29, 30, 31, 9998, 9999, 10000, math.MaxInt} {
			want := 0
			if limit > 0 && n >= limit {
				want = 1
			}
			on, off := []api.Channel{{Watch: api.Watch{On: n}}}, []api.Channel{{Watch: api.Watch{Off: n}}}
			here(t, tableOf(api.Detector{MaxOn: limit}), on, want)
			here(t, tableOf(api.Detector{MaxOff: limit}), off, want)
			here(t, tableOf(api.Detector{MaxOff: limit}), on, 0)
			here(t, tableOf(api.Detector{MaxOn: limit}), off, 0)
			here(t, tableOf(api.Detector{Phase: 1, MaxOn: 5}, api.Detector{MaxOn: limit}), []api.Channel{{Watch: api.Watch{On: 4}}, on[0]}, want)
			here(t, tableOf(api.Detector{MaxOn: limit}, api.Detector{Phase: 1, MaxOn: 5}), []api.Channel{on[0], {Watch: api.Watch{On: 5}}}, want|2)
		}
	}
}

// P14.1: over all sets of detectors that call, and for each reason to call, Here is the set of their phases.
func TestHereSets(t *testing.T) {
	phases := []int{6, 2, 0, 7, 1, 5, 3, 4}
	x := api.Table{}
	for _, p := range phases {
		x.Detectors = append(x.Detectors, api.Detector{Phase: p, MaxOn: 3, MaxOff: 4})
	}
	for _, c := range []api.Channel{out, failed, stuckOn, stuckOff} {
		for who := range 256 {
			l, want := make([]api.Channel, 8), 0
			for i, p := range phases {
				if who>>i&1 == 1 {
					l[i] = c
					want += 1 << p
				}
			}
			here(t, x, l, want)
		}
	}
}

// P14.1: a phase is called by any of its detectors, once or more often, and whether it is On or not.
func TestHereShared(t *testing.T) {
	d := api.Detector{Phase: 2, MaxOn: 3, MaxOff: 4}
	x := tableOf(d, d, d, api.Detector{Phase: 0})
	for i := range 3 {
		l := make([]api.Channel, 4)
		l[i] = stuckOff
		here(t, x, l, 4)
		l[3] = out
		here(t, x, l, 5)
	}
	here(t, x, []api.Channel{out, failed, stuckOn, {}}, 4)
	x.Phases[2].On = true
	here(t, x, []api.Channel{out, failed, stuckOn, out}, 5)
}

// P14.1: a number that is not a phase is in no set, and takes nothing from the other ones.
func TestHereNoPhases(t *testing.T) {
	for _, p := range noPhases {
		for _, c := range []api.Channel{{}, out, failed} {
			here(t, tableOf(api.Detector{Phase: p}), []api.Channel{c}, 0)
			here(t, tableOf(api.Detector{Phase: p}, api.Detector{Phase: 7}, api.Detector{Phase: p}), []api.Channel{c, out, c}, 0x80)
		}
		step(t, tableOf(api.Detector{Phase: p, On: 5, Off: 2}), nil, []float64{6}, api.Channel{Level: api.Level{On: true}, Watch: api.Watch{On: 1}, Timer: api.Timer{Held: 1, Out: true}})
	}
	for p := range api.Phases {
		here(t, tableOf(api.Detector{Phase: p}), []api.Channel{out}, 1<<p)
	}
}

// P14.1: a detector without a channel in l calls nothing, and a channel without a detector does not count; nor does what is behind the length of l.
func TestHereMissing(t *testing.T) {
	all := slices.Repeat([]api.Channel{out}, 40)
	for n := range 9 {
		x := api.Table{}
		for p := range n {
			x.Detectors = append(x.Detectors, api.Detector{Phase: p, MaxOn: 1, MaxOff: 1})
		}
		for given := range 12 {
			here(t, x, all[:given], 1<<min(n, given)-1)
		}
		here(t, x, nil, 0)
	}
	last := make([]api.Detector, 40)
	last[39].Phase = 6
	here(t, tableOf(last...), all, 0x41)
	here(t, tableOf(last...), all[:39], 1)
}

// P14.1: Here asks neither On and Off nor Delay and Extend of a detector.
func TestHereOtherFields(t *testing.T) {
	for _, c := range []api.Channel{{}, out, failed, stuckOn, stuckOff, {Level: api.Level{On: true}, Timer: api.Timer{Held: 5, Tail: 5}}} {
		want := Here(tableOf(api.Detector{Phase: 4, MaxOn: 3, MaxOff: 4}), []api.Channel{c})
		for _, s := range []float64{0, minus, 1, -1, 999.9, 1e300, inf, -inf, nan} {
			here(t, tableOf(api.Detector{Phase: 4, On: s, Off: s, Delay: s, Extend: s, MaxOn: 3, MaxOff: 4}), []api.Channel{c}, want)
		}
	}
}

// worded is a channel of P14.1, by the functions of the lower layers that it names.
func worded(d api.Detector, i int, l []api.Channel, samples []float64) api.Channel {
	var was, now api.Channel
	sample := nan
	if len(l) > i {
		was = l[i]
	}
	if len(samples) > i {
		sample = samples[i]
	}
	wait, okWait := secs.Ticks(d.Delay)
	tail, okTail := secs.Ticks(d.Extend)
	if !okWait {
		wait = 0
	}
	if !okTail {
		tail = 0
	}
	now.Level = level.Step(d, was.Level, sample)
	now.Watch = diag.Step(was.Watch, level.Seen(now.Level))
	now.Timer = delay.Step(wait, tail, was.Timer, level.Seen(now.Level))
	return now
}

// wordedHere is Here of P14.1, a phase at a time.
func wordedHere(x api.Table, l []api.Channel) int {
	s := 0
	for p := range 8 {
		called := false
		for i, d := range x.Detectors {
			if d.Phase == p && i < len(l) && (l[i].Timer.Out || l[i].Level.Bad > 2 || d.MaxOn > 0 && l[i].Watch.On >= d.MaxOn || d.MaxOff > 0 && l[i].Watch.Off >= d.MaxOff) {
				called = true
			}
		}
		if called {
			s += 1 << p
		}
	}
	return s
}

func drawnSample(r *rand.Rand, d api.Detector) float64 {
	switch r.Intn(6) {
	case 0:
		return faulty[r.Intn(len(faulty))]
	case 1:
		return d.On
	case 2:
		return d.Off
	}
	return d.Off + (d.On-d.Off)*(2*r.Float64()-0.5)
}

// drawnNumber is small, or has any bits.
func drawnNumber(r *rand.Rand) int {
	if r.Intn(8) == 0 {
		return int(r.Uint64())
	}
	return r.Intn(14) - 2
}

func drawnDetector(r *rand.Rand) api.Detector {
	d := api.Detector{Phase: r.Intn(8), On: 50 + 50*r.Float64(), Off: 50 * r.Float64(), Delay: r.Float64(), Extend: r.Float64(), MaxOn: drawnNumber(r), MaxOff: drawnNumber(r)}
	if r.Intn(8) == 0 {
		d.Phase = drawnNumber(r)
	}
	if r.Intn(8) == 0 {
		d.Delay = math.Float64frombits(r.Uint64())
	}
	if r.Intn(8) == 0 {
		d.Extend = math.Float64frombits(r.Uint64())
	}
	return d
}

func drawnChannel(r *rand.Rand) api.Channel {
	return api.Channel{
		Level: api.Level{On: r.Intn(2) == 0, Bad: drawnNumber(r)},
		Watch: api.Watch{On: drawnNumber(r), Off: drawnNumber(r)},
		Timer: api.Timer{Held: drawnNumber(r), Tail: drawnNumber(r), Out: r.Intn(2) == 0},
	}
}

// P14.1: in sequences of drawn ticks, from drawn channels and with drawn lengths of the lists, Step and Here are what the words say; R4: and the same in a second call.
func TestWorded(t *testing.T) {
	r := rand.New(rand.NewSource(14))
	seen := map[int]int{}
	for range 1500 {
		var x api.Table
		var l []api.Channel
		for range r.Intn(7) {
			x.Detectors = append(x.Detectors, drawnDetector(r))
		}
		for range r.Intn(8) {
			l = append(l, drawnChannel(r))
		}
		for range 12 {
			seen[wordedHere(x, l)]++
			here(t, x, l, wordedHere(x, l))
			here(t, x, l, wordedHere(x, l))
			var samples []float64
			for range r.Intn(9) {
				samples = append(samples, drawnSample(r, api.Detector{On: 75, Off: 25}))
			}
			var next []api.Channel
			for i, d := range x.Detectors {
				next = append(next, worded(d, i, l, samples))
			}
			step(t, x, l, samples, next...)
			step(t, x, l, samples, next...)
			l = next
		}
	}
	if len(seen) < 200 || seen[0] > 9000 {
		t.Errorf("drawn: %d sets, the empty one %d times", len(seen), seen[0])
	}
}

// R4: two detectors, and two tables, do not depend on each other: each channel is what it would be alone.
func TestIndependent(t *testing.T) {
	r := rand.New(rand.NewSource(141))
	for range 500 {
		var x api.Table
		for range 4 {
			x.Detectors = append(x.Detectors, drawnDetector(r))
		}
		var l []api.Channel
		alone := make([][]api.Channel, 4)
		for range 12 {
			samples := make([]float64, 4)
			for i := range samples {
				samples[i] = drawnSample(r, x.Detectors[i])
			}
			l = Step(x, l, samples)
			union := 0
			for i, d := range x.Detectors {
				alone[i] = Step(tableOf(d), alone[i], samples[i:i+1])
				if len(alone[i]) != 1 || alone[i][0] != l[i] {
					t.Fatalf("detector %d is %v among others, %v alone", i, l[i], alone[i])
				}
				union |= Here(tableOf(d), alone[i])
			}
			here(t, x, l, union)
		}
	}
}

// P14.2: a detector whose samples are missing or bad calls its phase from the third tick on at the latest, whatever it was, however its delay and limits are, and calls it in every tick until a sample is good.
func TestBroken(t *testing.T) {
	r := rand.New(rand.NewSource(142))
	for range 3000 {
		d := drawnDetector(r)
		d.Phase = r.Intn(8)
		l := []api.Channel{drawnChannel(r)}
		for tick := range 30 {
			samples := []float64{faulty[r.Intn(len(faulty))]}
			if r.Intn(2) == 0 {
				samples = nil
			}
			l = Step(tableOf(d), l, samples)
			if tick >= 2 && Here(tableOf(d), l) != 1<<d.Phase {
				t.Fatalf("%v does not call in tick %d: %v", d, tick, l)
			}
		}
	}
}

// P14.2: it calls for as long as it is broken, also when its counts are at their ends, and with the longest delay; a good sample ends it.
func TestBrokenLong(t *testing.T) {
	x := tableOf(api.Detector{Phase: 1, On: 5, Off: 2, Delay: 999.9})
	var l []api.Channel
	for tick := range 2*api.MaxTime + 5 {
		l = Step(x, l, nil)
		if (Here(x, l) == 2) != (tick >= 2) {
			t.Fatalf("Here is %#x in tick %d: %v", Here(x, l), tick, l)
		}
	}
	step(t, x, l, nil, api.Channel{Level: api.Level{Bad: 10000}, Watch: api.Watch{On: 10000}, Timer: api.Timer{Held: 10000, Out: true}})
	l = Step(x, l, []float64{1})
	here(t, x, l, 0)
}

// P14.2: a detector that is stuck calls its phase permanently, too: on, even where its delay never lets it be Out; and off, where nothing is seen.
func TestStuckLong(t *testing.T) {
	for _, limit := range []int{1, 2, 300, 9998, 9999} {
		x := tableOf(api.Detector{Phase: 1, On: 5, Off: 2, Delay: 999.9, MaxOn: limit}, api.Detector{Phase: 4, On: 5, Off: 2, MaxOff: limit}, api.Detector{Phase: 6, On: 5, Off: 2, Delay: 999.9, MaxOff: limit}, api.Detector{Phase: 7, On: 5, Off: 2, MaxOn: limit})
		var l []api.Channel
		for tick := range 2*api.MaxTime + 5 {
			l = Step(x, l, []float64{6, 1, 6, 1})
			want := 0
			if tick >= limit-1 {
				want = 0x12
			}
			if tick >= 9999 {
				want |= 0x40
			}
			if Here(x, l) != want {
				t.Fatalf("limit %d, tick %d: Here is %#x, want %#x", limit, tick, Here(x, l), want)
			}
		}
	}
}

// The example of the chapter: for all kinds of detectors, none of which calls without samples before the third tick.
func TestExample(t *testing.T) {
	x := api.Table{}
	for i := range api.MaxDetectors {
		x.Detectors = append(x.Detectors, api.Detector{Phase: i % 8, On: 5, Off: 2, Delay: float64(i) * 60, Extend: float64(i), MaxOn: i, MaxOff: i * i * 5})
	}
	var l []api.Channel
	for _, want := range []int{0, 0, 0xFF, 0xFF} {
		l = Step(x, l, nil)
		here(t, x, l, want)
	}
	for i := range x.Detectors {
		one := make([]api.Channel, len(l))
		one[i] = l[i]
		here(t, x, one, 1<<(i%8))
	}
}
