package calls

import (
	"math"
	"math/rand"
	"testing"

	"crossbuck/api"
	"crossbuck/table"
)

// noRecalls are numbers that are none of the recalls, also some whose lowest bits are those of one; the last recall is none for a car.
var noRecalls = []int{0, -1, -2, -3, 4, 5, 6, 7, 257, 258, 259, 1<<32 + 1, 1<<32 + 2, 1<<32 + 3, math.MinInt, math.MinInt + 2, math.MaxInt}

// noWalks and someWalks are numbers that are not above 0, and such that are.
var (
	noWalks   = []int{0, -1, -2, -9999, math.MinInt32, -(1 << 32) + 5, math.MinInt, math.MinInt + 1}
	someWalks = []int{1, 2, 9, 255, 256, 9999, 10000, 1 << 31, 1 << 32, math.MaxInt}
)

// above are bits that belong to no phase.
var above = []int{0, 1 << 8, 1 << 9, 0xFF00, 1 << 31, 1 << 32, 0xFF << 32, 1 << 62, math.MaxInt &^ 255, math.MinInt, -256}

// args are all arguments of the functions beside the table.
type args struct {
	c                       api.Calls
	here, push, green, walk int
}

// one is a table in which only phase p is not the zero value.
func one(p int, x api.Phase) api.Table {
	var t api.Table
	t.Phases[p] = x
	return t
}

// each is a table of eight phases that are the same.
func each(x api.Phase) api.Table {
	var t api.Table
	for p := range t.Phases {
		t.Phases[p] = x
	}
	return t
}

func held(t *testing.T, x api.Table, here, want int) {
	t.Helper()
	if got := Held(x, here); got != want {
		t.Fatalf("Held of %+v, here %#x = %#x, want %#x", x.Phases, here, got, want)
	}
}

func step(t *testing.T, x api.Table, a args, want api.Calls) {
	t.Helper()
	if got := Step(x, a.c, a.here, a.push, a.green, a.walk); got != want {
		t.Fatalf("Step of %+v, %#x = %#x, want %#x", x.Phases, a, got, want)
	}
}

func wants(t *testing.T, x api.Table, c api.Calls, here, want int) {
	t.Helper()
	if got := Want(x, c, here); got != want {
		t.Fatalf("Want of %+v, %#x, here %#x = %#x, want %#x", x.Phases, c, here, got, want)
	}
}

// P15.1: Held has the phases of here and those with MaxRecall, but none that is not On.
func TestHeld(t *testing.T) {
	x := api.Table{}
	x.Phases[0] = api.Phase{On: true}
	x.Phases[1] = api.Phase{On: true, Recall: api.MinRecall, Lock: true}
	x.Phases[2] = api.Phase{On: true, Recall: api.MaxRecall}
	x.Phases[3] = api.Phase{On: true, Recall: api.FootRecall, Walk: 5}
	x.Phases[4] = api.Phase{Recall: api.MaxRecall}
	x.Phases[5] = api.Phase{Lock: true, Walk: 5}
	x.Phases[7] = api.Phase{On: true, Recall: api.MaxRecall}
	for _, c := range []struct{ here, want int }{
		{0, 0x84}, {0x01, 0x85}, {0x02, 0x86}, {0x04, 0x84}, {0x08, 0x8C}, {0x10, 0x84}, {0x20, 0x84}, {0x40, 0x84}, {0x80, 0x84}, {0x0B, 0x8F}, {0xFF, 0x8F}, {-1, 0x8F}, {0x100, 0x84}, {-256, 0x84},
	} {
		held(t, x, c.here, c.want)
	}
}

// P15.1: each reason for a call of a car, by itself, for each phase: and the phase in green has none.
func TestStepCar(t *testing.T) {
	for p := range api.Phases {
		bit := 1 << p
		for _, r := range []struct {
			x     api.Phase
			a     args
			calls bool
		}{
			{api.Phase{On: true}, args{}, false},
			{api.Phase{On: true}, args{c: api.Calls{Car: bit}}, true},
			{api.Phase{On: true}, args{c: api.Calls{Car: 255 - bit, Foot: 255}, here: 255, push: 255, walk: 255}, false},
			{api.Phase{On: true, Lock: true}, args{}, false},
			{api.Phase{On: true, Lock: true}, args{here: bit}, true},
			{api.Phase{On: true, Lock: true}, args{here: 255 - bit, push: 255}, false},
			{api.Phase{On: true, Recall: api.MinRecall}, args{}, true},
			{api.Phase{On: true, Recall: api.MaxRecall}, args{}, true},
			{api.Phase{On: true, Recall: api.FootRecall, Walk: 1}, args{here: 255, push: 255, walk: bit}, false},
			{api.Phase{On: true, Rest: true, Walk: 1, Min: 1, Gap: 1, Max: 1, Top: 1, Step: 1, Yellow: 1, Red: 1, Blinks: 1}, args{here: 255, push: 255, walk: bit}, false},
			{api.Phase{Recall: api.MinRecall}, args{}, false},
			{api.Phase{Recall: api.MaxRecall, Lock: true}, args{c: api.Calls{Car: 255}, here: 255}, false},
		} {
			want := api.Calls{}
			if r.calls {
				want.Car = bit
			}
			step(t, one(p, r.x), r.a, want)
			r.a.green = 255 - bit
			step(t, one(p, r.x), r.a, want)
			r.a.green = bit
			step(t, one(p, r.x), r.a, api.Calls{})
		}
	}
}

// P15.1: each reason for a call on foot, by itself, for each phase: and the phase that walks has none.
func TestStepFoot(t *testing.T) {
	for p := range api.Phases {
		bit := 1 << p
		for _, r := range []struct {
			x     api.Phase
			a     args
			calls bool
		}{
			{api.Phase{On: true, Walk: 5}, args{}, false},
			{api.Phase{On: true, Walk: 5}, args{c: api.Calls{Foot: bit}}, true},
			{api.Phase{On: true, Walk: 5}, args{c: api.Calls{Car: 255, Foot: 255 - bit}, here: 255, green: 255}, false},
			{api.Phase{On: true, Walk: 5}, args{push: bit}, true},
			{api.Phase{On: true, Walk: 5}, args{push: 255 - bit, here: 255}, false},
			{api.Phase{On: true, Walk: 5, Recall: api.FootRecall}, args{}, true},
			{api.Phase{On: true, Walk: 5, Recall: api.MinRecall}, args{green: bit}, false},
			{api.Phase{On: true, Walk: 5, Recall: api.MaxRecall}, args{green: bit}, false},
			{api.Phase{On: true, Walk: 5, Lock: true, Rest: true}, args{here: 255, green: bit}, false},
			{api.Phase{On: true, Blinks: 5, Recall: api.FootRecall}, args{c: api.Calls{Foot: 255}, push: 255}, false},
			{api.Phase{Walk: 5, Blinks: 5, Recall: api.FootRecall}, args{c: api.Calls{Foot: 255}, push: 255}, false},
		} {
			want := api.Calls{}
			if r.calls {
				want.Foot = bit
			}
			r.a.green |= bit
			step(t, one(p, r.x), r.a, want)
			r.a.walk = 255 - bit
			step(t, one(p, r.x), r.a, want)
			r.a.walk = bit
			step(t, one(p, r.x), r.a, api.Calls{})
		}
	}
}

// P15.1: a phase that is green and does not walk loses its call of a car only, and one that walks its call on foot only.
func TestStepServed(t *testing.T) {
	x := each(api.Phase{On: true, Walk: 5})
	all := api.Calls{Car: 255, Foot: 255}
	for s := range 256 {
		step(t, x, args{c: all, green: s}, api.Calls{Car: 255 - s, Foot: 255})
		step(t, x, args{c: all, walk: s}, api.Calls{Car: 255, Foot: 255 - s})
		step(t, x, args{c: all, green: s, walk: 255 - s}, api.Calls{Car: 255 - s, Foot: s})
		step(t, x, args{c: api.Calls{Car: s, Foot: 255 - s}}, api.Calls{Car: s, Foot: 255 - s})
		step(t, x, args{here: 255, push: s}, api.Calls{Foot: s})
	}
}

// P15.1: each reason for a phase to be wanted, by itself, for each phase.
func TestWant(t *testing.T) {
	for p := range api.Phases {
		bit := 1 << p
		for _, r := range []struct {
			x    api.Phase
			c    api.Calls
			here int
			want bool
		}{
			{api.Phase{On: true}, api.Calls{}, 0, false},
			{api.Phase{On: true}, api.Calls{Car: bit}, 0, true},
			{api.Phase{On: true}, api.Calls{}, bit, true},
			{api.Phase{On: true, Walk: 1}, api.Calls{Foot: bit}, 0, true},
			{api.Phase{On: true, Blinks: 1}, api.Calls{Foot: bit}, 0, false},
			{api.Phase{On: true, Walk: 1}, api.Calls{Car: 255 - bit, Foot: 255 - bit}, 255 - bit, false},
			{api.Phase{On: true, Recall: api.MaxRecall}, api.Calls{}, 0, true},
			{api.Phase{On: true, Recall: api.MinRecall, Walk: 1}, api.Calls{}, 0, false},
			{api.Phase{On: true, Recall: api.FootRecall, Walk: 1}, api.Calls{}, 0, false},
			{api.Phase{On: true, Lock: true, Rest: true, Walk: 1}, api.Calls{}, 0, false},
			{api.Phase{Recall: api.MaxRecall, Walk: 1, Lock: true}, api.Calls{Car: 255, Foot: 255}, 255, false},
			{api.Phase{}, api.Calls{Car: 255, Foot: 255}, 255, false},
		} {
			want := 0
			if r.want {
				want = bit
			}
			wants(t, one(p, r.x), r.c, r.here, want)
		}
	}
}

// P15.1: a number that is no recall is none, for cars and on foot.
func TestNoRecalls(t *testing.T) {
	for _, n := range noRecalls {
		x := each(api.Phase{On: true, Walk: 5, Recall: n})
		held(t, x, 0, 0)
		held(t, x, 0x5A, 0x5A)
		step(t, x, args{here: 255}, api.Calls{})
		wants(t, x, api.Calls{}, 0, 0)
	}
}

// P15.1: a Walk is above 0 or not, for whatever number it is.
func TestWalks(t *testing.T) {
	for _, recall := range []int{api.NoRecall, api.FootRecall} {
		for _, n := range noWalks {
			x := each(api.Phase{On: true, Walk: n, Blinks: 5, Recall: recall})
			step(t, x, args{c: api.Calls{Foot: 255}, push: 255}, api.Calls{})
			wants(t, x, api.Calls{Foot: 255}, 0, 0)
			wants(t, x, api.Calls{Car: 0x21, Foot: 255}, 0x42, 0x63)
		}
		for _, n := range someWalks {
			x := each(api.Phase{On: true, Walk: n, Recall: recall})
			step(t, x, args{c: api.Calls{Foot: 255}}, api.Calls{Foot: 255})
			step(t, x, args{push: 255}, api.Calls{Foot: 255})
			wants(t, x, api.Calls{Foot: 255}, 0, 255)
		}
	}
}

// DOC.md, Terms: bits beyond the lowest eight are of no phase: they are in no result, and change none.
func TestAbove(t *testing.T) {
	x := each(api.Phase{On: true, Walk: 5, Lock: true})
	x.Phases[1].Recall, x.Phases[2].Recall, x.Phases[3].Recall, x.Phases[4].On = api.MinRecall, api.MaxRecall, api.FootRecall, false
	low := args{api.Calls{Car: 0x11, Foot: 0x12}, 0x24, 0x48, 0x42, 0x81}
	want := api.Calls{Car: 0x25, Foot: 0x4A}
	for _, high := range above {
		held(t, x, high, 0x04)
		held(t, x, high|low.here, 0x24)
		wants(t, x, api.Calls{Car: high, Foot: high}, high, 0x04)
		wants(t, x, api.Calls{Car: high | 0x11, Foot: high | 0x12}, high|0x80, 0x87)
		step(t, x, args{api.Calls{Car: high, Foot: high}, high, high, high, high}, api.Calls{Car: 0x06, Foot: 0x08})
		for i := range 6 {
			a := low
			*[]*int{&a.c.Car, &a.c.Foot, &a.here, &a.push, &a.green, &a.walk}[i] |= high
			step(t, x, a, want)
		}
	}
}

// wordedHeld, wordedStep and wordedWant are P15.1 for phase p, in the order of its words.
func wordedHeld(x api.Table, here, p int) bool {
	if !x.Phases[p].On {
		return false
	}
	return here>>p&1 == 1 || x.Phases[p].Recall == 2
}

func wordedStep(x api.Table, a args, p int) (car, foot bool) {
	of := x.Phases[p]
	in := func(s int) bool { return s>>p&1 == 1 }
	if of.On && !in(a.green) {
		switch {
		case in(a.c.Car), of.Lock && in(a.here), of.Recall == 1, of.Recall == 2:
			car = true
		}
	}
	if of.On && of.Walk > 0 && !in(a.walk) {
		switch {
		case in(a.c.Foot), in(a.push), of.Recall == 3:
			foot = true
		}
	}
	return car, foot
}

func wordedWant(x api.Table, c api.Calls, here, p int) bool {
	if !x.Phases[p].On {
		return false
	}
	return c.Car>>p&1 == 1 || wordedHeld(x, here, p) || c.Foot>>p&1 == 1 && x.Phases[p].Walk > 0
}

// worded compares all three functions with the words, and returns the calls.
func worded(t *testing.T, x api.Table, a args) api.Calls {
	t.Helper()
	var heldSet, wantSet int
	var c api.Calls
	for p := range 8 {
		if wordedHeld(x, a.here, p) {
			heldSet += 1 << p
		}
		car, foot := wordedStep(x, a, p)
		if car {
			c.Car += 1 << p
		}
		if foot {
			c.Foot += 1 << p
		}
		if wordedWant(x, a.c, a.here, p) {
			wantSet += 1 << p
		}
	}
	held(t, x, a.here, heldSet)
	step(t, x, a, c)
	wants(t, x, a.c, a.here, wantSet)
	return c
}

// P15.1: every combination of what is said of a phase, for each phase: where the other phases have nothing, and where they have everything.
func TestCombinations(t *testing.T) {
	full := api.Phase{On: true, Lock: true, Walk: 5, Recall: api.MaxRecall}
	for p := range api.Phases {
		for bits := range 1 << 8 {
			for _, recall := range []int{-1, 0, 1, 2, 3, 4} {
				for _, walk := range []int{-1, 0, 1} {
					x := api.Phase{On: bits&1 != 0, Lock: bits&2 != 0, Recall: recall, Walk: walk}
					in := func(k, rest int) int { return rest&^(1<<p) | bits>>k&1<<p }
					for _, rest := range []int{0, 255} {
						phases := api.Table{}
						if rest != 0 {
							phases = each(full)
						}
						phases.Phases[p] = x
						worded(t, phases, args{api.Calls{Car: in(2, rest), Foot: in(3, rest)}, in(4, rest), in(5, rest), in(6, rest), in(7, rest)})
					}
				}
			}
		}
	}
}

func drawnPhase(r *rand.Rand) api.Phase {
	x := api.Phase{On: r.Intn(5) > 0, Lock: r.Intn(2) == 0, Rest: r.Intn(2) == 0, Recall: r.Intn(4), Min: r.Intn(9) + 1, Gap: r.Intn(9), Max: r.Intn(20), Yellow: r.Intn(20), Red: r.Intn(9)}
	if r.Intn(2) == 0 {
		x.Walk, x.Blinks = r.Intn(9)+1, r.Intn(9)+1
	}
	if r.Intn(8) == 0 {
		x.Recall = int(r.Uint64())
	}
	if r.Intn(8) == 0 {
		x.Walk = int(r.Uint64())
	}
	return x
}

func drawnTable(r *rand.Rand) api.Table {
	var x api.Table
	for p := range x.Phases {
		x.Phases[p] = drawnPhase(r)
	}
	return x
}

// drawnSet has few or many phases, and now and then bits that are of none.
func drawnSet(r *rand.Rand) int {
	s := r.Intn(256)
	if r.Intn(2) == 0 {
		s &= r.Intn(256)
	}
	if r.Intn(8) == 0 {
		s |= int(r.Uint64()) &^ 255
	}
	return s
}

// P15.1: over drawn tables, in sequences of ticks; R4: and the same in a second call.
func TestWorded(t *testing.T) {
	r := rand.New(rand.NewSource(15))
	seen := map[api.Calls]bool{}
	for range 3000 {
		x := drawnTable(r)
		c := api.Calls{Car: drawnSet(r), Foot: drawnSet(r)}
		for range 12 {
			a := args{c, drawnSet(r), drawnSet(r), drawnSet(r), drawnSet(r)}
			next := worded(t, x, a)
			worded(t, x, a)
			c = next
			seen[c] = true
		}
	}
	if len(seen) < 5000 {
		t.Errorf("drawn: %d different calls", len(seen))
	}
}

// R4, R5: nothing counts but On, Lock, Recall and Walk of the phases, and whether Walk is above 0; and the table stays as it is (R3).
func TestOtherFields(t *testing.T) {
	r := rand.New(rand.NewSource(150))
	for range 3000 {
		x := drawnTable(r)
		a := args{api.Calls{Car: drawnSet(r), Foot: drawnSet(r)}, drawnSet(r), drawnSet(r), drawnSet(r), drawnSet(r)}
		want := worded(t, x, a)
		other := x
		for p := range other.Phases {
			f := &other.Phases[p]
			for _, n := range []*int{&f.Min, &f.Gap, &f.Max, &f.Top, &f.Step, &f.Yellow, &f.Red, &f.Blinks, &other.Conflict[p], &other.Flash[p]} {
				*n = int(r.Uint64())
			}
			f.Rest = !f.Rest
		}
		other.Groups = [][2][]int{{{0, 1, 2}, {-1, 4, 99}}, {}}
		other.Detectors = []api.Detector{{Phase: -1}, {Phase: 3, MaxOn: 1}}
		other.Rails, other.Buses = []api.Rail{{Bars: 255, Exit: -1}}, []api.Bus{{Set: 255, Lock: 1}}
		other.Extend, other.Budget, other.Start, other.Revert, other.Least, other.Window, other.Share = -1, 1, -2, 2, -3, 3, -4
		was := table.Clone(other)
		if got := worded(t, other, a); got != want {
			t.Fatalf("calls %#x, and %#x with other fields", want, got)
		}
		if !table.Same(other, was) {
			t.Fatal("the table is changed")
		}
	}
}

// P15.1: phases do not depend on each other: each is what it would be alone.
func TestAlone(t *testing.T) {
	r := rand.New(rand.NewSource(151))
	for range 3000 {
		x := drawnTable(r)
		a := args{api.Calls{Car: drawnSet(r), Foot: drawnSet(r)}, drawnSet(r), drawnSet(r), drawnSet(r), drawnSet(r)}
		var heldSet, wantSet int
		var c api.Calls
		for p, phase := range x.Phases {
			alone := one(p, phase)
			next := Step(alone, a.c, a.here, a.push, a.green, a.walk)
			c.Car |= next.Car
			c.Foot |= next.Foot
			heldSet |= Held(alone, a.here)
			wantSet |= Want(alone, a.c, a.here)
		}
		held(t, x, a.here, heldSet)
		step(t, x, a, c)
		wants(t, x, a.c, a.here, wantSet)
	}
}

// P15.2: a call that came in one tick only remains, and is wanted, for as long as it is not served; when it is served, it is gone.
func TestKept(t *testing.T) {
	x := each(api.Phase{On: true, Walk: 5, Lock: true})
	for p := range api.Phases {
		bit := 1 << p
		car := Step(x, api.Calls{}, bit, 0, 255-bit, 255)
		foot := Step(x, api.Calls{}, 0, bit, 255, 255-bit)
		for range 2 * api.MaxTime {
			car = Step(x, car, 0, 0, 255-bit, 255)
			foot = Step(x, foot, 0, 0, 255, 255-bit)
		}
		if car != (api.Calls{Car: bit}) || foot != (api.Calls{Foot: bit}) {
			t.Errorf("phase %d: kept are %#x and %#x", p, car, foot)
		}
		wants(t, x, car, 0, bit)
		wants(t, x, foot, 0, bit)
		step(t, x, args{c: car, green: bit}, api.Calls{})
		step(t, x, args{c: foot, walk: bit}, api.Calls{})
	}
}

// P15.2: the same for recalls: the call is there in each tick in which it is not served, and again behind it.
func TestKeptRecalls(t *testing.T) {
	for _, r := range []struct {
		recall    int
		car, foot int
	}{{api.MinRecall, 255, 0}, {api.MaxRecall, 255, 0}, {api.FootRecall, 0, 255}} {
		x := each(api.Phase{On: true, Walk: 5, Recall: r.recall})
		var c api.Calls
		for served := range 256 {
			c = Step(x, c, 0, 0, served, served)
			if c != (api.Calls{Car: r.car &^ served, Foot: r.foot &^ served}) {
				t.Fatalf("recall %d: kept are %#x beside %#x", r.recall, c, served)
			}
			wants(t, x, c, 0, c.Car|c.Foot|Held(x, 0))
		}
	}
}

// P15.2: in drawn sequences, whatever else comes, no call of a phase that is On is lost (on foot: of one that has a Walk) but by being served, and all kept calls are wanted.
func TestKeptDrawn(t *testing.T) {
	r := rand.New(rand.NewSource(152))
	lost := 0
	for range 2000 {
		x := drawnTable(r)
		var c api.Calls
		for range 30 {
			a := args{c, drawnSet(r), drawnSet(r), drawnSet(r) & drawnSet(r), drawnSet(r) & drawnSet(r)}
			next := Step(x, a.c, a.here, a.push, a.green, a.walk)
			if c.Car&^a.green&^next.Car != 0 || c.Foot&^a.walk&^next.Foot != 0 {
				t.Fatalf("lost: %#x, behind it %#x", a, next)
			}
			if c.Car&^next.Car != 0 && c.Foot&^next.Foot != 0 {
				lost++
			}
			if kept := next.Car | next.Foot; Want(x, next, a.here)&kept != kept {
				t.Fatalf("kept but not wanted: %#x, want %#x", next, Want(x, next, a.here))
			}
			c = next
		}
	}
	if lost < 1000 {
		t.Errorf("drawn: %d ticks in which calls were served", lost)
	}
}

// The example of the chapter: a car that arrived while its phase was red and has left is kept as a call, with Lock only; one that arrives while it is green is not.
func TestExample(t *testing.T) {
	for _, lock := range []bool{false, true} {
		x := one(4, api.Phase{On: true, Lock: lock})
		red := Step(x, api.Calls{}, 0x10, 0, 0, 0)
		later := Step(x, red, 0, 0, 0, 0)
		want := api.Calls{}
		if lock {
			want.Car = 0x10
		}
		if red != want || later != want {
			t.Errorf("Lock %t: kept are %#x and %#x, want %#x", lock, red, later, want)
		}
		wants(t, x, red, 0x10, 0x10)
		wants(t, x, later, 0, want.Car)
		step(t, x, args{here: 0x10, green: 0x10}, api.Calls{})
	}
}
