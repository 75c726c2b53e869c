package delay

import (
	"math"
	"math/rand"
	"slices"
	"testing"

	"crossbuck/api"
)

// counts are numbers of all kinds, with what each is limited to 0 to MaxTime.
var counts = []struct{ n, limited int }{
	{0, 0}, {1, 1}, {2, 2}, {3, 3}, {255, 255}, {256, 256}, {5000, 5000}, {9997, 9997}, {9998, 9998}, {9999, 9999},
	{10000, 9999}, {10001, 9999}, {65535, 9999}, {65536, 9999}, {1 << 31, 9999}, {1 << 32, 9999}, {1<<32 + 5, 9999}, {math.MaxInt - 1, 9999}, {math.MaxInt, 9999},
	{-1, 0}, {-2, 0}, {-9999, 0}, {-10000, 0}, {math.MinInt32, 0}, {-(1 << 32), 0}, {-(1 << 32) + 5, 0}, {math.MinInt + 1, 0}, {math.MinInt, 0},
}

func step(t *testing.T, delay, extend int, s api.Timer, in bool, want api.Timer) {
	t.Helper()
	if got := Step(delay, extend, s, in); got != want {
		t.Errorf("Step(%d, %d, %v, %t) = %v, want %v", delay, extend, s, in, got, want)
	}
}

// P12.1: an input is reported when it lasts for longer than delay.
func TestStepInput(t *testing.T) {
	for _, x := range []struct {
		delay, extend int
		s, want       api.Timer
	}{
		{0, 0, api.Timer{}, api.Timer{Held: 1, Out: true}},
		{0, 2, api.Timer{}, api.Timer{Held: 1, Tail: 2, Out: true}},
		{1, 2, api.Timer{}, api.Timer{Held: 1}},
		{1, 2, api.Timer{Held: 1}, api.Timer{Held: 2, Tail: 2, Out: true}},
		{5, 7, api.Timer{Held: 3}, api.Timer{Held: 4}},
		{5, 7, api.Timer{Held: 4}, api.Timer{Held: 5}},
		{5, 7, api.Timer{Held: 5}, api.Timer{Held: 6, Tail: 7, Out: true}},
		{5, 7, api.Timer{Held: 6}, api.Timer{Held: 7, Tail: 7, Out: true}},
		{5, 7, api.Timer{Held: 6, Tail: 7, Out: true}, api.Timer{Held: 7, Tail: 7, Out: true}},
		{5, 7, api.Timer{Held: 6, Tail: 1, Out: true}, api.Timer{Held: 7, Tail: 7, Out: true}},
		{5, 7, api.Timer{Held: 6, Tail: 9, Out: true}, api.Timer{Held: 7, Tail: 7, Out: true}},
		{5, 0, api.Timer{Held: 6, Tail: 9, Out: true}, api.Timer{Held: 7, Out: true}},
		{5, 7, api.Timer{Held: 5, Tail: 9}, api.Timer{Held: 6, Tail: 7, Out: true}},
	} {
		step(t, x.delay, x.extend, x.s, true, x.want)
	}
}

// P12.1: what is not reported anew goes on for its Tail, with an input that does not last for long enough and with none, whatever extend is.
func TestStepTail(t *testing.T) {
	for _, x := range []struct{ s, want api.Timer }{
		{api.Timer{Tail: 9, Out: true}, api.Timer{Tail: 8, Out: true}},
		{api.Timer{Tail: 2, Out: true}, api.Timer{Tail: 1, Out: true}},
		{api.Timer{Tail: 1, Out: true}, api.Timer{Out: true}},
		{api.Timer{Out: true}, api.Timer{}},
		{api.Timer{}, api.Timer{}},
		{api.Timer{Tail: 1}, api.Timer{}},
		{api.Timer{Tail: 9}, api.Timer{}},
	} {
		for _, extend := range []int{math.MinInt, -1, 0, 1, 2, 7, api.MaxTime, math.MaxInt} {
			for _, held := range []int{0, 1, 3, 4} {
				s, want := x.s, x.want
				s.Held = held
				step(t, 5, extend, s, false, want)
				want.Held = held + 1
				step(t, 5, extend, s, true, want)
			}
		}
	}
}

// P12.1: without an input Held is 0, and neither what it was nor the delay decides anything, not even a delay of 0 or below.
func TestStepNoInput(t *testing.T) {
	for _, held := range counts {
		for _, delay := range counts {
			for _, s := range []struct{ s, want api.Timer }{
				{api.Timer{}, api.Timer{}}, {api.Timer{Tail: 3}, api.Timer{}}, {api.Timer{Out: true}, api.Timer{}}, {api.Timer{Tail: 3, Out: true}, api.Timer{Tail: 2, Out: true}},
			} {
				s.s.Held = held.n
				step(t, delay.n, 7, s.s, false, s.want)
			}
		}
	}
}

// P12.1: Held is limited before it is increased, and delay before they are compared.
func TestStepHeld(t *testing.T) {
	for _, held := range counts {
		for _, delay := range counts {
			s, want := api.Timer{Held: held.n}, api.Timer{Held: held.limited + 1}
			if want.Held > delay.limited {
				want.Tail, want.Out = 7, true
			}
			step(t, delay.n, 7, s, true, want)
		}
	}
}

// P12.1: extend is limited.
func TestStepExtend(t *testing.T) {
	for _, extend := range counts {
		step(t, 0, extend.n, api.Timer{}, true, api.Timer{Held: 1, Tail: extend.limited, Out: true})
		step(t, 5, extend.n, api.Timer{Held: 5, Tail: 3, Out: true}, true, api.Timer{Held: 6, Tail: extend.limited, Out: true})
	}
}

// P12.1: the Tail of s is limited, and counts only beside Out.
func TestStepTailLimited(t *testing.T) {
	for _, tail := range counts {
		want := api.Timer{}
		if tail.limited > 0 {
			want = api.Timer{Tail: tail.limited - 1, Out: true}
		}
		for _, held := range []int{0, 2, 4} {
			step(t, 5, 7, api.Timer{Held: held, Tail: tail.n, Out: true}, false, want)
			step(t, 5, 7, api.Timer{Held: held, Tail: tail.n}, false, api.Timer{})
			step(t, 5, 7, api.Timer{Held: held, Tail: tail.n}, true, api.Timer{Held: held + 1})
			short := want
			short.Held = held + 1
			step(t, 5, 7, api.Timer{Held: held, Tail: tail.n, Out: true}, true, short)
		}
	}
}

// middle limits n to 0 to MaxTime by sorting.
func middle(n int) int {
	l := []int{0, n, api.MaxTime}
	slices.Sort(l)
	return l[1]
}

// worded is P12.1, sentence by sentence, and which of its three cases it is.
func worded(delay, extend int, s api.Timer, in bool) (api.Timer, int) {
	delay, extend, s.Tail = middle(delay), middle(extend), middle(s.Tail)
	next := api.Timer{}
	if in {
		next.Held = 1 + middle(s.Held)
	}
	if next.Held > delay {
		next.Out, next.Tail = true, extend
		return next, 0
	}
	if s.Out && s.Tail > 0 {
		next.Out, next.Tail = true, s.Tail-1
		return next, 1
	}
	return next, 2
}

// drawn is a number of a kind that is drawn, too: a small one, one near an end of the range, one of any bits.
func drawn(r *rand.Rand) int {
	switch r.Intn(4) {
	case 0:
		return r.Intn(12) - 2
	case 1:
		return api.MaxTime - 4 + r.Intn(8)
	case 2:
		return r.Intn(api.MaxTime)
	}
	return int(r.Uint64())
}

// P12.1: Step is what the words say, in sequences of drawn inputs; R4: and the same in a second call.
func TestStepWorded(t *testing.T) {
	r := rand.New(rand.NewSource(12))
	var seen [3]int
	for range 4000 {
		delay, extend := drawn(r), drawn(r)
		s := api.Timer{Held: drawn(r), Tail: drawn(r), Out: r.Intn(2) == 0}
		long := 1 + r.Intn(6)
		for range 30 {
			in := r.Intn(long) > 0
			want, kind := worded(delay, extend, s, in)
			step(t, delay, extend, s, in, want)
			step(t, delay, extend, s, in, want)
			s = want
			seen[kind]++
		}
	}
	for kind, n := range seen {
		if n < 5000 {
			t.Errorf("case %d was drawn only %d times", kind, n)
		}
	}
}

// lasts tells for how many ticks up to tick i the input has been true.
func lasts(in, i int) int {
	n := 0
	for ; i >= 0 && in>>i&1 == 1; i-- {
		n++
	}
	return n
}

// reported tells, from the inputs alone, whether there is an output in tick i: whether in it, or in one of the extend ticks before it, an input had lasted for longer than delay.
func reported(delay, extend, in, i int) bool {
	for j := max(0, i-extend); j <= i; j++ {
		if lasts(in, j) > delay {
			return true
		}
	}
	return false
}

// P12.2: the outputs of all inputs of some ticks.
func TestRows(t *testing.T) {
	const ticks = 11
	for delay := -1; delay <= 4; delay++ {
		for extend := -1; extend <= 4; extend++ {
			for in := range 1 << ticks {
				s := api.Timer{}
				for i := range ticks {
					s = Step(delay, extend, s, in>>i&1 == 1)
					if want := reported(max(0, delay), max(0, extend), in, i); s.Out != want {
						t.Fatalf("delay %d, extend %d, inputs %011b: Out is %t in tick %d", delay, extend, in, s.Out, i)
					}
				}
				if s.Held != lasts(in, ticks-1) {
					t.Fatalf("delay %d, extend %d, inputs %011b: Held is %d", delay, extend, in, s.Held)
				}
			}
		}
	}
}

// pulse makes an input of n ticks from s on, and tells for how many ticks there is an output in it, and for how many behind it (at most one more than any extend).
func pulse(delay, extend int, s api.Timer, n int) (in, behind int) {
	for range n {
		if s = Step(delay, extend, s, true); s.Out {
			in++
		}
	}
	for behind <= api.MaxTime {
		if s = Step(delay, extend, s, false); !s.Out {
			break
		}
		behind++
	}
	return in, behind
}

// P12.2: one input, as long as the delay, shorter and longer, at both ends of the times.
func TestPulse(t *testing.T) {
	for _, delay := range []int{-1, 0, 1, 2, 30, 9998, 9999, 10000, math.MaxInt} {
		for _, extend := range []int{-1, 0, 1, 2, 30, 9998, 9999, 10000, math.MaxInt} {
			d, e := middle(delay), middle(extend)
			for _, n := range []int{0, 1, d - 1, d, d + 1, d + 2, d + 500, 20005} {
				wantIn, wantBehind := 0, 0
				if n > d {
					wantIn, wantBehind = n-d, e
				}
				in, behind := pulse(delay, extend, api.Timer{}, n)
				if in != wantIn || behind != wantBehind {
					t.Errorf("delay %d, extend %d, input of %d ticks: output for %d ticks and %d behind it, want %d and %d", delay, extend, n, in, behind, wantIn, wantBehind)
				}
			}
		}
	}
}

// P12.2: an input of at most delay ticks is not reported behind any state without an output, and does not make an output of before longer.
func TestShort(t *testing.T) {
	for _, held := range counts {
		for _, tail := range counts {
			s := Step(6, 4, api.Timer{Held: held.n, Tail: tail.n}, false)
			if in, behind := pulse(6, 4, s, 6); in != 0 || behind != 0 {
				t.Fatalf("from Held %d and Tail %d on: output for %d and %d ticks", held.n, tail.n, in, behind)
			}
		}
	}
	for tail := range 12 {
		for n := range 7 {
			in, behind := pulse(6, 4, api.Timer{Tail: tail, Out: true}, n)
			if in+behind != tail {
				t.Errorf("Tail %d, input of %d ticks: output for %d ticks", tail, n, in+behind)
			}
		}
	}
}

// P12.1: an input that does not end goes on being reported, and its Held stays at its end.
func TestEndless(t *testing.T) {
	s := api.Timer{}
	for n := 1; n <= 2*api.MaxTime; n++ {
		s = Step(api.MaxTime, 3, s, true)
		want := api.Timer{Held: n}
		if n > api.MaxTime {
			want = api.Timer{Held: api.MaxTime + 1, Tail: 3, Out: true}
		}
		if s != want {
			t.Fatalf("after %d ticks %v, want %v", n, s, want)
		}
	}
}

// The example of the chapter.
func TestExample(t *testing.T) {
	s := Step(0, 2, api.Timer{}, true)
	for tick := range 3 {
		if !s.Out {
			t.Errorf("Out is false in tick %d", tick)
		}
		s = Step(0, 2, s, false)
	}
	if s != (api.Timer{}) {
		t.Errorf("%v after three ticks", s)
	}
}
