package level

import (
	"math"
	"math/big"
	"math/rand"
	"testing"

	"crossbuck/api"
)

const (
	most = 1000000
	tiny = math.SmallestNonzeroFloat64
)

var (
	inf   = math.Inf(1)
	nan   = math.NaN()
	minus = math.Copysign(0, -1)
)

// nans are not-a-numbers of both signs and of several payloads.
var nans = []float64{
	nan, -nan,
	math.Float64frombits(0x7FF0000000000001), math.Float64frombits(0xFFF0000000000001),
	math.Float64frombits(0x7FFFFFFFFFFFFFFF), math.Float64frombits(0xFFFFFFFFFFFFFFFF),
}

// faulty are samples that are bad, good are samples that are not; the ends of the range, and what is next to them, are among them.
var (
	faulty = append([]float64{
		inf, -inf, math.Nextafter(most, inf), math.Nextafter(-most, -inf), most + 0.5, -most - 0.5, most + 1, -most - 1,
		1 << 20, -(1 << 20), 1e7, -1e7, 1 << 31, 1 << 32, 1 << 63, -(1 << 63), 1e300, -1e300, math.MaxFloat64, -math.MaxFloat64,
	}, nans...)
	good = []float64{
		0, minus, tiny, -tiny, 1e-310, -1e-310, 0.1, -0.1, 1, -1, 2, 3, 4, 5, 6, -5, 9999, 10000, 65536, -65536, 999999, -999999, 999999.5,
		math.Nextafter(most, 0), math.Nextafter(-most, 0), most, -most,
	}
)

// counts are values of Bad, with what one more of each is.
var counts = []struct{ n, more int }{
	{0, 1}, {1, 2}, {2, 3}, {3, 4}, {4, 5}, {255, 256}, {256, 257}, {5000, 5001}, {9997, 9998}, {9998, 9999},
	{9999, 10000}, {10000, 10000}, {10001, 10000}, {65535, 10000}, {1 << 31, 10000}, {1 << 32, 10000}, {math.MaxInt - 1, 10000}, {math.MaxInt, 10000},
	{-1, 1}, {-2, 1}, {-9999, 1}, {-10000, 1}, {math.MinInt32, 1}, {-(1 << 32), 1}, {math.MinInt + 1, 1}, {math.MinInt, 1},
}

// detectors are pairs of On and Off, also some that no table may have.
var detectors = []api.Detector{
	{On: 5, Off: 2}, {On: 2, Off: 5}, {On: 3, Off: 3}, {}, {On: 0, Off: minus}, {On: most, Off: tiny}, {On: most, Off: most}, {On: -2, Off: -5},
	{On: inf, Off: 2}, {On: -inf, Off: 2}, {On: 5, Off: inf}, {On: 5, Off: -inf}, {On: inf, Off: inf}, {On: -inf, Off: -inf}, {On: inf, Off: -inf}, {On: -inf, Off: inf},
	{On: nan, Off: 2}, {On: 5, Off: nan}, {On: nan, Off: nan}, {On: nan, Off: inf}, {On: inf, Off: nan},
	{On: 1e300, Off: -1e300}, {On: -1e300, Off: 1e300}, {On: 2e6, Off: 1.5e6},
}

func step(t *testing.T, d api.Detector, s api.Level, x float64, want api.Level) {
	t.Helper()
	if got := Step(d, s, x); got != want {
		t.Errorf("Step of On %v and Off %v, %v, sample %v = %v, want %v", d.On, d.Off, s, x, got, want)
	}
}

// P11.1: samples at On, at Off, beside these and between them.
func TestStep(t *testing.T) {
	d := api.Detector{On: 5, Off: 2}
	on, off := api.Level{On: true}, api.Level{}
	for _, x := range []struct {
		x            float64
		fromOff, was api.Level
	}{
		{5, on, on}, {math.Nextafter(5, inf), on, on}, {5.5, on, on}, {6, on, on}, {1000, on, on}, {most, on, on},
		{math.Nextafter(5, 0), off, on}, {4.9, off, on}, {3.5, off, on}, {3, off, on}, {2.1, off, on}, {math.Nextafter(2, 5), off, on},
		{2, off, off}, {math.Nextafter(2, 0), off, off}, {1, off, off}, {tiny, off, off}, {0, off, off}, {minus, off, off}, {-5, off, off}, {-6, off, off}, {-most, off, off},
	} {
		step(t, d, off, x.x, x.fromOff)
		step(t, d, on, x.x, x.was)
	}
}

// P11.1: On is asked before Off, and each of them by Go's comparison: where On is not above Off, and where they are no numbers of a table.
func TestStepDetectors(t *testing.T) {
	on, off := api.Level{On: true}, api.Level{}
	for _, x := range []struct {
		on, off, x   float64
		fromOff, was api.Level
	}{
		{2, 5, 3, on, on}, {2, 5, 2, on, on}, {2, 5, 5, on, on}, {2, 5, 6, on, on}, {2, 5, math.Nextafter(2, 0), off, off}, {2, 5, 1, off, off},
		{3, 3, 3, on, on}, {3, 3, math.Nextafter(3, 0), off, off}, {3, 3, math.Nextafter(3, 9), on, on},
		{0, 0, minus, on, on}, {minus, minus, 0, on, on}, {0, 0, -tiny, off, off}, {1, 0, minus, off, off}, {1, minus, 0, off, off}, {1, 0, tiny, off, on},
		{-2, -5, -2, on, on}, {-2, -5, 0, on, on}, {-2, -5, -3, off, on}, {-2, -5, -5, off, off}, {-2, -5, -6, off, off},
		{most, 1, most, on, on}, {most, 1, math.Nextafter(most, 0), off, on}, {5, -most, -most, off, off}, {5, -most, math.Nextafter(-most, 0), off, on},
		{nan, 2, 1, off, off}, {nan, 2, 2, off, off}, {nan, 2, 3, off, on}, {nan, 2, most, off, on},
		{5, nan, 5, on, on}, {5, nan, 1, off, on}, {5, nan, -most, off, on}, {nan, nan, 3, off, on}, {-nan, -nan, 0, off, on},
		{inf, 2, most, off, on}, {inf, 2, 2, off, off}, {-inf, 2, -most, on, on}, {5, inf, 4, off, off}, {5, inf, 5, on, on}, {5, -inf, -most, off, on},
		{nan, inf, most, off, off}, {inf, inf, most, off, off}, {-inf, inf, -most, on, on}, {inf, -inf, 0, off, on},
		{1e300, -1e300, 3, off, on}, {-1e300, 1e300, 3, on, on}, {2e6, 1.5e6, most, off, off},
	} {
		d := api.Detector{On: x.on, Off: x.off}
		step(t, d, off, x.x, x.fromOff)
		step(t, d, on, x.x, x.was)
	}
}

// P11.1: a sample that is bad is counted, and changes On for no detector, not even one that it would be above or below.
func TestStepBad(t *testing.T) {
	for _, d := range detectors {
		for _, x := range faulty {
			for _, on := range []bool{false, true} {
				for _, c := range counts {
					step(t, d, api.Level{On: on, Bad: c.n}, x, api.Level{On: on, Bad: c.more})
				}
			}
		}
	}
}

// P11.1: a sample that is not bad makes Bad 0, whatever it was, and what On becomes does not depend on it.
func TestStepGood(t *testing.T) {
	for _, d := range detectors {
		for _, x := range good {
			for _, on := range []bool{false, true} {
				want := Step(d, api.Level{On: on}, x)
				if want.Bad != 0 {
					t.Fatalf("sample %v is bad", x)
				}
				for _, c := range counts {
					step(t, d, api.Level{On: on, Bad: c.n}, x, want)
				}
			}
		}
	}
}

// P11.1: only On and Off of the detector are asked.
func TestStepOtherFields(t *testing.T) {
	d := api.Detector{On: 5, Off: 2}
	for _, other := range []api.Detector{
		{Phase: 7, On: 5, Off: 2, Delay: 1, Extend: 2, MaxOn: 3, MaxOff: 4},
		{Phase: -1, On: 5, Off: 2, Delay: nan, Extend: inf, MaxOn: math.MaxInt, MaxOff: math.MinInt},
	} {
		for _, x := range append(append([]float64{}, good...), faulty...) {
			for _, s := range []api.Level{{}, {On: true}, {Bad: 2}, {On: true, Bad: 3}} {
				step(t, other, s, x, Step(d, s, x))
			}
		}
	}
}

// P11.1: a loop without samples fails in the third tick, and the count stays at its end.
func TestStepCounts(t *testing.T) {
	d := api.Detector{On: 5, Off: 2}
	for _, on := range []bool{false, true} {
		s := api.Level{On: on}
		for n := 1; n <= api.MaxTime+5; n++ {
			s = Step(d, s, nan)
			if want := (api.Level{On: on, Bad: min(n, api.MaxTime+1)}); s != want {
				t.Fatalf("after %d bad samples %v, want %v", n, s, want)
			}
			if Failed(s) != (n >= 3) || Seen(s) != (on || n >= 3) {
				t.Fatalf("after %d bad samples Failed is %t, Seen %t", n, Failed(s), Seen(s))
			}
		}
		step(t, d, s, 3, api.Level{On: on})
	}
}

// P11.1: bad samples count only if no other is between them.
func TestStepInterrupted(t *testing.T) {
	d := api.Detector{On: 5, Off: 2}
	s := api.Level{}
	for i, x := range []struct {
		x            float64
		want         api.Level
		failed, seen bool
	}{
		{nan, api.Level{Bad: 1}, false, false}, {inf, api.Level{Bad: 2}, false, false}, {3, api.Level{}, false, false},
		{-inf, api.Level{Bad: 1}, false, false}, {most + 1, api.Level{Bad: 2}, false, false}, {-most - 1, api.Level{Bad: 3}, true, true},
		{nan, api.Level{Bad: 4}, true, true}, {4, api.Level{}, false, false},
		{5, api.Level{On: true}, false, true}, {nan, api.Level{On: true, Bad: 1}, false, true}, {nan, api.Level{On: true, Bad: 2}, false, true},
		{nan, api.Level{On: true, Bad: 3}, true, true}, {2, api.Level{}, false, false},
	} {
		s = Step(d, s, x.x)
		if s != x.want || Failed(s) != x.failed || Seen(s) != x.seen {
			t.Fatalf("sample %d, %v: %v, %t, %t, want %v, %t, %t", i, x.x, s, Failed(s), Seen(s), x.want, x.failed, x.seen)
		}
	}
}

// P11.1: Failed and Seen.
func TestFailedSeen(t *testing.T) {
	for _, x := range []struct {
		bad    int
		failed bool
	}{
		{0, false}, {1, false}, {2, false}, {3, true}, {4, true}, {5, true}, {256, true}, {9999, true}, {10000, true}, {10001, true}, {1 << 32, true}, {math.MaxInt, true},
		{-1, false}, {-2, false}, {-3, false}, {-4, false}, {-10000, false}, {-(1 << 32) + 5, false}, {math.MinInt, false},
	} {
		for _, on := range []bool{false, true} {
			s := api.Level{On: on, Bad: x.bad}
			if got := Failed(s); got != x.failed {
				t.Errorf("Failed(%v) = %t", s, got)
			}
			if got, want := Seen(s), on || x.failed; got != want {
				t.Errorf("Seen(%v) = %t", s, got)
			}
		}
	}
}

// number is a float without a limit; false for one that has none.
func number(x float64) (*big.Rat, bool) {
	r := new(big.Rat).SetFloat64(x)
	return r, r != nil
}

// worded is P11.1 by numbers without a limit, for detectors whose On and Off are numbers.
func worded(d api.Detector, s api.Level, x float64) api.Level {
	n, ok := number(x)
	if !ok || n.Cmp(big.NewRat(most, 1)) > 0 || n.Cmp(big.NewRat(-most, 1)) < 0 {
		more := api.Level{On: s.On, Bad: 1}
		if s.Bad > api.MaxTime {
			more.Bad = api.MaxTime + 1
		} else if s.Bad > 0 {
			more.Bad = s.Bad + 1
		}
		return more
	}
	on, _ := number(d.On)
	off, _ := number(d.Off)
	if n.Cmp(on) >= 0 {
		return api.Level{On: true}
	}
	return api.Level{On: s.On && n.Cmp(off) > 0}
}

// drawn is a float of a kind that is drawn, too: one near a, one near an end of the range, one of any bits.
func drawn(r *rand.Rand, a float64) float64 {
	near := []float64{a, 0, most, -most}[r.Intn(4)]
	switch r.Intn(5) {
	case 0:
		return near
	case 1:
		return math.Nextafter(near, inf)
	case 2:
		return math.Nextafter(near, -inf)
	case 3:
		return near + 10*r.NormFloat64()
	}
	return math.Float64frombits(r.Uint64())
}

// P11.1: Step is that of numbers without a limit, in long sequences of drawn samples, each state computed from the one before.
func TestStepWorded(t *testing.T) {
	r := rand.New(rand.NewSource(11))
	var seen [2][2]int
	for range 2000 {
		d := api.Detector{On: 100 * r.Float64(), Off: 100 * r.Float64()}
		s := api.Level{On: r.Intn(2) == 0, Bad: int(r.Uint64())}
		for range 50 {
			x := drawn(r, []float64{d.On, d.Off}[r.Intn(2)])
			want := worded(d, s, x)
			step(t, d, s, x, want)
			s = want
			seen[bit(s.On)][bit(s.Bad > 0)]++
		}
	}
	for on := range seen {
		for bad, n := range seen[on] {
			if n < 1000 {
				t.Errorf("only %d states drawn with On %d, Bad %d", n, on, bad)
			}
		}
	}
}

func bit(b bool) int {
	if b {
		return 1
	}
	return 0
}

// P11.2: a sample between Off and On changes neither On nor what is seen, and no part of a state without bad samples.
func TestBetween(t *testing.T) {
	r := rand.New(rand.NewSource(112))
	for range 5000 {
		d := api.Detector{Off: most * math.Pow(r.Float64(), 5)}
		d.On = d.Off + (most-d.Off)*r.Float64()
		for _, x := range []float64{math.Nextafter(d.Off, inf), math.Nextafter(d.On, -inf), d.Off + (d.On-d.Off)*r.Float64()} {
			if x <= d.Off || x >= d.On {
				continue
			}
			for _, on := range []bool{false, true} {
				s := api.Level{On: on}
				step(t, d, s, x, s)
				s.Bad = r.Intn(3)
				if got := Step(d, s, x); got.On != on || Seen(got) != Seen(s) {
					t.Fatalf("Step of On %v and Off %v, %v, sample %v = %v", d.On, d.Off, s, x, got)
				}
			}
		}
	}
}

// The example of the chapter.
func TestExample(t *testing.T) {
	d := api.Detector{On: 5, Off: 2}
	s := Step(d, Step(d, api.Level{}, 6), 3)
	if !Seen(s) {
		t.Error("not seen after 6 and 3")
	}
	if Seen(Step(d, s, 2)) {
		t.Error("seen after 6, 3 and 2")
	}
}

// R1, R4: Step ends for any arguments, and the same call has the same result again.
func TestStepAny(t *testing.T) {
	r := rand.New(rand.NewSource(113))
	for range 20000 {
		d := api.Detector{Phase: int(r.Uint64()), On: drawn(r, 1), Off: drawn(r, 1)}
		s := api.Level{On: r.Intn(2) == 0, Bad: int(r.Uint64())}
		x := drawn(r, d.On)
		step(t, d, s, x, Step(d, s, x))
	}
}
