package table

import (
	"math"
	"math/rand"
	"reflect"
	"regexp"
	"strconv"
	"strings"
	"testing"

	"crossbuck/api"
	"crossbuck/secs"
)

const (
	tick = 1<<31 - 1
	tiny = math.SmallestNonzeroFloat64
)

var (
	inf   = math.Inf(1)
	minus = math.Copysign(0, -1)
)

// highest is the greatest number that P6.1 permits for each field; the name of a list or of a row stands for its elements.
var highest = map[string]int{
	"Phases.Min": 9999, "Phases.Gap": 9999, "Phases.Max": 9999, "Phases.Top": 9999, "Phases.Step": 9999,
	"Phases.Yellow": 9999, "Phases.Red": 9999, "Phases.Walk": 9999, "Phases.Blinks": 9999, "Phases.Recall": 3,
	"Groups": 7, "Conflict": 255, "Flash": 2,
	"Detectors.Phase": 7, "Detectors.MaxOn": 9999, "Detectors.MaxOff": 9999,
	"Rails.Bars": 255, "Rails.Clear": 255, "Rails.Dwell": 255, "Rails.Exit": 255,
	"Rails.Delay": 9999, "Rails.Green": 9999, "Rails.Foot": 9999, "Rails.Hold": 9999, "Rails.Stay": 9999, "Rails.Most": 9999, "Rails.Limit": tick,
	"Buses.Set": 255, "Buses.Lock": 9999,
	"Extend": 9999, "Budget": 9999, "Start": 9999, "Revert": 9999, "Least": 9999, "Window": tick, "Share": tick,
}

// levels and spans are floats, and whether On and Off, or Delay and Extend, may be so.
var levels = map[float64]bool{
	tiny: true, 0x1p-1022: true, 0.5: true, 1: true, 5: true, 999.9: true, 1000: true, 12345.678: true, math.Nextafter(1000000, 0): true, 1000000: true,
	-tiny: false, -1: false, -1000000: false, math.Nextafter(1000000, inf): false, 1000001: false, math.MaxFloat64: false, -math.MaxFloat64: false, inf: false, -inf: false,
}
var spans = map[float64]bool{
	tiny: true, 0x1p-1022: true, 0.01: true, 0.05: true, 0.5: true, 1: true, 999.8: true, math.Nextafter(999.9, 0): true, 999.9: true,
	-tiny: false, -0.05: false, -1: false, math.Nextafter(999.9, inf): false, 999.95: false, 1000: false, 1000000: false, math.MaxFloat64: false, -math.MaxFloat64: false, inf: false, -inf: false,
}

// nans are not-a-numbers of both signs and of several payloads.
var nans = []float64{
	math.NaN(), math.Copysign(math.NaN(), -1),
	math.Float64frombits(0x7FF0000000000001), math.Float64frombits(0xFFF0000000000001),
	math.Float64frombits(0x7FFFFFFFFFFFFFFF), math.Float64frombits(0xFFFFFFFFFFFFFFFF),
}

// leaf is a place of a table that holds one bool, one number or one float.
type leaf struct {
	path string
	v    reflect.Value
}

// walk calls f for each leaf, and for each list before its elements.
func walk(path string, v reflect.Value, f func(leaf)) {
	switch v.Kind() {
	case reflect.Struct:
		for i := range v.NumField() {
			walk(path+"."+v.Type().Field(i).Name, v.Field(i), f)
		}
		return
	case reflect.Slice:
		f(leaf{path, v})
	case reflect.Array:
	default:
		f(leaf{path, v})
		return
	}
	for i := range v.Len() {
		walk(path+"["+strconv.Itoa(i)+"]", v.Index(i), f)
	}
}

// places are the leaves of a table that are of one of the kinds.
func places(x *api.Table, kinds ...reflect.Kind) []leaf {
	var out []leaf
	walk("", reflect.ValueOf(x).Elem(), func(l leaf) {
		for _, k := range kinds {
			if l.v.Kind() == k {
				out = append(out, l)
			}
		}
	})
	return out
}

func numbers(x *api.Table) []leaf { return places(x, reflect.Int) }
func floats(x *api.Table) []leaf  { return places(x, reflect.Float64) }
func lists(x *api.Table) []leaf   { return places(x, reflect.Slice) }
func leaves(x *api.Table) []leaf  { return places(x, reflect.Bool, reflect.Int, reflect.Float64) }

var index = regexp.MustCompile(`\[\d+\]`)

// name is the path of a field without its indices.
func (l leaf) name() string { return strings.TrimPrefix(index.ReplaceAllString(l.path, ""), ".") }

// isLevel tells On and Off of a Detector from its Delay and Extend.
func (l leaf) isLevel() bool { return l.name() == "Detectors.On" || l.name() == "Detectors.Off" }

// text is all that a table holds, so that two tables can be compared without Same.
func text(x api.Table) string {
	var b strings.Builder
	walk("", reflect.ValueOf(&x).Elem(), func(l leaf) {
		b.WriteString(l.path + "=")
		switch l.v.Kind() {
		case reflect.Bool:
			b.WriteString(strconv.FormatBool(l.v.Bool()))
		case reflect.Int:
			b.WriteString(strconv.FormatInt(l.v.Int(), 10))
		case reflect.Float64:
			b.WriteString(strconv.FormatUint(math.Float64bits(l.v.Float()), 16))
		case reflect.Slice:
			b.WriteString(strconv.Itoa(l.v.Len()))
		}
		b.WriteString("\n")
	})
	return b.String()
}

// full is a table with as many elements as it may have, in which all numbers are 0, and all floats as given.
func full(x float64) api.Table {
	t := api.Table{Groups: make([][2][]int, 4), Detectors: make([]api.Detector, 16), Rails: make([]api.Rail, 4), Buses: make([]api.Bus, 4)}
	for g := range t.Groups {
		t.Groups[g] = [2][]int{make([]int, 8), make([]int, 8)}
	}
	for _, l := range floats(&t) {
		l.v.SetFloat(x)
	}
	return t
}

// top is a full table in which everything is as great as it may be.
func top(t *testing.T) api.Table {
	x := full(999.9)
	for _, l := range numbers(&x) {
		most, ok := highest[l.name()]
		if !ok {
			t.Fatalf("no range of %s", l.path)
		}
		l.v.SetInt(int64(most))
	}
	for _, l := range floats(&x) {
		if l.isLevel() {
			l.v.SetFloat(1000000)
		}
	}
	for _, l := range places(&x, reflect.Bool) {
		l.v.SetBool(true)
	}
	return x
}

// drawn is a table within its ranges, of any size.
func drawn(g *rand.Rand) api.Table {
	x := full(0)
	x.Groups, x.Detectors, x.Rails, x.Buses = x.Groups[:g.Intn(5)], x.Detectors[:g.Intn(17)], x.Rails[:g.Intn(5)], x.Buses[:g.Intn(5)]
	for i := range x.Groups {
		x.Groups[i] = [2][]int{x.Groups[i][0][:g.Intn(9)], x.Groups[i][1][:g.Intn(9)]}
	}
	for _, l := range numbers(&x) {
		l.v.SetInt(int64(g.Intn(highest[l.name()] + 1)))
	}
	for _, l := range places(&x, reflect.Bool) {
		l.v.SetBool(g.Intn(2) == 1)
	}
	for _, l := range floats(&x) {
		l.v.SetFloat(999.9 * (1 - g.Float64()))
	}
	return x
}

// other changes a leaf to a value that it has not.
func (l leaf) other() {
	switch l.v.Kind() {
	case reflect.Bool:
		l.v.SetBool(!l.v.Bool())
	case reflect.Int:
		l.v.SetInt(l.v.Int() + 1)
	case reflect.Float64:
		l.v.SetFloat(math.Nextafter(l.v.Float(), inf))
	}
}

// P6.1: the zero Table, a table with everything as small as it may be, and one with everything as great as it may be.
func TestMay(t *testing.T) {
	if !May(api.Table{}) {
		t.Error("May of the zero Table is false")
	}
	if !May(full(tiny)) {
		t.Error("May of the least table is false")
	}
	if !May(top(t)) {
		t.Error("May of the greatest table is false")
	}
}

// P6.1: each number at both of its ends and beyond them, also where only the lowest bits of it would be within.
func TestMayNumbers(t *testing.T) {
	for _, x := range []api.Table{full(tiny), top(t)} {
		for _, l := range numbers(&x) {
			most, was := highest[l.name()], l.v.Int()
			for _, n := range []int{0, 1, most / 2, most - 1, most} {
				if l.v.SetInt(int64(n)); !May(x) {
					t.Errorf("May is false for %d at %s", n, l.path)
				}
			}
			for _, n := range []int{-1, -2, -most, -most - 1, most + 1, most + 2, 2*most + 1, 1 << 31, 1 << 32, 1<<32 + 1, 1 << 62, -1 << 32, math.MaxInt, math.MinInt, math.MinInt + 1} {
				if l.v.SetInt(int64(n)); May(x) {
					t.Errorf("May is true for %d at %s", n, l.path)
				}
			}
			l.v.SetInt(was)
		}
	}
}

// P6.1: each float, with its ends and the numbers beside them, with both zeros, the infinities and NaN.
func TestMayFloats(t *testing.T) {
	for _, x := range []api.Table{full(tiny), top(t)} {
		for _, l := range floats(&x) {
			was, known := l.v.Float(), spans
			if l.isLevel() {
				known = levels
			}
			for f, want := range known {
				if l.v.SetFloat(f); May(x) != want {
					t.Errorf("May is %t for %v at %s", !want, f, l.path)
				}
			}
			for _, f := range append([]float64{minus}, nans...) {
				if l.v.SetFloat(f); May(x) {
					t.Errorf("May is true for %v at %s", f, l.path)
				}
			}
			if l.v.SetFloat(0); May(x) == l.isLevel() {
				t.Errorf("May is %t for 0 at %s", l.isLevel(), l.path)
			}
			l.v.SetFloat(was)
		}
	}
}

// P6.1: Delay and Extend may be what secs.Ticks accepts, but -0.
func TestMaySeconds(t *testing.T) {
	g := rand.New(rand.NewSource(1))
	x := full(1)
	for range 20000 {
		f := math.Float64frombits(g.Uint64())
		if g.Intn(2) == 0 {
			f = g.Float64()*1100 - 50
		}
		_, want := secs.Ticks(f)
		for _, at := range []*float64{&x.Detectors[3].Delay, &x.Detectors[9].Extend} {
			if *at = f; May(x) != want {
				t.Errorf("May is %t for %v seconds", !want, f)
			}
			*at = 1
		}
	}
}

// P6.1: a bool may be either.
func TestMayBools(t *testing.T) {
	for _, x := range []api.Table{full(tiny), top(t)} {
		for _, l := range places(&x, reflect.Bool) {
			if l.other(); !May(x) {
				t.Errorf("May is false for %t at %s", l.v.Bool(), l.path)
			}
		}
	}
}

// P6.1: the number of elements of each list, beside lists that are empty and lists that are full.
func TestMayLengths(t *testing.T) {
	most := map[string]int{".Groups": 4, ".Detectors": 16, ".Rails": 4, ".Buses": 4}
	for g := range 4 {
		for row := range 2 {
			most[".Groups["+strconv.Itoa(g)+"]["+strconv.Itoa(row)+"]"] = 8
		}
	}
	for _, x := range []api.Table{full(tiny), top(t), {Groups: make([][2][]int, 4)}} {
		for _, l := range lists(&x) {
			was := reflect.ValueOf(l.v.Interface())
			for n := range 40 {
				long := reflect.MakeSlice(l.v.Type(), n, n)
				for i := range n {
					if l.path == ".Detectors" {
						long.Index(i).Set(reflect.ValueOf(api.Detector{On: 2, Off: 1}))
					}
				}
				if l.v.Set(long); May(x) != (n <= most[l.path]) {
					t.Errorf("May is %t for %d elements of %s", May(x), n, l.path)
				}
			}
			l.v.Set(was)
		}
	}
}

// P6.1: nothing but ranges counts: what check refuses for other reasons may be.
func TestMayNotWellFormed(t *testing.T) {
	for i, x := range []api.Table{
		{Phases: [8]api.Phase{{On: true, Min: 9, Max: 3, Top: 1, Recall: 3}}},
		{Groups: [][2][]int{{}, {{3, 3}, {3}}}},
		{Conflict: [8]int{255, 0, 1}},
		{Detectors: []api.Detector{{Phase: 5, On: 1, Off: 1000000}}},
		{Rails: []api.Rail{{Bars: 255, Dwell: 255, Delay: 9, Limit: 1}}},
		{Buses: []api.Bus{{}}},
	} {
		if !May(x) {
			t.Errorf("May is false for table %d", i)
		}
	}
}

// P6.1: tables of any size within their ranges, and the same with one number too small or too great.
func TestMayDrawn(t *testing.T) {
	g := rand.New(rand.NewSource(2))
	for range 500 {
		x := drawn(g)
		if !May(x) {
			t.Fatalf("May is false for\n%s", text(x))
		}
		l := numbers(&x)
		at := l[g.Intn(len(l))]
		if at.v.SetInt(int64(highest[at.name()] + 1 + g.Intn(300))); g.Intn(2) == 0 {
			at.v.SetInt(int64(-1 - g.Intn(300)))
		}
		if May(x) {
			t.Fatalf("May is true for %d at %s", at.v.Int(), at.path)
		}
	}
}

// wantSame tests both orders of two tables.
func wantSame(t *testing.T, a, b api.Table, want bool, what string) {
	t.Helper()
	if Same(a, b) != want {
		t.Errorf("Same is %t for %s", !want, what)
	}
	if Same(b, a) != want {
		t.Errorf("Same is %t for %s, turned round", !want, what)
	}
}

// P6.2: tables that are equal, in separate memory; tables that differ in one place, wherever it is.
func TestSame(t *testing.T) {
	wantSame(t, api.Table{}, api.Table{}, true, "zero Tables")
	wantSame(t, full(1), full(1), true, "full tables")
	wantSame(t, top(t), top(t), true, "greatest tables")
	wantSame(t, full(1), top(t), false, "full and greatest tables")
	for _, build := range []func() api.Table{func() api.Table { return full(1) }, func() api.Table { return top(t) }} {
		a, b := build(), build()
		for _, l := range leaves(&b) {
			was := reflect.ValueOf(l.v.Interface())
			l.other()
			wantSame(t, a, b, false, "a change at "+l.path)
			l.v.Set(was)
			wantSame(t, a, b, true, "no change at "+l.path)
		}
	}
}

// P6.2: numbers whose lowest bits are the same are not equal, in a table that May refuses, too.
func TestSameWide(t *testing.T) {
	a, b := full(1), full(1)
	for _, l := range numbers(&b) {
		for _, n := range []int{-1, 256, 1 << 16, 1 << 32, math.MinInt} {
			l.v.SetInt(int64(n))
			wantSame(t, a, b, false, strconv.Itoa(n)+" at "+l.path)
		}
		l.v.SetInt(0)
	}
}

// P6.2: two floats are equal if their bits are.
func TestSameFloats(t *testing.T) {
	special := append([]float64{0, minus, tiny, -tiny, 1, inf, -inf}, nans...)
	a, b := full(1), full(1)
	to := floats(&b)
	for i, l := range floats(&a) {
		for _, x := range special {
			for _, y := range special {
				l.v.SetFloat(x)
				to[i].v.SetFloat(y)
				if want := math.Float64bits(x) == math.Float64bits(y); Same(a, b) != want {
					t.Errorf("Same is %t for %v and %v at %s", !want, x, y, l.path)
				}
			}
		}
		l.v.SetFloat(1)
		to[i].v.SetFloat(1)
	}
}

// P6.2: lists of other lengths, of which one may be the beginning of the other, are not equal.
func TestSameLengths(t *testing.T) {
	a, b := full(1), full(1)
	for _, l := range lists(&b) {
		was := reflect.ValueOf(l.v.Interface())
		for _, n := range []int{0, 1, was.Len() - 1} {
			l.v.Set(was.Slice(0, n))
			wantSame(t, a, b, false, strconv.Itoa(n)+" elements of "+l.path)
		}
		l.v.SetZero()
		wantSame(t, a, b, false, "nil at "+l.path)
		l.v.Set(reflect.Append(was, reflect.Zero(l.v.Type().Elem())))
		wantSame(t, a, b, false, "one more at "+l.path)
		l.v.Set(was)
	}
	wantSame(t, a, b, true, "lists as they were")
}

// P6.2: nil and empty lists are equal, at every depth, and not equal to a list of one zero.
func TestSameEmpty(t *testing.T) {
	empty := api.Table{Groups: [][2][]int{}, Detectors: []api.Detector{}, Rails: []api.Rail{}, Buses: []api.Bus{}}
	wantSame(t, api.Table{}, empty, true, "nil and empty lists")
	rows := [][2][]int{{nil, nil}, {{}, nil}, {nil, {}}, {{}, {}}}
	for _, x := range rows {
		for _, y := range rows {
			wantSame(t, api.Table{Groups: [][2][]int{x}}, api.Table{Groups: [][2][]int{y}}, true, "nil and empty rows")
		}
		wantSame(t, api.Table{Groups: [][2][]int{x}}, api.Table{}, false, "an empty group and none")
		wantSame(t, api.Table{Groups: [][2][]int{x}}, api.Table{Groups: [][2][]int{x, x}}, false, "one empty group and two")
		wantSame(t, api.Table{Groups: [][2][]int{x}}, api.Table{Groups: [][2][]int{{{0}, nil}}}, false, "an empty row and phase 0")
	}
	for i, x := range []api.Table{{Detectors: []api.Detector{{}}}, {Rails: []api.Rail{{}}}, {Buses: []api.Bus{{}}}} {
		wantSame(t, x, empty, false, "a zero element and none, "+strconv.Itoa(i))
	}
}

// P6.2: the same elements in another order, or in another row or group, are not equal.
func TestSameOrder(t *testing.T) {
	groups := []([][2][]int){
		{{{0, 1}, {4, 5}}}, {{{1, 0}, {4, 5}}}, {{{4, 5}, {0, 1}}}, {{{0, 1, 4}, {5}}}, {{{0, 1, 4, 5}, {}}}, {{{}, {0, 1, 4, 5}}},
		{{{0, 1}, {}}, {{4, 5}, {}}}, {{{0, 1}, {}}, {{}, {4, 5}}}, {{{0, 1}, {4, 5}}, {}}, {{}, {{0, 1}, {4, 5}}}, {{{0}, {1}}, {{4}, {5}}},
	}
	for i, x := range groups {
		for j, y := range groups {
			wantSame(t, api.Table{Groups: x}, api.Table{Groups: y}, i == j, "groups "+strconv.Itoa(i)+" and "+strconv.Itoa(j))
		}
	}
	a := api.Table{Detectors: []api.Detector{{Phase: 1}, {Phase: 2}}, Rails: []api.Rail{{Bars: 1}, {Bars: 2}}, Buses: []api.Bus{{Set: 1}, {Set: 2}}}
	for i, turn := range []func(*api.Table){
		func(x *api.Table) { x.Detectors[0], x.Detectors[1] = x.Detectors[1], x.Detectors[0] },
		func(x *api.Table) { x.Rails[0], x.Rails[1] = x.Rails[1], x.Rails[0] },
		func(x *api.Table) { x.Buses[0], x.Buses[1] = x.Buses[1], x.Buses[0] },
	} {
		b := Clone(a)
		turn(&b)
		wantSame(t, a, b, false, "another order, "+strconv.Itoa(i))
	}
}

// pool is tables of all kinds, also such as May refuses; some of them are equal.
func pool(t *testing.T) []api.Table {
	long := full(math.NaN())
	long.Groups = append(long.Groups, [2][]int{make([]int, 1000), nil})
	long.Rails = make([]api.Rail, 1000)
	long.Flash[7], long.Share, long.Window = -1, math.MinInt, math.MaxInt
	out := []api.Table{{}, {Buses: []api.Bus{}}, full(0), full(minus), full(tiny), full(1), full(1), top(t), long}
	for _, x := range nans {
		out = append(out, full(x))
	}
	g := rand.New(rand.NewSource(3))
	for range 30 {
		out = append(out, drawn(g))
	}
	return out
}

// P6.3: Same is reflexive and symmetric; it agrees with all that the tables hold.
func TestSameLaws(t *testing.T) {
	l := pool(t)
	for i, x := range l {
		if !Same(x, x) {
			t.Errorf("table %d is not the same as itself", i)
		}
		for j, y := range l {
			if Same(x, y) != Same(y, x) {
				t.Errorf("Same of tables %d and %d is not symmetric", i, j)
			}
			if want := text(x) == text(y); Same(x, y) != want {
				t.Errorf("Same of tables %d and %d is %t", i, j, !want)
			}
		}
	}
}

// P6.2: Clone returns a table that is equal to t in every bit.
func TestClone(t *testing.T) {
	for i, x := range pool(t) {
		c := Clone(x)
		if text(c) != text(x) {
			t.Errorf("table %d:\n%s has the clone\n%s", i, text(x), text(c))
		}
		if !Same(c, x) || !Same(x, c) {
			t.Errorf("table %d is not the same as its clone", i)
		}
	}
}

// P6.2: a clone and its table do not see what is done to the other one.
func TestCloneMemory(t *testing.T) {
	for i, x := range pool(t) {
		c := Clone(x)
		was := text(x)
		for _, l := range leaves(&c) {
			l.other()
		}
		if text(x) != was {
			t.Errorf("table %d changes with its clone", i)
		}
		c = Clone(x)
		for _, l := range leaves(&x) {
			l.other()
		}
		if text(c) != was {
			t.Errorf("the clone of table %d changes with it", i)
		}
	}
}

// P6.2: a group that is put into a clone, or a longer list of it, is not in the table.
func TestCloneLists(t *testing.T) {
	x := full(1)
	was := text(x)
	x.Groups, x.Detectors, x.Rails, x.Buses = x.Groups[:3], x.Detectors[:15], x.Rails[:3], x.Buses[:0]
	x.Groups[1][0], x.Groups[2][1] = x.Groups[1][0][:7], x.Groups[2][1][:0]
	c := Clone(x)
	c.Groups = append(c.Groups, [2][]int{{7}, {7}})
	c.Groups[0] = [2][]int{{7}}
	c.Groups[1][0], c.Groups[2][1] = append(c.Groups[1][0], 7), append(c.Groups[2][1], 7)
	c.Detectors, c.Rails, c.Buses = append(c.Detectors, api.Detector{Phase: 7}), append(c.Rails, api.Rail{Bars: 7}), append(c.Buses, api.Bus{Set: 7})
	x.Groups, x.Detectors, x.Rails, x.Buses = x.Groups[:4], x.Detectors[:16], x.Rails[:4], x.Buses[:4]
	x.Groups[1][0], x.Groups[2][1] = x.Groups[1][0][:8], x.Groups[2][1][:8]
	if text(x) != was {
		t.Errorf("a clone writes into the memory of its table:\n%s", text(x))
	}
}

// R3: rows of a table that share memory do not share it in the clone.
func TestCloneSharedRows(t *testing.T) {
	row := []int{1, 2, 3}
	c := Clone(api.Table{Groups: [][2][]int{{row, row[:2]}, {row[1:], row}}})
	for _, l := range numbers(&c) {
		if strings.HasPrefix(l.path, ".Groups") {
			l.v.SetInt(l.v.Int() + 10)
		}
	}
	want := api.Table{Groups: [][2][]int{{{11, 12, 13}, {11, 12}}, {{12, 13}, {11, 12, 13}}}}
	if text(c) != text(want) {
		t.Errorf("rows share memory:\n%s", text(c))
	}
}

// R3: no call changes its arguments, nor the memory behind the length of their lists.
func TestArguments(t *testing.T) {
	for _, x := range []api.Table{full(1), top(t)} {
		was := text(x)
		short := x
		short.Groups, short.Detectors, short.Rails, short.Buses = x.Groups[:2], x.Detectors[:2], x.Rails[:2], x.Buses[:2]
		rows := short
		rows.Groups = [][2][]int{{x.Groups[0][0][:3], x.Groups[0][1][:0]}}
		May(short)
		Same(short, x)
		Same(x, short)
		Clone(short)
		May(rows)
		Same(rows, x)
		Same(x, rows)
		Clone(rows)
		if text(x) != was {
			t.Errorf("a call changes its argument:\n%s", text(x))
		}
	}
}
