package code

import (
	"bytes"
	"encoding/binary"
	"math"
	"math/rand"
	"reflect"
	"slices"
	"strings"
	"sync"
	"testing"

	"crossbuck/api"
	"crossbuck/crc"
	"crossbuck/table"
)

const tick = 1<<31 - 1

// A kind is a letter that stands for a number of P7.1. The words of a format below are made of these.
//
//	b bool, t time, r recall, p phase, s set, f flash, T ticks, l level, d delay or extension
const (
	phaseWord    = "btttttttttrbb"
	detectorWord = "pllddtt"
	railWord     = "ssssttttttT"
	busWord      = "st"
)

var kinds = map[rune]struct {
	size int
	most uint64
}{
	'b': {1, 1}, 't': {2, 9999}, 'r': {1, 3}, 'p': {1, 7}, 's': {1, 255}, 'f': {1, 2}, 'T': {4, tick}, 'l': {8, 0}, 'd': {8, 0},
	'4': {1, 4}, '8': {1, 8}, 'G': {1, 16}, // numbers of elements, by the greatest that May permits
}

// good tells whether a kind may have the value of these bits.
func good(kind rune, v uint64) bool {
	x := math.Float64frombits(v)
	switch kind {
	case 'l':
		return x > 0 && x <= 1000000
	case 'd':
		return v == 0 || x > 0 && x <= 999.9
	}
	return v <= kinds[kind].most
}

// item is a number as it stands in bytes.
type item struct {
	kind rune
	at   int
}

// scan reads bytes as P7.2 words it, without a panic and without a table: it finds where the numbers of items 2 to 10 are, and the first Fault.
type scan struct {
	b     []byte
	at    int
	items []item
	fault api.Fault
}

func (s *scan) fail(code api.Errno, at int) {
	if s.fault == (api.Fault{}) {
		s.fault = api.Fault{Code: code, At: at}
	}
}

func (s *scan) number(kind rune) int {
	size := kinds[kind].size
	if s.fault != (api.Fault{}) {
		return 0
	}
	if s.at+size > len(s.b) {
		s.fail(api.ErrEnd, len(s.b))
		return 0
	}
	v := binary.BigEndian.Uint64(append(make([]byte, 8-size), s.b[s.at:s.at+size]...))
	if !good(kind, v) {
		s.fail(api.ErrRange, s.at)
		return 0
	}
	s.items = append(s.items, item{kind, s.at})
	s.at += size
	return int(v)
}

func (s *scan) numbers(word string) {
	for _, kind := range word {
		s.number(kind)
	}
}

func (s *scan) list(count rune, word string) {
	s.numbers(strings.Repeat(word, s.number(count)))
}

func (s *scan) body() {
	s.numbers(strings.Repeat(phaseWord, 8))
	for range 2 * s.number('4') {
		s.list('8', "p")
	}
	s.numbers("ssssssss")
	s.list('G', detectorWord)
	s.list('4', railWord)
	s.list('4', busWord)
	s.numbers("ttttt" + "ffffffff" + "TT")
}

func (s *scan) sum() {
	switch {
	case s.fault != (api.Fault{}):
	case s.at+2 > len(s.b):
		s.fail(api.ErrEnd, len(s.b))
	case binary.BigEndian.Uint16(s.b[s.at:]) != crc.Of(s.b[:s.at]):
		s.fail(api.ErrSum, s.at)
	case s.at+2 < len(s.b):
		s.fail(api.ErrMore, s.at+2)
	}
}

func scanned(b []byte) *scan {
	s := &scan{b: b, at: 3}
	switch {
	case len(b) > 2048:
		s.fail(api.ErrBig, 0)
	case len(b) < 3:
		s.fail(api.ErrEnd, len(b))
	case b[0] != 88 || b[1] != 66 || b[2] != 1:
		s.fail(api.ErrMagic, 0)
	}
	if s.fault == (api.Fault{}) {
		s.body()
		s.sum()
	}
	return s
}

// spelling is bytes that are written number by number.
type spelling struct{ b []byte }

func (s *spelling) ones(l ...int) {
	for _, n := range l {
		s.b = append(s.b, byte(n))
	}
}

func (s *spelling) twos(l ...int) {
	for _, n := range l {
		s.b = binary.BigEndian.AppendUint16(s.b, uint16(n))
	}
}

func (s *spelling) fours(l ...int) {
	for _, n := range l {
		s.b = binary.BigEndian.AppendUint32(s.b, uint32(n))
	}
}

func (s *spelling) floats(l ...float64) {
	for _, x := range l {
		s.b = binary.BigEndian.AppendUint64(s.b, math.Float64bits(x))
	}
}

func (s *spelling) bools(l ...bool) {
	for _, x := range l {
		s.ones(map[bool]int{true: 1}[x])
	}
}

func (s *spelling) lists(x api.Table) {
	s.ones(len(x.Groups))
	for _, g := range x.Groups {
		for _, row := range g {
			s.ones(len(row))
			s.ones(row...)
		}
	}
	s.ones(x.Conflict[:]...)
	s.ones(len(x.Detectors))
	for _, d := range x.Detectors {
		s.ones(d.Phase)
		s.floats(d.On, d.Off, d.Delay, d.Extend)
		s.twos(d.MaxOn, d.MaxOff)
	}
	s.ones(len(x.Rails))
	for _, r := range x.Rails {
		s.ones(r.Bars, r.Clear, r.Dwell, r.Exit)
		s.twos(r.Delay, r.Green, r.Foot, r.Hold, r.Stay, r.Most)
		s.fours(r.Limit)
	}
	s.ones(len(x.Buses))
	for _, b := range x.Buses {
		s.ones(b.Set)
		s.twos(b.Lock)
	}
}

// spelled is the bytes of a table as P7.1 lists them.
func spelled(x api.Table) []byte {
	s := &spelling{[]byte{88, 66, 1}}
	for _, p := range x.Phases {
		s.bools(p.On)
		s.twos(p.Min, p.Gap, p.Max, p.Top, p.Step, p.Yellow, p.Red, p.Walk, p.Blinks)
		s.ones(p.Recall)
		s.bools(p.Lock, p.Rest)
	}
	s.lists(x)
	s.twos(x.Extend, x.Budget, x.Start, x.Revert, x.Least)
	s.ones(x.Flash[:]...)
	s.fours(x.Window, x.Share)
	s.twos(int(crc.Of(s.b)))
	return s.b
}

// summed is bytes with their last two put right.
func summed(b []byte) []byte {
	b = bytes.Clone(b)
	n := len(b) - 2
	binary.BigEndian.PutUint16(b[n:], crc.Of(b[:n]))
	return b
}

// draw makes tables within their ranges. Now and then it takes an end of a range.
type draw struct{ *rand.Rand }

func (g draw) upTo(most int) int {
	switch g.Intn(8) {
	case 0:
		return 0
	case 1:
		return most
	}
	return g.Intn(most + 1)
}

func (g draw) times(l ...*int) {
	for _, n := range l {
		*n = g.upTo(9999)
	}
}

func (g draw) sets(l ...*int) {
	for _, n := range l {
		*n = g.upTo(255)
	}
}

func (g draw) flag() bool { return g.Intn(2) == 1 }

// float is of any size up to most, and not 0.
func (g draw) float(most float64) float64 {
	switch g.Intn(8) {
	case 0:
		return most
	case 1:
		return math.Ldexp(1-g.Float64()/2, -g.Intn(1074))
	}
	return most * (1 - g.Float64())
}

func (g draw) row() []int {
	row := make([]int, g.upTo(8))
	for i := range row {
		row[i] = g.Intn(8)
	}
	return row
}

func (g draw) phases(x *api.Table) {
	for i := range x.Phases {
		p := &x.Phases[i]
		p.On, p.Lock, p.Rest, p.Recall = g.flag(), g.flag(), g.flag(), g.Intn(4)
		g.times(&p.Min, &p.Gap, &p.Max, &p.Top, &p.Step, &p.Yellow, &p.Red, &p.Walk, &p.Blinks)
		g.sets(&x.Conflict[i])
		x.Flash[i] = g.Intn(3)
	}
}

func (g draw) detector() api.Detector {
	d := api.Detector{Phase: g.Intn(8), On: g.float(1000000), Off: g.float(1000000)}
	if g.flag() {
		d.Delay = g.float(999.9)
	}
	if g.flag() {
		d.Extend = g.float(999.9)
	}
	g.times(&d.MaxOn, &d.MaxOff)
	return d
}

func (g draw) rail() api.Rail {
	r := api.Rail{Limit: g.upTo(tick)}
	g.sets(&r.Bars, &r.Clear, &r.Dwell, &r.Exit)
	g.times(&r.Delay, &r.Green, &r.Foot, &r.Hold, &r.Stay, &r.Most)
	return r
}

func (g draw) table() api.Table {
	x := api.Table{Window: g.upTo(tick), Share: g.upTo(tick)}
	g.phases(&x)
	g.times(&x.Extend, &x.Budget, &x.Start, &x.Revert, &x.Least)
	for range g.upTo(4) {
		x.Groups = append(x.Groups, [2][]int{g.row(), g.row()})
	}
	for range g.upTo(16) {
		x.Detectors = append(x.Detectors, g.detector())
	}
	for range g.upTo(4) {
		x.Rails = append(x.Rails, g.rail())
	}
	for range g.upTo(4) {
		x.Buses = append(x.Buses, api.Bus{Set: g.upTo(255), Lock: g.upTo(9999)})
	}
	return x
}

// drawn is the table of a seed.
func drawn(seed int64) api.Table { return draw{rand.New(rand.NewSource(seed))}.table() }

// small has an element in each list; great has as many as there may be.
func small() api.Table {
	g := draw{rand.New(rand.NewSource(1))}
	x := api.Table{Groups: [][2][]int{{{3, 0}, {6}}}, Detectors: []api.Detector{g.detector()}, Rails: []api.Rail{g.rail()}, Buses: []api.Bus{{Set: 5, Lock: 700}}}
	g.phases(&x)
	return x
}

func great() api.Table {
	g := draw{rand.New(rand.NewSource(2))}
	x := g.table()
	x.Groups = slices.Repeat([][2][]int{{{0, 1, 2, 3, 4, 5, 6, 7}, {7, 6, 5, 4, 3, 2, 1, 0}}}, 4)
	x.Detectors, x.Rails, x.Buses = nil, nil, nil
	for range 16 {
		x.Detectors = append(x.Detectors, g.detector())
	}
	for range 4 {
		x.Rails, x.Buses = append(x.Rails, g.rail()), append(x.Buses, api.Bus{Set: 255, Lock: 9999})
	}
	return x
}

func encoded(t *testing.T, x api.Table) []byte {
	t.Helper()
	b, e := Encode(x)
	if e != api.OK {
		t.Fatalf("Encode: %d", e)
	}
	return b
}

// wantFault checks a Fault, and that the table beside it is the zero value.
func wantFault(t *testing.T, what string, b []byte, want api.Fault) {
	t.Helper()
	if x, f := Decode(b); f != want || !reflect.DeepEqual(x, api.Table{}) {
		t.Errorf("%s: Decode of %d bytes: %v, want %v; beside it %v", what, len(b), f, want, x)
	}
}

// wantScan checks that Decode finds what scan finds, and that a table without a Fault has these bytes.
func wantScan(t *testing.T, what string, b []byte) {
	t.Helper()
	if want := scanned(b).fault; want != (api.Fault{}) {
		wantFault(t, what, b, want)
		return
	}
	x, f := Decode(b)
	if f != (api.Fault{}) {
		t.Errorf("%s: Decode of %d bytes: %v", what, len(b), f)
		return
	}
	if !bytes.Equal(spelled(x), b) {
		t.Errorf("%s: Decode of %v: %v", what, b, x)
	}
	if again := encoded(t, x); !bytes.Equal(again, b) {
		t.Errorf("%s: Encode after Decode: %v, want %v", what, again, b)
	}
}

// P7.1: the bytes of a table, written out.
func TestEncodeBytes(t *testing.T) {
	x := api.Table{
		Groups:    [][2][]int{{{3, 1}, {}}, {{}, {7}}},
		Conflict:  [8]int{1, 2, 4, 8, 16, 32, 64, 255},
		Detectors: []api.Detector{{Phase: 6, On: 1, Off: 0.5, Delay: 2, Extend: 10, MaxOn: 258, MaxOff: 9999}},
		Rails:     []api.Rail{{Bars: 9, Clear: 10, Dwell: 11, Exit: 12, Delay: 257, Green: 258, Foot: 259, Hold: 260, Stay: 261, Most: 262, Limit: 0x01020304}},
		Buses:     []api.Bus{{Set: 200, Lock: 513}, {Set: 1, Lock: 2}},
		Extend:    1, Budget: 770, Start: 3, Revert: 4, Least: 5, Flash: [8]int{0, 1, 2, 2, 1, 0, 0, 1}, Window: tick, Share: 0x0A0B0C0D,
	}
	x.Phases[0] = api.Phase{On: true, Min: 1, Gap: 2, Max: 3, Top: 4, Step: 5, Yellow: 6, Red: 7, Walk: 8, Blinks: 9999, Recall: 3, Lock: true}
	x.Phases[7] = api.Phase{Min: 256, Rest: true}
	want := slices.Concat(
		[]byte{88, 66, 1},
		[]byte{1, 0, 1, 0, 2, 0, 3, 0, 4, 0, 5, 0, 6, 0, 7, 0, 8, 39, 15, 3, 1, 0}, make([]byte, 6*22),
		[]byte{0, 1, 0, 0, 0, 0, 0, 0, 0, 0, 0, 0, 0, 0, 0, 0, 0, 0, 0, 0, 0, 1},
		[]byte{2, 2, 3, 1, 0, 0, 1, 7}, []byte{1, 2, 4, 8, 16, 32, 64, 255},
		[]byte{1, 6, 0x3F, 0xF0, 0, 0, 0, 0, 0, 0, 0x3F, 0xE0, 0, 0, 0, 0, 0, 0, 0x40, 0, 0, 0, 0, 0, 0, 0, 0x40, 0x24, 0, 0, 0, 0, 0, 0, 1, 2, 39, 15},
		[]byte{1, 9, 10, 11, 12, 1, 1, 1, 2, 1, 3, 1, 4, 1, 5, 1, 6, 1, 2, 3, 4}, []byte{2, 200, 2, 1, 1, 0, 2},
		[]byte{0, 1, 3, 2, 0, 3, 0, 4, 0, 5}, []byte{0, 1, 2, 2, 1, 0, 0, 1}, []byte{127, 255, 255, 255, 10, 11, 12, 13},
		[]byte{0, 0},
	)
	if want = summed(want); !bytes.Equal(encoded(t, x), want) {
		t.Errorf("Encode: %v, want %v", encoded(t, x), want)
	}
	if y, f := Decode(want); f != (api.Fault{}) || !table.Same(x, y) {
		t.Errorf("Decode: %v, %v, want %v", y, f, x)
	}
}

// P7.1: the bytes of the zero Table, of which the checksum is known from the rule of crc alone.
func TestEncodeZero(t *testing.T) {
	want := append([]byte{88, 66, 1}, make([]byte, 214)...)
	c := uint16(0xFFFF)
	for _, x := range want {
		c ^= uint16(x) << 8
		for range 8 {
			high := c&0x8000 != 0
			if c <<= 1; high {
				c ^= 0x1021
			}
		}
	}
	want = append(want, byte(c>>8), byte(c))
	if got := encoded(t, api.Table{}); !bytes.Equal(got, want) {
		t.Errorf("Encode of the zero Table: %v, want %v", got, want)
	}
	if x, f := Decode(want); f != (api.Fault{}) || !table.Same(x, api.Table{}) {
		t.Errorf("Decode of the zero Table's bytes: %v, %v", x, f)
	}
}

// P7.1, P7.3: tables of any size.
func TestInverse(t *testing.T) {
	all := []api.Table{small(), great()}
	for seed := range int64(2000) {
		all = append(all, drawn(seed))
	}
	for i, x := range all {
		b := encoded(t, x)
		if want := spelled(x); !bytes.Equal(b, want) {
			t.Fatalf("table %d: Encode: %v, want %v", i, b, want)
		}
		y, f := Decode(b)
		if f != (api.Fault{}) || !table.Same(x, y) {
			t.Fatalf("table %d: Decode: %v, %v, want %v", i, y, f, x)
		}
		if s := scanned(b); s.fault != (api.Fault{}) {
			t.Fatalf("table %d: %v", i, s.fault)
		}
	}
}

// places are what holds a number in a value.
func places(v reflect.Value) []reflect.Value {
	var out []reflect.Value
	switch v.Kind() {
	case reflect.Int, reflect.Float64:
		return []reflect.Value{v}
	case reflect.Struct:
		for i := range v.NumField() {
			out = append(out, places(v.Field(i))...)
		}
	case reflect.Array, reflect.Slice:
		for i := range v.Len() {
			out = append(out, places(v.Index(i))...)
		}
	}
	return out
}

// wantEncode checks that Encode returns a table's bytes or ErrRange, as May says.
func wantEncode(t *testing.T, x api.Table) (may bool) {
	t.Helper()
	b, e := Encode(x)
	if may = table.May(x); may && (e != api.OK || !bytes.Equal(b, spelled(x))) || !may && (e != api.ErrRange || len(b) != 0) {
		t.Errorf("May is %t, and Encode of %v: %v, %d", may, x, b, e)
	}
	return may
}

// P7.2: Encode refuses what May refuses, wherever it is, and nothing else.
func TestEncodeRange(t *testing.T) {
	x := great()
	refused := 0
	for _, v := range places(reflect.ValueOf(&x).Elem()) {
		was := reflect.ValueOf(v.Interface())
		if v.Kind() == reflect.Int {
			for _, n := range []int{math.MinInt, -65536, -256, -1, 0, 1, 2, 3, 4, 7, 8, 255, 256, 9999, 10000, 65536, tick, tick + 1, 1 << 32, math.MaxInt} {
				if v.SetInt(int64(n)); !wantEncode(t, x) {
					refused++
				}
			}
		} else {
			for _, f := range []float64{math.Inf(-1), -1, math.Copysign(0, -1), 0, 5e-324, 999.9, 999.95, 1000000, 1000001, math.Inf(1), math.NaN()} {
				if v.SetFloat(f); !wantEncode(t, x) {
					refused++
				}
			}
		}
		v.Set(was)
	}
	if refused < 1000 || !wantEncode(t, x) {
		t.Errorf("%d numbers were refused", refused)
	}
}

// P7.2: Encode refuses lists that are too long.
func TestEncodeLengths(t *testing.T) {
	for i, f := range []func(x *api.Table, n int){
		func(x *api.Table, n int) { x.Groups = make([][2][]int, n) },
		func(x *api.Table, n int) { x.Groups[0][0] = make([]int, n) },
		func(x *api.Table, n int) { x.Groups[3][1] = make([]int, n) },
		func(x *api.Table, n int) {
			x.Detectors = slices.Repeat([]api.Detector{{On: 1, Off: 1}}, n)
		},
		func(x *api.Table, n int) { x.Rails = make([]api.Rail, n) },
		func(x *api.Table, n int) { x.Buses = make([]api.Bus, n) },
	} {
		most := []int{4, 8, 8, 16, 4, 4}[i]
		for _, n := range []int{0, 1, most - 1, most, most + 1, most + 2, 256, 257, 300} {
			x := great()
			if f(&x, n); wantEncode(t, x) != (n <= most) {
				t.Errorf("list %d of %d elements", i, n)
			}
		}
	}
}

// P7.2: bytes that end anywhere, without and with a wrong number ahead of the end.
func TestDecodeEnd(t *testing.T) {
	for _, x := range []api.Table{{}, small(), great()} {
		b := spelled(x)
		for n := range b {
			wantFault(t, "cut", b[:n], api.Fault{Code: api.ErrEnd, At: n})
			wantFault(t, "cut, room behind", b[:n:n], api.Fault{Code: api.ErrEnd, At: n})
		}
	}
	for n := range 3 {
		wantFault(t, "short", []byte{9, 9, 9}[:n], api.Fault{Code: api.ErrEnd, At: n})
	}
	wantFault(t, "nil", nil, api.Fault{Code: api.ErrEnd})
}

// P7.2: the first three bytes.
func TestDecodeMagic(t *testing.T) {
	for _, b := range [][]byte{spelled(small()), spelled(small())[:3], spelled(small())[:9], append(spelled(small()), 1)} {
		for i := range 3 {
			was := b[i]
			for x := range 256 {
				if b[i] = byte(x); b[i] != was {
					wantFault(t, "first bytes", b, api.Fault{Code: api.ErrMagic})
				}
			}
			b[i] = was
		}
	}
	for _, b := range [][]byte{{0, 0, 0}, {66, 88, 1}, {1, 66, 88}, {88, 66, 0}, {89, 66, 1}, make([]byte, 2048)} {
		wantFault(t, "first bytes", b, api.Fault{Code: api.ErrMagic})
	}
	wantFault(t, "first bytes alone", []byte{88, 66, 1}, api.Fault{Code: api.ErrEnd, At: 3})
}

// P7.2: more than MaxBytes bytes, whatever they are.
func TestDecodeBig(t *testing.T) {
	b := spelled(great())
	full := append(bytes.Clone(b), make([]byte, 2048-len(b))...)
	wantFault(t, "2048 bytes", full, api.Fault{Code: api.ErrMore, At: len(b)})
	wantFault(t, "2049 bytes", append(full, 0), api.Fault{Code: api.ErrBig})
	wantFault(t, "2049 wrong bytes", make([]byte, 2049), api.Fault{Code: api.ErrBig})
	wantFault(t, "many bytes", make([]byte, 1<<20), api.Fault{Code: api.ErrBig})
}

// values are what a number is tried with.
func values(kind rune) []uint64 {
	var out []uint64
	switch kinds[kind].size {
	case 1:
		for v := range uint64(20) {
			out = append(out, v, 255-v)
		}
		out = append(out, 32, 64, 127, 128, 129)
	case 2:
		out = []uint64{0, 1, 255, 256, 9998, 9999, 10000, 10001, 32768, 65535}
	case 4:
		out = []uint64{0, 1, 65536, tick - 1, tick, tick + 1, tick + 2, 1<<32 - 1}
	case 8:
		for _, x := range []float64{
			0, math.Copysign(0, -1), 5e-324, -5e-324, 0x1p-1022, 0.04, 0.05, 1, -1, 999.8, math.Nextafter(999.9, 0), 999.9, math.Nextafter(999.9, 1000), 999.95, 1000,
			math.Nextafter(1000000, 0), 1000000, math.Nextafter(1000000, 2000000), 1000001, math.MaxFloat64, -1000000, math.Inf(1), math.Inf(-1), math.NaN(), math.Copysign(math.NaN(), -1),
		} {
			out = append(out, math.Float64bits(x))
		}
		out = append(out, 1<<52-1, 0x7FF0000000000001, 0x7FF8000000000003, 0xFFFFFFFFFFFFFFFF)
	}
	return out
}

// put is bytes with another number at an item's place, and their sum.
func put(b []byte, i item, v uint64) []byte {
	b = bytes.Clone(b)
	size := kinds[i.kind].size
	copy(b[i.at:], binary.BigEndian.AppendUint64(nil, v)[8-size:])
	return summed(b)
}

// P7.2: each number at the ends of its range and beyond. A number of elements is not tried within its range here, because all that comes after it would be another item.
func TestDecodeRange(t *testing.T) {
	for _, b := range [][]byte{spelled(small()), spelled(great())} {
		for _, i := range scanned(b).items {
			end := i.at + kinds[i.kind].size
			for _, v := range values(i.kind) {
				c := put(b, i, v)
				if good(i.kind, v) {
					if !strings.ContainsRune("48G", i.kind) {
						wantScan(t, "a number within its range", c)
					}
					continue
				}
				want := api.Fault{Code: api.ErrRange, At: i.at}
				wantFault(t, "a wrong number", c, want)
				wantFault(t, "a wrong number and a wrong sum", append(c, 1), want)
				wantFault(t, "a wrong number at the end", c[:end], want)
				wantFault(t, "a wrong number, not whole", c[:end-1], api.Fault{Code: api.ErrEnd, At: end - 1})
				for n := end; n < len(c); n += 311 {
					wantFault(t, "a wrong number, cut later", c[:n], want)
				}
			}
		}
	}
}

// P7.2: the first of two wrong numbers counts.
func TestDecodeFirst(t *testing.T) {
	b := spelled(great())
	items := scanned(b).items
	for i := range items {
		for j := i + 1; j < len(items); j += 13 {
			if c := items[i]; c.kind != 's' && items[j].kind != 's' {
				c := put(put(b, c, math.MaxUint64), items[j], math.MaxUint64)
				wantFault(t, "two wrong numbers", c, api.Fault{Code: api.ErrRange, At: items[i].at})
			}
		}
	}
}

// P7.2: numbers of elements, with the elements that they announce and without.
func TestDecodeCounts(t *testing.T) {
	for _, x := range []api.Table{{}, small(), great(), drawn(7)} {
		b := spelled(x)
		for _, i := range scanned(b).items {
			if strings.ContainsRune("48G", i.kind) {
				for _, v := range values(i.kind) {
					wantScan(t, "a number of elements", put(b, i, v))
				}
			}
		}
	}
}

// P7.2: a wrong checksum, and more bytes behind a right one and a wrong one.
func TestDecodeSum(t *testing.T) {
	for _, x := range []api.Table{{}, small(), great()} {
		b := spelled(x)
		n := len(b) - 2
		wantFault(t, "one more byte", append(bytes.Clone(b), 0), api.Fault{Code: api.ErrMore, At: n + 2})
		wantFault(t, "twice", append(bytes.Clone(b), b...), api.Fault{Code: api.ErrMore, At: n + 2})
		for bit := range 16 {
			c := bytes.Clone(b)
			c[n+bit/8] ^= 1 << (bit % 8)
			wantFault(t, "a wrong sum", c, api.Fault{Code: api.ErrSum, At: n})
			wantFault(t, "a wrong sum and more", append(c, 0, 0), api.Fault{Code: api.ErrSum, At: n})
			wantFault(t, "half a sum", c[:n+1], api.Fault{Code: api.ErrEnd, At: n + 1})
		}
	}
}

// P7.1: the checksum may have any value, both 0 and 65535 among them.
func TestDecodeSums(t *testing.T) {
	found := map[uint16]bool{}
	for n := range 1 << 20 {
		b := spelled(api.Table{Share: n})
		if c := binary.BigEndian.Uint16(b[217:]); c == 0 || c == 0xFFFF {
			found[c] = true
			wantScan(t, "an end of the sums", b)
		}
		if len(found) == 2 {
			return
		}
	}
	t.Errorf("found only %v", found)
}

// P7.2: no single bit of a table's bytes can be changed without a Fault.
func TestDecodeBits(t *testing.T) {
	b := spelled(great())
	for bit := range 8 * len(b) {
		b[bit/8] ^= 1 << (bit % 8)
		if _, f := Decode(b); f == (api.Fault{}) || f != scanned(b).fault {
			t.Errorf("bit %d: %v, want %v", bit, f, scanned(b).fault)
		}
		b[bit/8] ^= 1 << (bit % 8)
	}
}

// spoilt is bytes of which some are others, missing or more, with a right sum for most.
func spoilt(g draw, b []byte) []byte {
	b = bytes.Clone(b)
	for range 1 + g.Intn(3) {
		at := 3 + g.Intn(len(b)-3)
		switch g.Intn(6) {
		case 0:
			b = slices.Insert(b, at, byte(g.Intn(256)))
		case 1:
			if len(b) > 10 {
				b = slices.Delete(b, at, at+1)
			}
		case 2:
			b[at] = byte(g.Intn(256))
		default:
			b[at] = byte(g.Intn(5))
		}
	}
	if g.Intn(4) > 0 {
		b = summed(b)
	}
	return b
}

// P7.2, P7.3, R1: arbitrary bytes, most of which begin like a table's.
func TestDecodeArbitrary(t *testing.T) {
	g := draw{rand.New(rand.NewSource(3))}
	fine := 0
	for n := range 15000 {
		b := spoilt(g, spelled(drawn(int64(n%500))))
		if n%8 == 0 {
			b = make([]byte, g.Intn(2100))
			g.Read(b)
			copy(b, []byte{88, 66, 1, 0, 0, 1}[:g.Intn(7)])
		}
		if wantScan(t, "arbitrary bytes", b); scanned(b).fault == (api.Fault{}) {
			fine++
		}
	}
	if fine < 500 {
		t.Errorf("only %d had no Fault", fine)
	}
}

// R3: neither call changes what it is given, nor the memory behind it.
func TestArguments(t *testing.T) {
	x := great()
	x.Groups[0][0] = append(x.Groups[0][0][:3:3], 4, 5)[:3]
	x.Detectors, x.Rails, x.Buses = x.Detectors[:5], x.Rails[:2], x.Buses[:1]
	x.Groups = x.Groups[:3]
	whole := func() []any {
		return []any{table.Clone(x), slices.Clone(x.Groups[:4]), slices.Clone(x.Groups[0][0][:5]), slices.Clone(x.Detectors[:16]), slices.Clone(x.Rails[:4]), slices.Clone(x.Buses[:4])}
	}
	was := whole()
	b := encoded(t, x)
	if !reflect.DeepEqual(was, whole()) {
		t.Error("Encode changed the table")
	}
	room := append(bytes.Clone(b), 7, 7, 7)
	kept := bytes.Clone(room)
	if _, f := Decode(room[:len(b)]); f != (api.Fault{}) || !bytes.Equal(room, kept) {
		t.Errorf("Decode: %v; the bytes are %v, want %v", f, room, kept)
	}
	wantFault(t, "with bytes behind", room[:len(b)-1], api.Fault{Code: api.ErrEnd, At: len(b) - 1})
}

// grown is a table to each list of which something has been added.
func grown(x api.Table) api.Table {
	for g := range x.Groups {
		for row := range x.Groups[g] {
			x.Groups[g][row] = append(x.Groups[g][row], 99)
		}
	}
	x.Groups = append(x.Groups, [2][]int{{1}, {2}})
	x.Detectors, x.Rails, x.Buses = append(x.Detectors, api.Detector{}), append(x.Rails, api.Rail{}), append(x.Buses, api.Bus{})
	return x
}

// R3, R4: results are new memory, of which no two lists share any.
func TestResults(t *testing.T) {
	x := great()
	first, second := encoded(t, x), encoded(t, x)
	for i := range first {
		first[i] = 99
	}
	if !bytes.Equal(second, spelled(x)) || !bytes.Equal(encoded(t, x), second) {
		t.Error("Encode returned the same memory twice")
	}
	b := bytes.Clone(second)
	y, _ := Decode(b)
	z, _ := Decode(b)
	for i := range b {
		b[i] = 99
	}
	for _, v := range places(reflect.ValueOf(&y).Elem()) {
		if v.Kind() == reflect.Int {
			v.SetInt(77)
		} else {
			v.SetFloat(77)
		}
	}
	if !table.Same(z, x) {
		t.Errorf("Decode returned the same memory twice, or the bytes': %v, want %v", z, x)
	}
	for g, rows := range grown(z).Groups[:4] {
		for row := range rows {
			if want := append(slices.Clone(x.Groups[g][row]), 99); !slices.Equal(rows[row], want) {
				t.Errorf("row %d of group %d: %v, want %v", row, g, rows[row], want)
			}
		}
	}
}

// R4: calls that run side by side do not know of each other.
func TestSideBySide(t *testing.T) {
	var group sync.WaitGroup
	for seed := range int64(8) {
		group.Go(func() {
			for n := range int64(100) {
				x := drawn(1000*seed + n)
				b, e := Encode(x)
				y, f := Decode(b)
				_, cut := Decode(b[:len(b)-1])
				if e != api.OK || f != (api.Fault{}) || !table.Same(x, y) || cut != (api.Fault{Code: api.ErrEnd, At: len(b) - 1}) {
					t.Errorf("seed %d: %d, %v, %v", 1000*seed+n, e, f, cut)
				}
			}
		})
	}
	group.Wait()
}
