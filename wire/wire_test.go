package wire

import (
	"bytes"
	"math"
	"math/big"
	"math/rand"
	"testing"

	"crossbuck/api"
)

var sizes = []int{math.MinInt, -9, -1, 0, 1, 2, 3, 4, 5, 6, 7, 8, 9, 16, 64, math.MaxInt}

var numbers = []int{
	0, 1, 2, 127, 128, 255, 256, 257, 258, 65535, 65536, 1 << 24, 1<<31 - 1, 1 << 31, 1 << 32, 1<<40 + 5, 1 << 48, 1<<56 - 1, 1 << 56,
	0x0102030405060708, math.MaxInt, math.MinInt, math.MinInt + 1, -1, -2, -255, -256, -257, -1 << 32, -0x0102030405060708,
}

var floats = []float64{
	0, math.Copysign(0, -1), 1, -1, 0.1, 2.5, 1e300, -1e-300, math.SmallestNonzeroFloat64, math.MaxFloat64, -math.MaxFloat64,
	math.Inf(1), math.Inf(-1), math.NaN(), math.Float64frombits(0x7FF0000000000001), math.Float64frombits(0xFFF8000000000003), math.Float64frombits(0x0102030405060708),
}

// lowest are the lowest size bytes of n as P5.1 words it, from the digits of n modulo a power of 256.
func lowest(size, n int) []byte {
	if size <= 0 {
		return nil
	}
	size = min(size, 8)
	x := new(big.Int).Mod(big.NewInt(int64(n)), new(big.Int).Lsh(big.NewInt(1), uint(8*size)))
	return x.FillBytes(make([]byte, size))
}

// some are n bytes that look random, the same in each run.
func some(n int, seed int64) []byte {
	b := make([]byte, n)
	rand.New(rand.NewSource(seed)).Read(b)
	return b
}

// is tells whether r stands at a place of n bytes, and has failed with f or, if f is the zero value, not at all.
func is(r *Reader, at, n int, f api.Fault) bool {
	return r.At() == at && r.Left() == n-at && r.Fault() == f
}

// wantDead checks that no call moves a Reader that has failed.
func wantDead(t *testing.T, r *Reader, n int) {
	t.Helper()
	at, f := r.At(), r.Fault()
	for i := range 3 {
		a, b, c, d := r.Num(0, 0, 0), r.Num(1, math.MinInt, math.MaxInt), r.Num(7, math.MinInt, math.MaxInt), r.Num(1, 9, 8)
		if a != 0 || b != 0 || c != 0 || d != 0 || r.Float() != 0 || r.Bool() || !is(r, at, n, f) {
			t.Errorf("after %v at %d, in turn %d: %d %d %d %d, then %v at %d, %d left", f, at, i, a, b, c, d, r.Fault(), r.At(), r.Left())
		}
	}
}

// P5.1: Put of ordinary numbers, of numbers that do not fit, and of negative ones.
func TestPut(t *testing.T) {
	for _, x := range []struct {
		b       []byte
		size, n int
		want    []byte
	}{
		{nil, 1, 7, []byte{7}},
		{nil, 2, 258, []byte{1, 2}},
		{[]byte{}, 2, 258, []byte{1, 2}},
		{[]byte{9, 8}, 3, 258, []byte{9, 8, 0, 1, 2}},
		{[]byte{9}, 1, 258, []byte{9, 2}},
		{[]byte{9}, 1, -1, []byte{9, 255}},
		{nil, 2, -2, []byte{255, 254}},
		{nil, 8, -2, []byte{255, 255, 255, 255, 255, 255, 255, 254}},
		{nil, 8, 1, []byte{0, 0, 0, 0, 0, 0, 0, 1}},
		{nil, 8, 0x0102030405060708, []byte{1, 2, 3, 4, 5, 6, 7, 8}},
		{nil, 7, 0x0102030405060708, []byte{2, 3, 4, 5, 6, 7, 8}},
		{nil, 8, math.MinInt, []byte{128, 0, 0, 0, 0, 0, 0, 0}},
	} {
		if got := Put(x.b, x.size, x.n); !bytes.Equal(got, x.want) {
			t.Errorf("Put(%v, %d, %d) = %v, want %v", x.b, x.size, x.n, got, x.want)
		}
	}
}

// P5.1: the size of Put is limited to 0 to 8.
func TestPutSize(t *testing.T) {
	for _, x := range []struct{ size, want int }{{math.MinInt, 0}, {-1, 0}, {0, 0}, {8, 8}, {9, 8}, {16, 8}, {math.MaxInt, 8}} {
		want := append([]byte{5}, lowest(x.want, -0x0102030405060708)...)
		if got := Put([]byte{5}, x.size, -0x0102030405060708); !bytes.Equal(got, want) {
			t.Errorf("Put of size %d: %v, want %v", x.size, got, want)
		}
	}
}

// P5.1: Put of each size and number after lists of several lengths.
func TestPutAll(t *testing.T) {
	for _, b := range [][]byte{nil, {}, {0}, {255, 0, 1}, some(2048, 1)} {
		for _, size := range sizes {
			for _, n := range numbers {
				want := append(bytes.Clone(b), lowest(size, n)...)
				if got := Put(b, size, n); !bytes.Equal(got, want) || !bytes.Equal(got, Put(b, size, n)) {
					t.Fatalf("Put(%d bytes, %d, %d) = %v, want %v", len(b), size, n, got, want)
				}
			}
		}
	}
}

// P5.1: PutFloat writes the bits.
func TestPutFloat(t *testing.T) {
	if got, want := PutFloat([]byte{5}, -2.5), []byte{5, 0xC0, 4, 0, 0, 0, 0, 0, 0}; !bytes.Equal(got, want) {
		t.Errorf("PutFloat(5, -2.5) = %v, want %v", got, want)
	}
	for _, b := range [][]byte{nil, {}, {7}, some(100, 2)} {
		for _, x := range floats {
			want := append(bytes.Clone(b), new(big.Int).SetUint64(math.Float64bits(x)).FillBytes(make([]byte, 8))...)
			if got := PutFloat(b, x); !bytes.Equal(got, want) {
				t.Errorf("PutFloat(%v, %v) = %v, want %v", b, x, got, want)
			}
		}
	}
}

// P5.1, R3: what is put is new memory, and neither b nor the memory behind its length is changed.
func TestPutMemory(t *testing.T) {
	puts := map[string]func([]byte) []byte{
		"Put none":  func(b []byte) []byte { return Put(b, 0, 7) },
		"Put less":  func(b []byte) []byte { return Put(b, -1, 7) },
		"Put one":   func(b []byte) []byte { return Put(b, 1, 7) },
		"Put eight": func(b []byte) []byte { return Put(b, 8, 7) },
		"PutFloat":  func(b []byte) []byte { return PutFloat(b, 7) },
	}
	for name, put := range puts {
		room := bytes.Repeat([]byte{3}, 30)
		first := put(room[:2])
		want := bytes.Clone(first)
		second, third := put(first), put(first)
		for i := range second {
			second[i] = 99
		}
		if first[0] = 98; !bytes.Equal(room, bytes.Repeat([]byte{3}, 30)) {
			t.Errorf("%s changes or keeps its argument: %v", name, room)
		}
		if !bytes.Equal(third[:len(want)], want) || bytes.Contains(third, []byte{99}) {
			t.Errorf("%s shares memory among results: %v", name, third)
		}
	}
}

// P5.2: the example.
func TestNumExample(t *testing.T) {
	if n := New([]byte{1, 2}).Num(2, 0, 300); n != 258 {
		t.Errorf("Num = %d, want 258", n)
	}
}

// P5.2: numbers one after another, with At and Left after each.
func TestNum(t *testing.T) {
	r := New([]byte{7, 1, 2, 0, 0, 0, 255, 255, 255, 255, 255, 255, 255, 128, 0, 0, 0, 0, 0, 1, 9})
	for i, x := range []struct{ size, want, at int }{
		{1, 7, 1}, {2, 258, 3}, {0, 0, 3}, {3, 0, 6}, {7, 1<<56 - 1, 13}, {7, 1<<55 + 1, 20}, {1, 9, 21}, {0, 0, 21},
	} {
		if n := r.Num(x.size, 0, math.MaxInt); n != x.want || !is(r, x.at, 21, api.Fault{}) {
			t.Errorf("number %d: %d at %d, want %d at %d", i, n, r.At(), x.want, x.at)
		}
	}
}

// P5.2: the size of Num is limited to 0 to 7.
func TestNumSize(t *testing.T) {
	for _, x := range []struct{ size, want int }{{math.MinInt, 0}, {-1, 0}, {0, 0}, {7, 7}, {8, 7}, {9, 7}, {math.MaxInt, 7}} {
		b := []byte{255, 254, 253, 252, 251, 250, 249, 248, 247}
		want := int(new(big.Int).SetBytes(b[:x.want]).Int64())
		if r := New(b); r.Num(x.size, 0, math.MaxInt) != want || !is(r, x.want, len(b), api.Fault{}) {
			t.Errorf("Num of size %d: at %d with %v, want %d", x.size, r.At(), r.Fault(), x.want)
		}
		if r := New(b[:7]); r.Num(x.size, 0, math.MaxInt) != want || !is(r, x.want, 7, api.Fault{}) {
			t.Errorf("Num of size %d in 7 bytes: at %d with %v, want %d", x.size, r.At(), r.Fault(), x.want)
		}
	}
}

// P5.2: a number may be low or high or between them, and nothing else; a range may be negative or empty.
func TestNumRange(t *testing.T) {
	for _, x := range []struct {
		size, low, high int
		ok              bool
	}{
		{2, 258, 258, true}, {2, 257, 259, true}, {2, 258, 259, true}, {2, 257, 258, true}, {2, -1, 258, true}, {2, math.MinInt, math.MaxInt, true},
		{2, 259, 300, false}, {2, 0, 257, false}, {2, 259, 257, false}, {2, 258, 257, false}, {2, 259, 258, false}, {2, -9, -1, false},
		{2, math.MaxInt, math.MinInt, false}, {2, math.MaxInt, math.MaxInt, false}, {2, math.MinInt, math.MinInt, false},
		{0, 0, 0, true}, {0, -1, 1, true}, {0, 1, 9, false}, {0, -9, -1, false}, {-3, 1, 9, false},
	} {
		r := New([]byte{7, 1, 2, 3})
		want, at, fault := 0, 1, api.Fault{Code: api.ErrRange, At: 1}
		if x.ok {
			fault = api.Fault{}
		}
		if x.ok && x.size == 2 {
			want, at = 258, 3
		}
		if n := r.Num(1, 0, 9); n != 7 {
			t.Errorf("first number %d", n)
		}
		if n := r.Num(x.size, x.low, x.high); n != want || !is(r, at, 4, fault) {
			t.Errorf("Num(%d, %d, %d) = %d at %d with %v", x.size, x.low, x.high, n, r.At(), r.Fault())
		}
		if !x.ok {
			wantDead(t, r, 4)
		}
	}
}

// P5.2: too few bytes: the Fault is at the length of b, comes before a range, and nothing is read, not even what would fit.
func TestNumEnd(t *testing.T) {
	for n := range 9 {
		for at := range n + 1 {
			for size := n - at + 1; size <= 7; size++ {
				r := New(some(n, 3))
				r.Num(at, 0, math.MaxInt)
				from := r.At()
				if size <= n-from {
					continue
				}
				if got := r.Num(size, 9, 8); got != 0 || !is(r, from, n, api.Fault{Code: api.ErrEnd, At: n}) {
					t.Errorf("Num(%d) at %d of %d = %d at %d with %v", size, from, n, got, r.At(), r.Fault())
				}
				wantDead(t, r, n)
			}
		}
	}
}

// P5.2: Float reads the bits, whatever they are.
func TestFloat(t *testing.T) {
	for _, x := range floats {
		r := New(append(PutFloat([]byte{4}, x), 6))
		if r.Num(1, 4, 4); math.Float64bits(r.Float()) != math.Float64bits(x) || !is(r, 9, 10, api.Fault{}) || r.Num(1, 6, 6) != 6 {
			t.Errorf("Float of %v: at %d with %v", x, r.At(), r.Fault())
		}
	}
}

// P5.2: Float of fewer than eight bytes.
func TestFloatEnd(t *testing.T) {
	for n := range 8 {
		for at := range 3 {
			r := New(bytes.Repeat([]byte{65}, at+n))
			r.Num(at, 0, math.MaxInt)
			if x := r.Float(); x != 0 || !is(r, at, at+n, api.Fault{Code: api.ErrEnd, At: at + n}) {
				t.Errorf("Float of %d bytes at %d = %v at %d with %v", n, at, x, r.At(), r.Fault())
			}
			wantDead(t, r, at+n)
		}
	}
}

// P5.2: Bool of each byte, and of none.
func TestBool(t *testing.T) {
	for x := range 256 {
		r := New([]byte{8, byte(x), 1})
		r.Num(1, 8, 8)
		got := r.Bool()
		if x < 2 && (got != (x == 1) || !is(r, 2, 3, api.Fault{}) || !r.Bool()) {
			t.Errorf("Bool of %d = %v at %d with %v", x, got, r.At(), r.Fault())
		}
		if x < 2 {
			continue
		}
		if got || !is(r, 1, 3, api.Fault{Code: api.ErrRange, At: 1}) {
			t.Errorf("Bool of %d = %v at %d with %v", x, got, r.At(), r.Fault())
		}
		wantDead(t, r, 3)
	}
	r := New([]byte{1})
	if !r.Bool() || r.Bool() || !is(r, 1, 1, api.Fault{Code: api.ErrEnd, At: 1}) {
		t.Errorf("Bool at the end: at %d with %v", r.At(), r.Fault())
	}
	wantDead(t, r, 1)
}

// P5.2: a Reader of no bytes stands at its beginning and has not failed before it is asked.
func TestNothing(t *testing.T) {
	for _, b := range [][]byte{nil, {}} {
		calls := map[string]func(*Reader) bool{
			"Num":   func(r *Reader) bool { return r.Num(1, 0, 255) == 0 },
			"Float": func(r *Reader) bool { return r.Float() == 0 },
			"Bool":  func(r *Reader) bool { return !r.Bool() },
		}
		for name, call := range calls {
			r := New(b)
			if !is(r, 0, 0, api.Fault{}) || r.Num(0, 0, 0) != 0 || !is(r, 0, 0, api.Fault{}) {
				t.Errorf("no bytes: at %d with %v", r.At(), r.Fault())
			}
			if !call(r) || !is(r, 0, 0, api.Fault{Code: api.ErrEnd, At: 0}) {
				t.Errorf("%s of no bytes: at %d with %v", name, r.At(), r.Fault())
			}
			wantDead(t, r, 0)
		}
	}
}

// P5.1, P5.2: what Put writes, Num reads, if it fits.
func TestPutNum(t *testing.T) {
	for size := range 8 {
		for _, n := range numbers {
			want := int(new(big.Int).SetBytes(lowest(size, n)).Int64())
			r := New(Put([]byte{1}, size, n))
			if r.Num(1, 1, 1); r.Num(size, want, want) != want || !is(r, size+1, size+1, api.Fault{}) {
				t.Errorf("size %d, number %d: at %d with %v, want %d", size, n, r.At(), r.Fault(), want)
			}
		}
	}
}

// R3, R4: a Reader does not keep b, and two Readers do not know of each other.
func TestReaderMemory(t *testing.T) {
	room := []byte{1, 0, 2, 3, 4}
	r, other := New(room[:3]), New(room[:3])
	if !r.Bool() || r.Bool() || r.Bool() || r.Fault() != (api.Fault{Code: api.ErrRange, At: 2}) {
		t.Errorf("Bools: at %d with %v", r.At(), r.Fault())
	}
	if !bytes.Equal(room, []byte{1, 0, 2, 3, 4}) {
		t.Errorf("New or a call changes its argument: %v", room)
	}
	for i := range room {
		room[i] = 77
	}
	if !is(other, 0, 3, api.Fault{}) || other.Num(2, 0, 999) != 256 || other.Num(1, 0, 9) != 2 {
		t.Errorf("another Reader: at %d with %v", other.At(), other.Fault())
	}
}

// model is a Reader as P5.2 words it, without a panic.
type model struct {
	b     []byte
	at    int
	fault api.Fault
}

func (m *model) num(size, low, high int) *big.Int {
	n := new(big.Int)
	switch {
	case m.fault != (api.Fault{}):
	case len(m.b)-m.at < size:
		m.fault = api.Fault{Code: api.ErrEnd, At: len(m.b)}
	case n.SetBytes(m.b[m.at:m.at+size]).Cmp(big.NewInt(int64(low))) < 0 || size < 8 && n.Cmp(big.NewInt(int64(high))) > 0:
		m.fault = api.Fault{Code: api.ErrRange, At: m.at}
	default:
		m.at += size
		return n
	}
	return new(big.Int)
}

// P5.2: long sequences of calls, as the model has them.
func TestSequences(t *testing.T) {
	for seed := range int64(3000) {
		g := rand.New(rand.NewSource(seed))
		b := some(g.Intn(60), seed)
		for i := range b {
			b[i] >>= g.Intn(9)
		}
		r, m := New(b), &model{b: bytes.Clone(b)}
		for range 40 {
			size, low, high := g.Intn(11)-1, g.Intn(6)-4, math.MaxInt>>g.Intn(40)
			var got, want uint64
			switch g.Intn(4) {
			case 0:
				got, want = math.Float64bits(r.Float()), m.num(8, 0, 0).Uint64()
			case 1:
				if r.Bool() {
					got = 1
				}
				want = m.num(1, 0, 1).Uint64()
			default:
				got, want = uint64(r.Num(size, low, high)), m.num(min(max(size, 0), 7), low, high).Uint64()
			}
			if got != want || !is(r, m.at, len(b), m.fault) {
				t.Fatalf("seed %d: %d at %d with %v, want %d at %d with %v", seed, got, r.At(), r.Fault(), want, m.at, m.fault)
			}
		}
	}
}
