package plan

import (
	"math"
	"math/rand"
	"reflect"
	"slices"
	"testing"

	"crossbuck/api"
)

// others are numbers that are not phases, and neither groups nor rings of a small table: beside the phases, and those that a narrower number, a remainder, or a sum that wraps round takes for one.
var others = []int{
	math.MinInt, math.MinInt + 1, math.MinInt32, -256, -255, -8, -7, -2, -1,
	8, 9, 10, 63, 64, 65, 255, 256, 257, 259, 1 << 16, math.MaxInt32, 1 << 32, 1<<32 + 3, 1 << 62, math.MaxInt - 1, math.MaxInt,
}

// above are bits of a set beyond the lowest eight.
var above = []int{1 << 8, 1 << 9, 1 << 62, 0xFF00, math.MaxInt &^ 255, math.MinInt, -256}

type rows = [2][]int

func groups(g ...rows) api.Table { return api.Table{Groups: g} }

// odd are tables by hand: with empty lists, with phases that occur more than once, and with numbers that are not phases.
func odd() []api.Table {
	long := make([]int, 300)
	for i := range long {
		long[i] = 8 + i
	}
	long[257], long[299] = 3, 4
	many := make([]rows, 300)
	many[0], many[5], many[266], many[299] = rows{nil, {2}}, rows{{1}}, rows{{1}, {3}}, rows{{0, 0, 7}}
	return []api.Table{
		{},
		groups(rows{}),
		groups(rows{}, rows{}, rows{}),
		groups(rows{{0, 1}, {4, 5}}),
		groups(rows{{0, 1}, {4, 5}}, rows{{2, 3}, {6, 7}}),
		groups(rows{{7, 6}, {5}}, rows{nil, {4, 3}}, rows{{2}, nil}, rows{{1}, {0}}),
		groups(rows{{3}, {3}}),
		groups(rows{{3, 3, 2}, {2, 3}}, rows{{2, 3}, {1, 1}}, rows{{1}, {2}}),
		groups(rows{nil, {9, 3}}, rows{{3, 8, 2}, {2}}),
		groups(rows{others, {0, 1}}, rows{{1, 0}, others}),
		groups(rows{others, others}, rows{append(slices.Clone(others), 5), {6, -1}}),
		groups(rows{long, {3}}, rows{{5, 256 + 5, 5}, long}),
		groups(many...),
	}
}

// forAll calls f for the odd tables, and for many random ones: with no group to more than a table may have, and with some numbers that are not phases.
func forAll(f func(api.Table)) {
	for _, x := range odd() {
		f(x)
	}
	r := rand.New(rand.NewSource(8))
	for range 1000 {
		var x api.Table
		for p := range x.Phases {
			x.Phases[p].On = r.Intn(2) == 0
		}
		for range r.Intn(7) {
			x.Groups = append(x.Groups, rows{randomRow(r), randomRow(r)})
		}
		f(x)
	}
}

func randomRow(r *rand.Rand) []int {
	row := make([]int, r.Intn(4))
	for i := range row {
		row[i] = r.Intn(api.Phases)
		if r.Intn(6) == 0 {
			row[i] = others[r.Intn(len(others))]
		}
	}
	return row
}

// place is a position, and the phase that is there.
type place struct{ group, ring, at, phase int }

// places are all positions of phases, in the order of P8.1.
func places(t api.Table) []place {
	var l []place
	for g := 0; g < len(t.Groups); g++ {
		for r := 0; r < 2; r++ {
			for i := 0; i < len(t.Groups[g][r]); i++ {
				if p := t.Groups[g][r][i]; 0 <= p && p <= 7 {
					l = append(l, place{g, r, i, p})
				}
			}
		}
	}
	return l
}

// first is the first place that is as asked.
func first(l []place, asked func(place) bool) (place, bool) {
	i := slices.IndexFunc(l, asked)
	if i < 0 {
		return place{}, false
	}
	return l[i], true
}

func has(s, p int) bool { return s/int(math.Pow(2, float64(p)))%2 == 1 }

// sets are some sets of phases, each with and without bits beyond the lowest eight.
func sets() [][2]int {
	var l [][2]int
	for i, low := range []int{0, 1, 2, 4, 8, 16, 32, 64, 128, 3, 0x0C, 0x33, 0xCC, 0x81, 0x7E, 254, 255} {
		l = append(l, [2]int{low, low}, [2]int{low, above[i%len(above)] | low})
	}
	return l
}

// numbers are the numbers around those from 0 to n, and others.
func numbers(n int) []int {
	l := slices.Clone(others)
	for i := range n + 1 {
		l = append(l, i)
	}
	return l
}

func wantWhere(t *testing.T, x api.Table, p int, want place, ok bool) {
	t.Helper()
	if group, ring, at, found := Where(x, p); group != want.group || ring != want.ring || at != want.at || found != ok {
		t.Fatalf("Where(%v, %d) = %d, %d, %d, %t, want %v, %t", x.Groups, p, group, ring, at, found, want, ok)
	}
}

// P8.1: Where in two groups of eight phases, which need not be On.
func TestWhere(t *testing.T) {
	x := groups(rows{{0, 1}, {4, 5}}, rows{{3, 2}, {7, 6}})
	for _, on := range []bool{false, true} {
		for p := range x.Phases {
			x.Phases[p].On = on
		}
		for _, want := range []place{{0, 0, 0, 0}, {0, 0, 1, 1}, {0, 1, 0, 4}, {0, 1, 1, 5}, {1, 0, 0, 3}, {1, 0, 1, 2}, {1, 1, 0, 7}, {1, 1, 1, 6}} {
			wantWhere(t, x, want.phase, want, true)
		}
	}
}

// P8.1: Where returns the first of several positions, in the order of group, then ring, then index.
func TestWhereFirst(t *testing.T) {
	wantWhere(t, groups(rows{{1, 3, 3}, {3}}), 3, place{0, 0, 1, 3}, true)
	wantWhere(t, groups(rows{{1, 1, 3}, {3}}, rows{{3}, {3}}), 3, place{0, 0, 2, 3}, true)
	wantWhere(t, groups(rows{{1}, {1, 2, 3}}, rows{{3}, {3}}), 3, place{0, 1, 2, 3}, true)
	wantWhere(t, groups(rows{}, rows{nil, {0}}, rows{{0}}), 0, place{1, 1, 0, 0}, true)
	wantWhere(t, groups(rows{}, rows{}, rows{}, rows{}, rows{{7}, {7}}), 7, place{4, 0, 0, 7}, true)
}

// P8.1: the index in a row counts the numbers that are not phases, which occur nowhere themselves.
func TestWhereSkips(t *testing.T) {
	x := groups(rows{others, append(slices.Clone(others), 5)}, rows{{5}, {-1, 8, 6}})
	wantWhere(t, x, 5, place{0, 1, len(others), 5}, true)
	wantWhere(t, x, 6, place{1, 1, 2, 6}, true)
	for p := range api.Phases {
		if p != 5 && p != 6 {
			wantWhere(t, x, p, place{}, false)
		}
	}
	for _, p := range others {
		wantWhere(t, x, p, place{}, false)
	}
}

// P8.1: Where in all tables, for phases and for other numbers.
func TestWhereAll(t *testing.T) {
	forAll(func(x api.Table) {
		l := places(x)
		for _, p := range numbers(7) {
			want, ok := first(l, func(y place) bool { return y.phase == p })
			wantWhere(t, x, p, want, ok)
		}
	})
}

// P8.1: Beside in two groups: the same group, and different rings.
func TestBeside(t *testing.T) {
	x := groups(rows{{0, 1}, {4, 5}}, rows{{2, 3}, {6, 7}})
	for p := range api.Phases {
		for q := range api.Phases {
			sameGroup := (p == 0 || p == 1 || p == 4 || p == 5) == (q == 0 || q == 1 || q == 4 || q == 5)
			want := sameGroup && (p < 4) != (q < 4)
			if got := Beside(x, p, q); got != want {
				t.Errorf("Beside(%d, %d) = %t", p, q, got)
			}
		}
	}
}

// P8.1: a phase that occurs nowhere is beside none, also where its zero position would be in the same group.
func TestBesideNowhere(t *testing.T) {
	for _, x := range []api.Table{groups(rows{{1}, {2}}), groups(rows{nil, {1}}), groups(rows{{1, 9}, {2, -1, 8}}), {}} {
		for _, p := range []int{0, 3, 7, 8, 9, -1, math.MinInt, math.MaxInt, 256 + 1, 1<<32 + 2} {
			for _, q := range []int{1, 2, 3, 9, p} {
				if Beside(x, p, q) || Beside(x, q, p) {
					t.Errorf("%v: %d is beside %d", x.Groups, p, q)
				}
			}
		}
	}
}

// P8.1: the position of a phase that occurs more than once is the first one.
func TestBesideFirst(t *testing.T) {
	x := groups(rows{{3, 1}, {3, 2}}, rows{{1, 6}, {2, 3}})
	for _, y := range []struct {
		p, q int
		want bool
	}{
		{3, 2, true}, {3, 1, false}, {1, 2, true}, {3, 3, false}, {2, 2, false}, {6, 2, false}, {6, 3, false}, {6, 1, false},
	} {
		if got := Beside(x, y.p, y.q); got != y.want {
			t.Errorf("Beside(%d, %d) = %t", y.p, y.q, got)
		}
	}
}

// P8.1 and P8.2: Beside in all tables, for phases and for other numbers; it is symmetric.
func TestBesideAll(t *testing.T) {
	forAll(func(x api.Table) {
		l := places(x)
		for _, p := range numbers(7) {
			for _, q := range numbers(7) {
				a, aOk := first(l, func(y place) bool { return y.phase == p })
				b, bOk := first(l, func(y place) bool { return y.phase == q })
				want := aOk && bOk && a.group == b.group && a.ring != b.ring
				if got := Beside(x, p, q); got != want {
					t.Fatalf("Beside(%v, %d, %d) = %t", x.Groups, p, q, got)
				}
				if Beside(x, p, q) != Beside(x, q, p) {
					t.Fatalf("%v: Beside of %d and %d is not symmetric", x.Groups, p, q)
				}
			}
		}
	})
}

// P8.2: if each phase occurs once, no phase is beside itself, and each phase of one row is beside each of the other.
func TestBesideOnce(t *testing.T) {
	r := rand.New(rand.NewSource(82))
	for range 2000 {
		x := api.Table{Groups: make([]rows, 1+r.Intn(4))}
		for _, p := range r.Perm(api.Phases) {
			g, ring := r.Intn(len(x.Groups)), r.Intn(2)
			x.Groups[g][ring] = append(x.Groups[g][ring], p)
		}
		for p := range api.Phases {
			if Beside(x, p, p) {
				t.Fatalf("%v: %d is beside itself", x.Groups, p)
			}
		}
		for _, g := range x.Groups {
			for _, p := range g[0] {
				for _, q := range g[1] {
					if !Beside(x, p, q) || !Beside(x, q, p) {
						t.Fatalf("%v: %d is not beside %d", x.Groups, p, q)
					}
				}
			}
		}
	}
}

// P8.1: Next returns the smallest index above at of a phase of want.
func TestNext(t *testing.T) {
	x := groups(rows{{0, 1}, {4, 5}}, rows{{2, 3, 2, 9, 3}, {256, 6, -1, 7}})
	for _, y := range []struct{ group, ring, at, want, next int }{
		{0, 0, -1, 0xFF, 0}, {0, 0, 0, 0xFF, 1}, {0, 0, 1, 0xFF, -1}, {0, 0, -1, 0x02, 1}, {0, 0, 0, 0x01, -1}, {0, 0, 1, 0x02, -1},
		{0, 1, -1, 0x30, 0}, {0, 1, -1, 0x20, 1}, {0, 1, -1, 0x03, -1}, {0, 0, -1, 0x30, -1}, {0, 0, -1, 0, -1}, {0, 0, -1, 0x100, -1},
		{1, 0, -1, 0x0C, 0}, {1, 0, 0, 0x04, 2}, {1, 0, 1, 0x0C, 2}, {1, 0, 2, 0xFF, 4}, {1, 0, 3, 0xFF, 4}, {1, 0, 4, 0xFF, -1}, {1, 0, 0, 0x08, 1}, {1, 0, 1, 0x08, 4}, {1, 0, 2, 0x04, -1},
		{1, 1, -1, -1, 1}, {1, 1, 1, -1, 3}, {1, 1, 0, 0x80, 3}, {1, 1, -1, 0x3F, -1},
		{0, 0, -2, 0xFF, 0}, {0, 0, math.MinInt, 0xFF, 0}, {0, 0, 2, 0xFF, -1}, {0, 0, math.MaxInt, 0xFF, -1}, {0, 0, math.MaxInt - 1, 0xFF, -1}, {0, 0, 1<<32 - 1, 0xFF, -1}, {0, 0, 1 << 32, 0xFF, -1},
	} {
		if got := Next(x, y.group, y.ring, y.at, y.want); got != y.next {
			t.Errorf("Next(%d, %d, %d, %#x) = %d, want %d", y.group, y.ring, y.at, y.want, got, y.next)
		}
	}
}

// P8.1: Next returns -1 if there is no such group or ring.
func TestNextNoRow(t *testing.T) {
	x := groups(rows{{0, 1}, {4, 5}}, rows{{2, 3}, {6, 7}})
	for _, n := range append([]int{2, 3, 4}, others...) {
		for _, y := range [][2]int{{n, 0}, {n, 1}, {0, n}, {1, n}, {n, n}} {
			for _, at := range []int{math.MinInt, -1, 0, math.MaxInt} {
				if got := Next(x, y[0], y[1], at, -1); got != -1 {
					t.Errorf("Next(%d, %d, %d, -1) = %d, want -1", y[0], y[1], at, got)
				}
			}
		}
	}
	if got := Next(api.Table{}, 0, 0, -1, 255); got != -1 {
		t.Errorf("Next in no group = %d, want -1", got)
	}
}

// P8.1: Next in all tables.
func TestNextAll(t *testing.T) {
	forAll(func(x api.Table) {
		l := places(x)
		for group := -1; group <= min(len(x.Groups), 8); group++ {
			for ring := -1; ring <= 2; ring++ {
				for at := -2; at <= 4; at++ {
					for _, s := range sets() {
						want, ok := first(l, func(y place) bool { return y.group == group && y.ring == ring && y.at > at && has(s[0], y.phase) })
						if !ok {
							want.at = -1
						}
						if got := Next(x, group, ring, at, s[1]); got != want.at {
							t.Fatalf("Next(%v, %d, %d, %d, %#x) = %d, want %d", x.Groups, group, ring, at, s[1], got, want.at)
						}
					}
				}
			}
		}
	})
}

// P8.1: Following examines the groups after the given one, then those from 0 on, and the given one last; if it is none, all from 0 on.
func TestFollowing(t *testing.T) {
	x := groups(rows{{0}, {1, 4}}, rows{{2, 4}, nil}, rows{nil, {3, 4}})
	for _, y := range []struct{ group, want, next int }{
		{0, 0x10, 1}, {1, 0x10, 2}, {2, 0x10, 0}, {0, 0xFF, 1}, {1, 0xFF, 2}, {2, 0xFF, 0}, {0, -1, 1},
		{0, 0x01, 0}, {0, 0x02, 0}, {0, 0x08, 2}, {1, 0x01, 0}, {1, 0x04, 1}, {1, 0x08, 2}, {2, 0x04, 1}, {2, 0x08, 2}, {2, 0x02, 0},
		{0, 0x05, 1}, {0, 0x09, 2}, {1, 0x05, 0}, {1, 0x0D, 2}, {2, 0x0C, 1}, {2, 0x09, 0},
		{0, 0, -1}, {1, 0x60, -1}, {2, 0x80, -1}, {0, 0x100, -1}, {0, math.MinInt, -1}, {0, -256, -1},
		{3, 0x10, 0}, {3, 0x0C, 1}, {3, 0x08, 2}, {4, 0x10, 0}, {-1, 0x10, 0}, {-1, 0x0C, 1}, {-2, 0x10, 0}, {3, 0, -1}, {-1, 0x60, -1},
	} {
		if got := Following(x, y.group, y.want); got != y.next {
			t.Errorf("Following(%d, %#x) = %d, want %d", y.group, y.want, got, y.next)
		}
	}
	for _, group := range others {
		for want, next := range map[int]int{0x10: 0, 0x01: 0, 0x04: 1, 0x0C: 1, 0x08: 2, 0x20: -1, 0: -1} {
			if got := Following(x, group, want); got != next {
				t.Errorf("Following(%d, %#x) = %d, want %d", group, want, got, next)
			}
		}
	}
}

// P8.1: Following in a table of one group, and in one of none.
func TestFollowingFew(t *testing.T) {
	one := groups(rows{{0}, {1, 9}})
	for _, group := range append([]int{0, 1, 2}, others...) {
		for want, next := range map[int]int{1: 0, 2: 0, 255: 0, 0: -1, 4: -1, 1 << 9: -1} {
			if got := Following(one, group, want); got != next {
				t.Errorf("Following(one group, %d, %#x) = %d, want %d", group, want, got, next)
			}
		}
		if got := Following(api.Table{}, group, 255); got != -1 {
			t.Errorf("Following(no group, %d, 255) = %d, want -1", group, got)
		}
	}
}

// order are the groups as P8.1 has Following examine them.
func order(n, group int) []int {
	var l []int
	if group < 0 || group >= n {
		group = n
	}
	for g := group + 1; g < n; g++ {
		l = append(l, g)
	}
	for g := 0; g < group; g++ {
		l = append(l, g)
	}
	if group < n {
		l = append(l, group)
	}
	return l
}

// P8.1: Following in all tables.
func TestFollowingAll(t *testing.T) {
	forAll(func(x api.Table) {
		l := places(x)
		for _, group := range numbers(min(len(x.Groups), 8)) {
			for _, s := range sets() {
				want := -1
				for _, g := range order(len(x.Groups), group) {
					if _, ok := first(l, func(y place) bool { return y.group == g && has(s[0], y.phase) }); ok {
						want = g
						break
					}
				}
				if got := Following(x, group, s[1]); got != want {
					t.Fatalf("Following(%v, %d, %#x) = %d, want %d", x.Groups, group, s[1], got, want)
				}
			}
		}
	})
}

// P8.1: On is the set of the phases that are On, whether they are in a group or not.
func TestOn(t *testing.T) {
	for want := range 256 {
		var x api.Table
		for p := range x.Phases {
			x.Phases[p] = api.Phase{On: has(want, p), Min: 50, Lock: !has(want, p)}
		}
		for _, g := range [][]rows{nil, {{{0, 1}, {4, 5}}}, {{others, others}}} {
			x.Groups = g
			if got := On(x); got != want {
				t.Fatalf("On = %#x, want %#x", got, want)
			}
		}
	}
}

// P8.1: Members is the set of the phases in both rows of one group, On or not.
func TestMembers(t *testing.T) {
	x := groups(rows{{0, 1}, {4, 5}}, rows{{7, 9, 2, 7}, {-1, 3, 2}}, rows{{6}, nil}, rows{nil, {6, 0}}, rows{others, others}, rows{{0, 1, 2, 3}, {7, 6, 5, 4}})
	for group, want := range []int{0x33, 0x8C, 0x40, 0x41, 0, 0xFF} {
		for _, on := range []bool{true, false} {
			x.Phases[0].On, x.Phases[7].On = on, !on
			if got := Members(x, group); got != want {
				t.Errorf("Members(%d) = %#x, want %#x", group, got, want)
			}
		}
	}
	for _, group := range append([]int{6, 7}, others...) {
		if got := Members(x, group); got != 0 {
			t.Errorf("Members(%d) = %#x, want none", group, got)
		}
	}
	for _, group := range []int{0, -1, 1} {
		if got := Members(api.Table{}, group); got != 0 {
			t.Errorf("Members(%d) of no group = %#x, want none", group, got)
		}
	}
}

// P8.1: Members in all tables.
func TestMembersAll(t *testing.T) {
	forAll(func(x api.Table) {
		sum := map[int]int{}
		for _, y := range places(x) {
			if !has(sum[y.group], y.phase) {
				sum[y.group] += int(math.Pow(2, float64(y.phase)))
			}
		}
		for _, group := range numbers(len(x.Groups)) {
			if got := Members(x, group); got != sum[group] {
				t.Fatalf("Members(%v, %d) = %#x, want %#x", x.Groups, group, got, sum[group])
			}
		}
	})
}

// behind returns a table whose lists have numbers behind their length, and the memory of all its lists.
func behind() (api.Table, func() any) {
	first, second := []int{0, 9, 1, 6, 6}, []int{4, 5, 7, -1}
	all := []rows{{first[:3], second[:2]}, {nil, {2, 3}}, {{7}, {7}}}
	return api.Table{Groups: all[:2]}, func() any {
		return []any{slices.Clone(first), slices.Clone(second), slices.Clone(all[1][1]), slices.Clone(all[2][0]), slices.Clone(all[2][1]), slices.Clone(all)}
	}
}

// R3: no call changes the lists of its table, nor the memory behind their length, nor finds what is there.
func TestKeepsLists(t *testing.T) {
	x, memory := behind()
	was := memory()
	for _, p := range []int{6, 7} {
		wantWhere(t, x, p, place{}, false)
		for q := range api.Phases {
			if Beside(x, p, q) || Beside(x, q, p) {
				t.Errorf("%d is beside %d", p, q)
			}
		}
		for group := range 4 {
			for ring := range 2 {
				if got := Next(x, group, ring, -1, 0xC0); got != -1 {
					t.Errorf("Next(%d, %d) = %d, want -1", group, ring, got)
				}
			}
			if got := Following(x, group, 0xC0); got != -1 {
				t.Errorf("Following(%d) = %d, want -1", group, got)
			}
		}
	}
	for group, want := range []int{0x33, 0x0C, 0} {
		if got := Members(x, group); got != want {
			t.Errorf("Members(%d) = %#x, want %#x", group, got, want)
		}
	}
	On(x)
	if now := memory(); !reflect.DeepEqual(now, was) {
		t.Errorf("the lists have become %v, want %v", now, was)
	}
}
