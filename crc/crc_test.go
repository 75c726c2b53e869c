package crc

import (
	"bytes"
	"math/bits"
	"math/rand"
	"testing"
)

// slow is Add as P4.1 words it, bit by bit, in numbers that do not wrap round.
func slow(c uint16, b []byte) uint16 {
	n := int(c)
	for _, x := range b {
		n ^= int(x) * 256
		for range 8 {
			top := n / 32768
			n = n * 2 % 65536
			if top == 1 {
				n ^= 0x1021
			}
		}
	}
	return uint16(n)
}

// some are n bytes that look random, the same in each run.
func some(n int, seed int64) []byte {
	b := make([]byte, n)
	rand.New(rand.NewSource(seed)).Read(b)
	return b
}

// flipped is b with bit i changed.
func flipped(b []byte, i int) []byte {
	b = bytes.Clone(b)
	b[i/8] ^= 1 << (i % 8)
	return b
}

// P4.1: Of of the example, of few bytes, and of none.
func TestOf(t *testing.T) {
	for s, want := range map[string]uint16{
		"": 0xFFFF, "123456789": 0x29B1, "A": 0xB915, "\x00": 0xE1F0, "\xFF": 0xFF00, "\xFF\xFF": 0, "\xFF\xFF\x00": 0, "\x00\x00": 0x1D0F,
	} {
		if got := Of([]byte(s)); got != want {
			t.Errorf("Of(%q) = %X, want %X", s, got, want)
		}
	}
	if got := Of(nil); got != 0xFFFF {
		t.Errorf("Of(nil) = %X, want FFFF", got)
	}
}

// P4.1: Of is Add of FFFF.
func TestOfAdd(t *testing.T) {
	for n := range 300 {
		if b := some(n, int64(n)); Of(b) != slow(0xFFFF, b) || Of(b) != Add(0xFFFF, b) {
			t.Fatalf("Of(%X) = %X, want %X", b, Of(b), slow(0xFFFF, b))
		}
	}
}

// P4.1: Add of no bytes is c, whatever c is.
func TestAddNothing(t *testing.T) {
	for c := range 1 << 16 {
		if got := Add(uint16(c), nil); got != uint16(c) {
			t.Fatalf("Add(%X, nil) = %X", c, got)
		}
		if got := Add(uint16(c), []byte{}); got != uint16(c) {
			t.Fatalf("Add(%X, no bytes) = %X", c, got)
		}
	}
}

// P4.1: Add of single bytes: each one, to each c that has bits of one half only, and to others.
func TestAddOne(t *testing.T) {
	for x := range 256 {
		for i := range 256 {
			for _, c := range []int{i, i << 8, i << 4, 257 * i, 0x8000 | i, 0x7FFF ^ i, 0xFF00 | i, i<<8 | 0xFF} {
				if got, want := Add(uint16(c), []byte{byte(x)}), slow(uint16(c), []byte{byte(x)}); got != want {
					t.Fatalf("Add(%X, %X) = %X, want %X", c, x, got, want)
				}
			}
		}
	}
}

// P4.1: Add of many bytes, in their order.
func TestAdd(t *testing.T) {
	for _, x := range []struct {
		c    uint16
		b    string
		want uint16
	}{
		{0, "123456789", 0x31C3}, {0, "\x00\x00\x00", 0}, {0, "\x01", 0x1021}, {0, "\x02", 0x2042}, {0, "\x10", 0x1231}, {0, "\x80", 0x9188},
		{0x8000, "\x80", 0}, {0x0100, "\x01", 0}, {0x0001, "\x00", 0x0100}, {0, "\x01\x02", slow(0x1021, []byte{2})}, {0, "\x02\x01", slow(0x2042, []byte{1})},
	} {
		if got := Add(x.c, []byte(x.b)); got != x.want {
			t.Errorf("Add(%X, %q) = %X, want %X", x.c, x.b, got, x.want)
		}
	}
	for n := range 600 {
		b, c := some(n, int64(n)), uint16(n*40503)
		if got, want := Add(c, b), slow(c, b); got != want {
			t.Fatalf("Add(%X, %X) = %X, want %X", c, b, got, want)
		}
	}
}

// P4.1: more bytes than a table may have, and more than a 16-bit number counts.
func TestAddLong(t *testing.T) {
	for _, n := range []int{4000, 4097, 1 << 16, 1<<16 + 1, 200000} {
		b := some(n, int64(n))
		if got, want := Add(0x1D0F, b), slow(0x1D0F, b); got != want {
			t.Errorf("Add of %d bytes is %X, want %X", n, got, want)
		}
	}
}

// R3: the bytes are not changed, nor is the memory behind their length.
func TestAddKeepsBytes(t *testing.T) {
	b := some(64, 1)
	was := bytes.Clone(b)
	Add(0x1234, b[:40])
	Of(b[:40])
	if !bytes.Equal(b, was) {
		t.Errorf("the bytes became %X", b)
	}
}

// R4: a call does not depend on those before it.
func TestAddAgain(t *testing.T) {
	b := some(100, 2)
	want := slow(0xFFFF, b)
	for i := range 3 {
		if got := Of(b); got != want {
			t.Errorf("call %d: Of = %X, want %X", i, got, want)
		}
		Add(uint16(i), b)
	}
}

// P4.2: Add of a concatenation, split at every place, the ends too, and into three.
func TestConcatenation(t *testing.T) {
	b := some(120, 3)
	for _, c := range []uint16{0, 1, 0x00FF, 0x8000, 0xFF00, 0xFFFF} {
		want := Add(c, b)
		for i := range len(b) + 1 {
			if got := Add(Add(c, b[:i]), b[i:]); got != want {
				t.Fatalf("Add(%X) in two at %d = %X, want %X", c, i, got, want)
			}
			if got := Add(Add(Add(c, b[:i/2]), b[i/2:i]), b[i:]); got != want {
				t.Fatalf("Add(%X) in three at %d and %d = %X, want %X", c, i/2, i, got, want)
			}
		}
	}
}

// P4.2: a change of one to three bits of 4000 bytes changes the checksum. What a bit changes in it does not depend on the others (TestChangesTogether), so it is enough that no bit changes nothing, that no two change the same, and that each changes an odd number of its bits: for those of three, then, the number is odd too.
func TestChanges(t *testing.T) {
	b := some(4000, 4)
	sum := Of(b)
	by := make(map[uint16]int)
	for i := range 8 * len(b) {
		b[i/8] ^= 1 << (i % 8)
		change := Of(b) ^ sum
		b[i/8] ^= 1 << (i % 8)
		if other, ok := by[change]; change == 0 || ok {
			t.Fatalf("bit %d changes the checksum by %X, as bit %d does", i, change, other)
		}
		if bits.OnesCount16(change)%2 == 0 {
			t.Fatalf("bit %d changes the checksum by %X", i, change)
		}
		by[change] = i
	}
}

// P4.2: what several bits change together is what each of them changes.
func TestChangesTogether(t *testing.T) {
	r := rand.New(rand.NewSource(5))
	for range 2000 {
		b := some(1+r.Intn(100), r.Int63())
		one, two, three := r.Intn(8*len(b)), r.Intn(8*len(b)), r.Intn(8*len(b))
		all := flipped(flipped(flipped(b, one), two), three)
		want := Of(b) ^ Of(flipped(b, one)) ^ Of(flipped(b, two)) ^ Of(flipped(b, three))
		if got := Of(b) ^ Of(all); got != want {
			t.Fatalf("bits %d, %d and %d of %X change the checksum by %X, want %X", one, two, three, b, got, want)
		}
	}
}

// P4.2: every change of one to three bits of a few bytes.
func TestChangesOfFew(t *testing.T) {
	for n := 1; n <= 5; n++ {
		b := some(n, int64(n))
		sum := Of(b)
		for i := range 8 * n {
			for j := range i + 1 {
				for k := range j + 1 {
					all := flipped(flipped(flipped(b, i), j), k)
					if got := Of(all); (got == sum) != bytes.Equal(all, b) {
						t.Fatalf("bits %d, %d and %d of %X: checksum %X behind %X", i, j, k, b, got, sum)
					}
				}
			}
		}
	}
}
