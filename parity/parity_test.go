package parity

import (
	"math"
	"math/rand"
	"testing"
)

// plainCount asks bit by bit, another way than Count's, so that the two can be held against each other.
func plainCount(n uint64) int {
	count := 0
	for bit := range 64 {
		if n&(1<<bit) != 0 {
			count++
		}
	}
	return count
}

// samples: edges, each single bit, each pair of bits, each run of low and of high bits, and scattered numbers of every length.
func samples() []uint64 {
	all := []uint64{0, math.MaxUint64, 0x5555555555555555, 0xaaaaaaaaaaaaaaaa, 0x3333333333333333, 0x0f0f0f0f0f0f0f0f}
	for a := range 64 {
		all = append(all, 1<<a, math.MaxUint64>>a, math.MaxUint64<<a, ^(uint64(1) << a))
		for b := range a {
			all = append(all, 1<<a|1<<b)
		}
	}
	source := rand.New(rand.NewSource(11))
	for i := range 5000 {
		all = append(all, source.Uint64()>>(i%64))
	}
	return all
}

// P1.1: Count, by values that are written out.
func TestCountOfKnownNumbers(t *testing.T) {
	for _, c := range []struct {
		n    uint64
		want int
	}{
		{0, 0}, {1, 1}, {2, 1}, {3, 2}, {7, 3}, {0xff, 8}, {0x100, 1},
		{1 << 31, 1}, {1 << 32, 1}, {1 << 63, 1}, {1<<63 | 1, 2},
		{math.MaxUint32, 32}, {math.MaxUint64, 64}, {math.MaxUint64 - 1, 63}, {math.MaxUint64 >> 1, 63},
	} {
		if got := Count(c.n); got != c.want {
			t.Errorf("P1.1: Count(%#x): %d, want %d", c.n, got, c.want)
		}
	}
}

// P1.1: Count and Of, against a count bit by bit.
func TestCountAndOfBitByBit(t *testing.T) {
	for _, n := range samples() {
		want := plainCount(n)
		if got := Count(n); got != want {
			t.Fatalf("P1.1: Count(%#x): %d, want %d", n, got, want)
		}
		if got := Of(n); got != uint64(want%2) {
			t.Fatalf("P1.1: Of(%#x): %d, want %d", n, got, want%2)
		}
	}
}

// P1.1: the chapter's example, and Of at the edges.
func TestOfKnownNumbers(t *testing.T) {
	for _, c := range []struct{ n, want uint64 }{
		{0, 0}, {1, 1}, {2, 1}, {3, 0}, {7, 1}, {1 << 32, 1}, {1 << 63, 1}, {1<<63 | 1, 0},
		{math.MaxUint64, 0}, {math.MaxUint64 - 1, 1},
	} {
		if got := Of(c.n); got != c.want {
			t.Errorf("P1.1: Of(%#x): %d, want %d", c.n, got, c.want)
		}
	}
}

// P1.1: the chapter's run, and Put at the edges.
func TestPutKnownNumbers(t *testing.T) {
	for _, c := range []struct {
		n    uint32
		want uint64
	}{
		{0, 0}, {1, 4294967297}, {2, 1<<32 | 2}, {3, 3}, {7, 1<<32 | 7}, {1 << 31, 1<<32 | 1<<31},
		{1<<31 | 1, 1<<31 | 1}, {math.MaxUint32, math.MaxUint32}, {math.MaxUint32 - 1, 1<<32 | math.MaxUint32 - 1},
	} {
		if got := Put(c.n); got != c.want {
			t.Errorf("P1.1: Put(%#x): %#x, want %#x", c.n, got, c.want)
		}
	}
}

// P1.1: what Put makes is even, holds its number, and comes back by Get.
func TestPutIsEvenAndComesBack(t *testing.T) {
	for _, sample := range samples() {
		n := uint32(sample)
		w := Put(n)
		if plainCount(w)%2 != 0 || w>>33 != 0 || uint32(w) != n {
			t.Fatalf("P1.1: Put(%#x): %#x", n, w)
		}
		if got, ok := Get(w); got != n || !ok {
			t.Fatalf("P1.1: Get(Put(%#x)): %#x, %v", n, got, ok)
		}
	}
}

// P1.1: one bit turned, of the 33 or above them, is told; the lowest 32 bits are answered all the same.
func TestGetTellsATurnedBit(t *testing.T) {
	for _, n := range []uint32{0, 1, 3, 0x12345678, 1 << 31, math.MaxUint32} {
		for bit := range 64 {
			w := Put(n) ^ 1<<bit
			if got, ok := Get(w); got != uint32(w) || ok {
				t.Errorf("P1.1: Get(%#x), bit %d turned: %#x, %v", w, bit, got, ok)
			}
		}
	}
}

// P1.1: bits above the lowest 33 make it false, be the Count of the whole even or odd.
func TestGetRefusesHighBits(t *testing.T) {
	for _, c := range []struct {
		w    uint64
		want uint32
	}{
		{1 << 33, 0}, {1<<33 | 1, 1}, {1<<33 | 1<<32, 0}, {1<<33 | 1<<32 | 1, 1}, {1<<34 | 1<<33, 0},
		{1<<34 | 1<<33 | 3, 3}, {1 << 63, 0}, {1<<63 | 1, 1}, {1<<63 | 1<<62 | 1<<32 | 1, 1},
		{0x5eadbeef << 33, 0}, {math.MaxUint64, math.MaxUint32}, {math.MaxUint64 - (1<<33 - 1), 0},
	} {
		if got, ok := Get(c.w); got != c.want || ok {
			t.Errorf("P1.1: Get(%#x): %#x, %v, want %#x, false", c.w, got, ok, c.want)
		}
	}
}

// P1.1: Get over all samples, against the promise's own words.
func TestGetByItsWords(t *testing.T) {
	for _, w := range samples() {
		for _, w := range []uint64{w, w & (1<<33 - 1), w & (1<<34 - 1)} {
			want := plainCount(w&(1<<33-1))%2 == 0 && w>>33 == 0
			if got, ok := Get(w); got != uint32(w) || ok != want {
				t.Fatalf("P1.1: Get(%#x): %#x, %v, want %#x, %v", w, got, ok, uint32(w), want)
			}
		}
	}
}
