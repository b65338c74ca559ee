package field

import (
	"math"
	"math/rand"
	"testing"
)

// words: edges, each single bit and each word without it, some instructions, and scattered numbers.
func words() []uint32 {
	all := []uint32{0, 0x55555555, 0xaaaaaaaa, 0x12345678, 0xdeadbeef, 0x00500093, 0xfe112e23, 0xfe000ee3, 0xffdff06f, 0x800000b7, math.MaxUint32}
	for bit := range 32 {
		all = append(all, 1<<bit, ^(uint32(1) << bit))
	}
	source := rand.New(rand.NewSource(41))
	for range 200 {
		all = append(all, source.Uint32())
	}
	return all
}

// outOfRange: numbers that are far from 0 to 32, of any size.
var outOfRange = []int{math.MinInt, math.MinInt + 1, math.MinInt32 - 1, math.MinInt32, -1 << 33, -64, -33, -32, -31, -2, -1, 33, 34, 63, 64, 65, 95, 96, 255, 256, 257, 1<<16 + 1, math.MaxInt32, math.MaxInt32 + 1, 1<<32 + 1, 1 << 33, math.MaxInt - 1, math.MaxInt}

// bit: bit i of w, 0 beyond w.
func bit(w uint32, i int) uint32 {
	if i > 31 {
		return 0
	}
	return uint32(uint64(w) / (1 << i) % 2)
}

// plainBits: Bits, bit by bit.
func plainBits(w uint32, from, n int) uint32 {
	sum := uint32(0)
	for i := range n {
		if i < 32 {
			sum += bit(w, from+i) * (1 << i)
		}
	}
	return sum
}

// plainSign: Sign, as a sum of what each bit is worth: the uppermost one less than nothing.
func plainSign(n uint32, bits int) int32 {
	sum := int64(0)
	for i := range bits {
		sum += int64(bit(n, i)) << i
	}
	return int32(sum - int64(bit(n, bits-1))<<bits)
}

// P4.1: the chapter's run and examples.
func TestChapter(t *testing.T) {
	if got := ImmI(0xfff00000); got != -1 {
		t.Errorf("P4.1: ImmI(0xfff00000): %d", got)
	}
	if got := Sign(8, 4); got != -8 {
		t.Errorf("P4.1: Sign(8, 4): %d", got)
	}
	for _, w := range words() {
		if got := Bits(w, 32, 1); got != 0 {
			t.Errorf("P4.1: Bits(%#x, 32, 1): %#x", w, got)
		}
	}
}

// P4.1: some Bits by their numbers, the bits beyond w among them.
func TestBits(t *testing.T) {
	for _, c := range []struct {
		w       uint32
		from, n int
		want    uint32
	}{
		{0xdeadbeef, 0, 32, 0xdeadbeef}, {0xdeadbeef, 0, 8, 0xef}, {0xdeadbeef, 8, 8, 0xbe}, {0xdeadbeef, 24, 8, 0xde}, {0xdeadbeef, 4, 4, 0xe},
		{0xdeadbeef, 0, 1, 1}, {0xdeadbeef, 4, 1, 0}, {0xdeadbeef, 31, 1, 1}, {0x7fffffff, 31, 1, 0}, {0xdeadbeef, 1, 31, 0x6f56df77}, {0xdeadbeef, 0, 31, 0x5eadbeef},
		{0xdeadbeef, 31, 2, 1}, {0xdeadbeef, 31, 32, 1}, {0xdeadbeef, 16, 17, 0xdead}, {0xdeadbeef, 16, 32, 0xdead}, {0xdeadbeef, 1, 32, 0x6f56df77}, {0xdeadbeef, 28, 5, 0xd},
		{math.MaxUint32, 30, 32, 3}, {0, 0, 32, 0}, {0, 31, 1, 0},
	} {
		if got := Bits(c.w, c.from, c.n); got != c.want {
			t.Errorf("P4.1: Bits(%#x, %d, %d): %#x, want %#x", c.w, c.from, c.n, got, c.want)
		}
	}
}

// P4.1: every from and every n that there is.
func TestBitsOfEveryRun(t *testing.T) {
	for _, w := range words() {
		for from := range 32 {
			for n := 1; n <= 32; n++ {
				if got, want := Bits(w, from, n), plainBits(w, from, n); got != want {
					t.Fatalf("P4.1: Bits(%#x, %d, %d): %#x, want %#x", w, from, n, got, want)
				}
			}
		}
	}
}

// P4.1: no such from, no such n, both: 0.
func TestBitsOfNoRun(t *testing.T) {
	want0 := func(w uint32, from, n int) {
		t.Helper()
		if got := Bits(w, from, n); got != 0 {
			t.Errorf("P4.1: Bits(%#x, %d, %d): %#x, want 0", w, from, n, got)
		}
	}
	for _, w := range []uint32{1, 1 << 31, 0xdeadbeef, math.MaxUint32} {
		for _, wrong := range outOfRange {
			for right := 1; right <= 31; right++ {
				want0(w, wrong, right)
				want0(w, right, wrong)
			}
			want0(w, wrong, 32)
			want0(w, 0, wrong)
			for _, other := range outOfRange {
				want0(w, wrong, other)
			}
		}
		for from := range 32 {
			want0(w, from, 0)
			want0(w, 32, from)
		}
		want0(w, 32, 32)
	}
}

// P4.1: some Signs by their numbers; the bits above the lowest ones do not count.
func TestSign(t *testing.T) {
	for _, c := range []struct {
		n    uint32
		bits int
		want int32
	}{
		{0, 1, 0}, {1, 1, -1}, {2, 1, 0}, {3, 1, -1}, {math.MaxUint32, 1, -1}, {math.MaxUint32 - 1, 1, 0},
		{1, 2, 1}, {2, 2, -2}, {3, 2, -1}, {7, 4, 7}, {9, 4, -7}, {15, 4, -1}, {16, 4, 0}, {0xfffffff7, 4, 7}, {0xfffffff8, 4, -8}, {24, 4, -8},
		{0x7f, 8, 127}, {0x80, 8, -128}, {0x7ff, 12, 2047}, {0x800, 12, -2048}, {0xfff, 12, -1}, {0x1000, 12, 0},
		{0x3fffffff, 31, 0x3fffffff}, {0x40000000, 31, -0x40000000}, {0x80000000, 31, 0}, {math.MaxUint32, 31, -1},
		{0, 32, 0}, {0x7fffffff, 32, math.MaxInt32}, {0x80000000, 32, math.MinInt32}, {0x80000001, 32, math.MinInt32 + 1}, {math.MaxUint32, 32, -1},
	} {
		if got := Sign(c.n, c.bits); got != c.want {
			t.Errorf("P4.1: Sign(%#x, %d): %d, want %d", c.n, c.bits, got, c.want)
		}
	}
}

// P4.1: every number of bits that there is.
func TestSignOfEveryLength(t *testing.T) {
	for _, n := range words() {
		for bits := 1; bits <= 32; bits++ {
			if got, want := Sign(n, bits), plainSign(n, bits); got != want {
				t.Fatalf("P4.1: Sign(%#x, %d): %d, want %d", n, bits, got, want)
			}
		}
	}
}

// P4.1: no such number of bits: 0.
func TestSignOfNoLength(t *testing.T) {
	for _, n := range words() {
		for _, bits := range append([]int{0}, outOfRange...) {
			if got := Sign(n, bits); got != 0 {
				t.Errorf("P4.1: Sign(%#x, %d): %d, want 0", n, bits, got)
			}
		}
	}
}

// format: an immediate, and what each bit of the word is worth in it, bit 0 first; bits that it does not take are worth 0.
type format struct {
	name    string
	imm     func(uint32) int32
	worth   [32]int64
	lowest  int32
	highest int32
}

// formats: the bits are those of the chapter, written out one by one.
func formats() []format {
	return []format{
		{"ImmI", ImmI, [32]int64{20: 1, 2, 4, 8, 16, 32, 64, 128, 256, 512, 1024, -2048}, -2048, 2047},
		{"ImmS", ImmS, [32]int64{7: 1, 2, 4, 8, 16, 25: 32, 64, 128, 256, 512, 1024, -2048}, -2048, 2047},
		{"ImmB", ImmB, [32]int64{7: 2048, 2, 4, 8, 16, 25: 32, 64, 128, 256, 512, 1024, -4096}, -4096, 4094},
		{"ImmU", ImmU, [32]int64{12: 1 << 12, 1 << 13, 1 << 14, 1 << 15, 1 << 16, 1 << 17, 1 << 18, 1 << 19, 1 << 20, 1 << 21,
			1 << 22, 1 << 23, 1 << 24, 1 << 25, 1 << 26, 1 << 27, 1 << 28, 1 << 29, 1 << 30, -1 << 31}, math.MinInt32, math.MaxInt32 - 4095},
		{"ImmJ", ImmJ, [32]int64{12: 1 << 12, 1 << 13, 1 << 14, 1 << 15, 1 << 16, 1 << 17, 1 << 18, 1 << 19,
			20: 2048, 2, 4, 8, 16, 32, 64, 128, 256, 512, 1024, -1 << 20}, -1 << 20, 1<<20 - 2},
	}
}

// value: what the bits of w are worth together.
func (f format) value(w uint32) int32 {
	sum := int64(0)
	for i, worth := range f.worth {
		sum += int64(bit(w, i)) * worth
	}
	return int32(sum)
}

func (f format) want(t *testing.T, w uint32, n int32) {
	t.Helper()
	if got := f.imm(w); got != n {
		t.Errorf("P4.1: %s(%#x): %d, want %d", f.name, w, got, n)
	}
}

// P4.1: each immediate of words of any kind, each bit alone and each bit left out among them.
func TestImm(t *testing.T) {
	for _, f := range formats() {
		for _, w := range words() {
			f.want(t, w, f.value(w))
		}
	}
}

// P4.1: the lowest and the highest number of each format.
func TestImmEdges(t *testing.T) {
	for _, f := range formats() {
		lowest, highest := uint32(0), uint32(0)
		for i, worth := range f.worth {
			if worth < 0 {
				lowest |= 1 << i
			}
			if worth > 0 {
				highest |= 1 << i
			}
		}
		f.want(t, lowest, f.lowest)
		f.want(t, highest, f.highest)
		f.want(t, lowest|highest, f.lowest+f.highest)
		f.want(t, 0, 0)
	}
}

// P4.1: words that are alike but in bits that a format does not take have one immediate; a bit that it takes makes another one.
func TestImmTakesItsBitsAlone(t *testing.T) {
	for _, f := range formats() {
		for _, w := range words() {
			for i, worth := range f.worth {
				if same := f.imm(w) == f.imm(w^1<<i); same != (worth == 0) {
					t.Fatalf("P4.1: %s(%#x) and with bit %d turned: the same is %v", f.name, w, i, same)
				}
			}
		}
	}
}

// P4.1: instructions as an assembler writes them.
func TestImmOfInstructions(t *testing.T) {
	for _, c := range []struct {
		text string
		imm  func(uint32) int32
		w    uint32
		want int32
	}{
		{"addi x1, x0, 5", ImmI, 0x00500093, 5}, {"addi x1, x0, -1", ImmI, 0xfff00093, -1}, {"lw x1, -4(x2)", ImmI, 0xffc12083, -4},
		{"sw x1, -4(x2)", ImmS, 0xfe112e23, -4}, {"sw x1, 4(x2)", ImmS, 0x00112223, 4},
		{"beq x0, x0, -4", ImmB, 0xfe000ee3, -4}, {"beq x0, x0, 8", ImmB, 0x00000463, 8},
		{"lui x1, 0x12345", ImmU, 0x123450b7, 0x12345000}, {"lui x1, 0x80000", ImmU, 0x800000b7, math.MinInt32},
		{"jal x0, -4", ImmJ, 0xffdff06f, -4}, {"jal x1, 2048", ImmJ, 0x001000ef, 2048}, {"jal x0, 0", ImmJ, 0x0000006f, 0},
	} {
		if got := c.imm(c.w); got != c.want {
			t.Errorf("P4.1: %s (%#x): %d, want %d", c.text, c.w, got, c.want)
		}
	}
}
