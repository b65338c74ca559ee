package hsiao

import (
	"math"
	"math/bits"
	"math/rand"
	"testing"

	"dioscuri/api"
)

// plainColumns: the columns by the chapter's rule, another way than the package's, so that the two can be held against each other.
func plainColumns() []int {
	var columns []int
	for n := 0; n <= 127 && len(columns) < 32; n++ {
		if bits.OnesCount(uint(n)) == 3 {
			columns = append(columns, n)
		}
	}
	for k := range 7 {
		columns = append(columns, 1<<k)
	}
	return columns
}

// plainSyndrome: the exclusive or, column by column.
func plainSyndrome(w uint64) int {
	syndrome := 0
	for bit, column := range plainColumns() {
		if w>>bit&1 == 1 {
			syndrome ^= column
		}
	}
	return syndrome
}

// plainMend: what the chapter says of Mend, word by word.
func plainMend(w uint64) (uint64, int) {
	word := w & (1<<39 - 1)
	syndrome := plainSyndrome(w)
	if syndrome == 0 {
		return word, api.Good
	}
	for bit, column := range plainColumns() {
		if column == syndrome {
			return word ^ 1<<bit, api.Fixed
		}
	}
	return word, api.Bad
}

// numbers: edges, each single bit, each run of low and of high bits, and scattered numbers.
func numbers(scattered int) []uint32 {
	all := []uint32{0, 3, 0x55555555, 0xaaaaaaaa, 0x12345678, 0xdeadbeef, math.MaxUint32}
	for bit := range 32 {
		all = append(all, 1<<bit, math.MaxUint32>>bit, math.MaxUint32<<bit, ^(uint32(1) << bit))
	}
	source := rand.New(rand.NewSource(22))
	for range scattered {
		all = append(all, source.Uint32())
	}
	return all
}

// wantMend holds both Mend and Decode of w against one code word and status.
func wantMend(t *testing.T, promise string, w, word uint64, status int) {
	t.Helper()
	if got, s := Mend(w); got != word || s != status {
		t.Errorf("%s: Mend(%#x): %#x, %d, want %#x, %d", promise, w, got, s, word, status)
	}
	if got, s := Decode(w); got != uint32(word) || s != status {
		t.Errorf("%s: Decode(%#x): %#x, %d, want %#x, %d", promise, w, got, s, uint32(word), status)
	}
}

// P2.1: the columns written out, the chapter's examples (bits 0 and 39) among them.
func TestColumnOfKnownBits(t *testing.T) {
	want := []int{
		7, 11, 13, 14, 19, 21, 22, 25, 26, 28, 35, 37, 38, 41, 42, 44,
		49, 50, 52, 56, 67, 69, 70, 73, 74, 76, 81, 82, 84, 88, 97, 98,
		1, 2, 4, 8, 16, 32, 64,
		0,
	}
	for bit, column := range want {
		if got := Column(bit); got != column {
			t.Errorf("P2.1: Column(%d): %d, want %d", bit, got, column)
		}
	}
}

// P2.1: the columns by their rule; they are as many as there are bits, and no two are the same.
func TestColumnByItsRule(t *testing.T) {
	columns := plainColumns()
	if Bits != 39 || len(columns) != Bits {
		t.Fatalf("P2.1: Bits: %d, columns by the rule: %d", Bits, len(columns))
	}
	seen := map[int]int{}
	for bit, column := range columns {
		got := Column(bit)
		if got != column {
			t.Errorf("P2.1: Column(%d): %d, want %d", bit, got, column)
		}
		if other, ok := seen[got]; ok {
			t.Errorf("P2.2: Column(%d) and Column(%d) are both %d", other, bit, got)
		}
		seen[got] = bit
	}
}

// P2.1: numbers that are no bit, at and beyond the width of a shift too, have column 0.
func TestColumnOfNoBit(t *testing.T) {
	for bit := -130; bit < 0; bit++ {
		if got := Column(bit); got != 0 {
			t.Errorf("P2.1: Column(%d): %d, want 0", bit, got)
		}
	}
	for bit := 39; bit < 300; bit++ {
		if got := Column(bit); got != 0 {
			t.Errorf("P2.1: Column(%d): %d, want 0", bit, got)
		}
	}
	for _, bit := range []int{math.MinInt, math.MinInt + 1, math.MinInt32, math.MaxInt32, math.MaxInt32 + 1, math.MaxInt - 1, math.MaxInt} {
		if got := Column(bit); got != 0 {
			t.Errorf("P2.1: Column(%d): %d, want 0", bit, got)
		}
	}
}

// P2.1: the chapter's run, and code words written out.
func TestEncodeKnownNumbers(t *testing.T) {
	for _, c := range []struct {
		n    uint32
		want uint64
	}{
		{0, 0}, {1, 7<<32 | 1}, {2, 11<<32 | 2}, {3, 12<<32 | 3}, {4, 13<<32 | 4}, {7, 1<<32 | 7},
		{1 << 30, 97<<32 | 1<<30}, {1 << 31, 98<<32 | 1<<31}, {3 << 30, 3<<32 | 3<<30},
	} {
		if got := Encode(c.n); got != c.want {
			t.Errorf("P2.1: Encode(%#x): %#x, want %#x", c.n, got, c.want)
		}
	}
}

// P2.1: a code word holds its number, has no bit above 38 and the syndrome 0, and is Good.
func TestEncodeComesBack(t *testing.T) {
	for _, n := range numbers(2000) {
		w := Encode(n)
		if uint32(w) != n || w>>39 != 0 || plainSyndrome(w) != 0 || Syndrome(w) != 0 {
			t.Errorf("P2.1: Encode(%#x): %#x, syndrome %d", n, w, plainSyndrome(w))
		}
		wantMend(t, "P2.1", w, w, api.Good)
	}
}

// P2.1: Syndrome against its own words, of any word, bits above 38 too.
func TestSyndromeByItsWords(t *testing.T) {
	for bit := range 64 {
		if got, want := Syndrome(1<<bit), plainSyndrome(1<<bit); got != want {
			t.Errorf("P2.1: Syndrome of bit %d alone: %d, want %d", bit, got, want)
		}
	}
	source := rand.New(rand.NewSource(23))
	for i := range 5000 {
		w := source.Uint64() >> (i % 64)
		if got, want := Syndrome(w), plainSyndrome(w); got != want {
			t.Fatalf("P2.1: Syndrome(%#x): %d, want %d", w, got, want)
		}
	}
	if got, want := Syndrome(math.MaxUint64), plainSyndrome(math.MaxUint64); got != want {
		t.Errorf("P2.1: Syndrome of all ones: %d, want %d", got, want)
	}
}

// P2.1: each of the 128 syndromes: 0 is Good, a column Fixed, all others Bad, and the word is answered as it is.
func TestMendOfEachSyndrome(t *testing.T) {
	counts := map[int]int{}
	for syndrome := range 128 {
		for _, n := range []uint32{0, 1, 0xdeadbeef, math.MaxUint32} {
			w := Encode(n) ^ uint64(syndrome)<<32
			word, status := plainMend(w)
			wantMend(t, "P2.1", w, word, status)
		}
		_, status := Decode(uint64(syndrome) << 32)
		counts[status]++
	}
	if counts[api.Good] != 1 || counts[api.Fixed] != 39 || counts[api.Bad] != 88 {
		t.Errorf("P2.1: Good, Fixed, Bad of the 128 syndromes: %v", counts)
	}
	// Three bits are 1 in these too, but there are only 32 data bits.
	for _, syndrome := range []uint64{100, 104, 112} {
		wantMend(t, "P2.1", syndrome<<32, syndrome<<32, api.Bad)
	}
}

// P2.1: Mend and Decode against their own words, of any word.
func TestMendByItsWords(t *testing.T) {
	source := rand.New(rand.NewSource(24))
	for i := range 5000 {
		w := source.Uint64() >> (i % 64)
		word, status := plainMend(w)
		wantMend(t, "P2.1", w, word, status)
	}
	word, status := plainMend(math.MaxUint64)
	wantMend(t, "P2.1", math.MaxUint64, word, status)
}

// P2.1: bits above 38 are let aside, be the rest Good, Fixed or Bad; none of them comes back.
func TestBitsAboveAreLetAside(t *testing.T) {
	for _, n := range []uint32{0, 1, 0x12345678, math.MaxUint32} {
		w := Encode(n)
		for bit := 39; bit < 64; bit++ {
			for _, high := range []uint64{1 << bit, math.MaxUint64 << bit} {
				if got := Syndrome(w | high); got != 0 {
					t.Errorf("P2.1: Syndrome(%#x): %d, want 0", w|high, got)
				}
				wantMend(t, "P2.1", w|high, w, api.Good)
				wantMend(t, "P2.1", (w^4)|high, w, api.Fixed)
				wantMend(t, "P2.1", (w^3)|high, w^3, api.Bad)
			}
		}
	}
}

// P2.2: each single bit turned is mended, a check bit too.
func TestOneBitTurnedIsMended(t *testing.T) {
	for _, n := range numbers(200) {
		w := Encode(n)
		for bit := range Bits {
			turned := w ^ 1<<bit
			if got := Syndrome(turned); got != Column(bit) {
				t.Errorf("P2.1: Syndrome(%#x), bit %d turned: %d, want %d", turned, bit, got, Column(bit))
			}
			wantMend(t, "P2.2", turned, w, api.Fixed)
		}
	}
}

// P2.2: each pair of bits turned is found, and what was there is answered beside Bad, unmended.
func TestTwoBitsTurnedAreFound(t *testing.T) {
	for _, n := range numbers(20) {
		w := Encode(n)
		for a := range Bits {
			for b := range a {
				turned := w ^ 1<<a ^ 1<<b
				wantMend(t, "P2.2", turned, turned, api.Bad)
			}
		}
	}
}

// P2.1: of three bits turned nothing is promised but the rule itself: some look like one, the others are Bad.
func TestThreeBitsTurnedGoByTheRule(t *testing.T) {
	w := Encode(0xdeadbeef)
	for a := range Bits {
		for b := range a {
			for c := range b {
				turned := w ^ 1<<a ^ 1<<b ^ 1<<c
				word, status := plainMend(turned)
				if status == api.Good {
					t.Fatalf("P2.1: bits %d, %d and %d turned are Good", a, b, c)
				}
				wantMend(t, "P2.1", turned, word, status)
			}
		}
	}
}
