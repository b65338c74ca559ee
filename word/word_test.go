package word

import (
	"math"
	"math/rand"
	"testing"

	"dioscuri/api"
	"dioscuri/hsiao"
)

// values: edges, each single bit, and scattered numbers.
func values() []uint32 {
	all := []uint32{0, 3, 7, 0x55555555, 0xaaaaaaaa, 0xdeadbeef, math.MaxUint32}
	for bit := range 32 {
		all = append(all, 1<<bit, ^(uint32(1) << bit))
	}
	source := rand.New(rand.NewSource(31))
	for range 30 {
		all = append(all, source.Uint32())
	}
	return all
}

// rowOf: a row that holds the numbers, each of them put.
func rowOf(t *testing.T, numbers []uint32) *Row {
	t.Helper()
	r := New(len(numbers))
	for i, n := range numbers {
		if !r.Put(i, n) {
			t.Fatalf("P3.1: Put(%d, %#x): false", i, n)
		}
	}
	return r
}

// flip turns bits that there are.
func flip(t *testing.T, r *Row, bits ...int) {
	t.Helper()
	for _, bit := range bits {
		if !r.Flip(bit) {
			t.Fatalf("P3.1: Flip(%d) of %d bits: false", bit, r.Bits())
		}
	}
}

// wantGet holds a Get against its data and status, and the count behind it.
func wantGet(t *testing.T, r *Row, i int, n uint32, status, fixes int) {
	t.Helper()
	if got, s := r.Get(i); got != n || s != status {
		t.Errorf("P3.1: Get(%d): %#x, %d, want %#x, %d", i, got, s, n, status)
	}
	wantFixes(t, r, fixes)
}

// wantPeek holds a Peek against its data and status, and the count behind it.
func wantPeek(t *testing.T, r *Row, i int, n uint32, status, fixes int) {
	t.Helper()
	if got, s := r.Peek(i); got != n || s != status {
		t.Errorf("P3.1: Peek(%d): %#x, %d, want %#x, %d", i, got, s, n, status)
	}
	wantFixes(t, r, fixes)
}

// wantScrub holds a Scrub against its status, and the count behind it.
func wantScrub(t *testing.T, r *Row, i int, status, fixes int) {
	t.Helper()
	if s := r.Scrub(i); s != status {
		t.Errorf("P3.1: Scrub(%d): %d, want %d", i, s, status)
	}
	wantFixes(t, r, fixes)
}

func wantFixes(t *testing.T, r *Row, fixes int) {
	t.Helper()
	if got := r.Fixes(); got != fixes {
		t.Errorf("P3.1: Fixes: %d, want %d", got, fixes)
	}
}

// wantGood: every word is Good and holds its number; Peeks alone, so that the looking mends nothing.
func wantGood(t *testing.T, r *Row, numbers []uint32, fixes int) {
	t.Helper()
	for i, n := range numbers {
		wantPeek(t, r, i, n, api.Good, fixes)
	}
}

// P3.1: how many words and bits a row has, with n below 0 and above 2 Words held between.
func TestNewHoldsItsLength(t *testing.T) {
	for _, c := range []struct{ n, want int }{
		{0, 0}, {1, 1}, {2, 2}, {31, 31}, {79, 79}, {1023, 1023}, {1024, 1024}, {1025, 1025}, {2047, 2047}, {2048, 2048},
		{2049, 2048}, {4096, 2048}, {math.MaxInt32, 2048}, {math.MaxInt32 + 1, 2048}, {math.MaxInt - 1, 2048}, {math.MaxInt, 2048},
		{-1, 0}, {-2, 0}, {-2048, 0}, {math.MinInt32, 0}, {math.MinInt32 - 1, 0}, {math.MinInt + 1, 0}, {math.MinInt, 0},
	} {
		r := New(c.n)
		if r.Len() != c.want || r.Bits() != 39*c.want || r.Fixes() != 0 {
			t.Errorf("P3.1: New(%d): Len %d, Bits %d, Fixes %d, want Len %d", c.n, r.Len(), r.Bits(), r.Fixes(), c.want)
		}
	}
}

// P3.1: the words of a new row are Encode(0): each is 0 and Good, and has no bit beside its code word's.
func TestNewIsAllZero(t *testing.T) {
	for _, n := range []int{1, 2, 39, 2048, 5000} {
		r := New(n)
		for i, w := range r.words {
			if w != hsiao.Encode(0) {
				t.Errorf("P3.1: New(%d), word %d: %#x", n, i, w)
			}
		}
		for i := range r.Len() {
			wantPeek(t, r, i, 0, api.Good, 0)
			wantGet(t, r, i, 0, api.Good, 0)
			wantScrub(t, r, i, api.Good, 0)
		}
	}
}

// P3.1: what is put comes back, word by word, again and again; the last one that was put counts.
func TestPutComesBack(t *testing.T) {
	numbers := values()
	r := rowOf(t, numbers)
	for range 2 {
		for i, n := range numbers {
			wantGet(t, r, i, n, api.Good, 0)
			wantPeek(t, r, i, n, api.Good, 0)
			wantScrub(t, r, i, api.Good, 0)
		}
	}
	for i := range numbers {
		numbers[i] = ^numbers[i]
		r.Put(i, numbers[i])
		wantGood(t, r, numbers, 0)
	}
}

// P3.1: a full row, its last word too; no word is another one's.
func TestPutInAFullRow(t *testing.T) {
	numbers := make([]uint32, 2048)
	for i := range numbers {
		numbers[i] = uint32(i) * 0x9e3779b1
	}
	r := rowOf(t, numbers)
	flip(t, r, 0, r.Bits()-1)
	wantGet(t, r, 0, numbers[0], api.Fixed, 1)
	wantGet(t, r, 2047, numbers[2047], api.Fixed, 2)
	wantGood(t, r, numbers, 2)
}

// P3.1: rows share nothing.
func TestRowsAreApart(t *testing.T) {
	a, b := rowOf(t, []uint32{1, 2}), rowOf(t, []uint32{3, 4})
	flip(t, a, 0)
	a.Put(1, 9)
	wantGood(t, b, []uint32{3, 4}, 0)
	wantGet(t, a, 0, 1, api.Fixed, 1)
	wantFixes(t, b, 0)
}

// P3.1: of no such word Put is false, Get and Peek are 0, Bad (the chapter's example: -1), Scrub is Bad; nothing is changed.
func TestNoSuchWord(t *testing.T) {
	for _, length := range []int{0, 1, 3, 39, 2048} {
		numbers := make([]uint32, length)
		for i := range numbers {
			numbers[i] = uint32(i) + 5
		}
		r := rowOf(t, numbers)
		for _, i := range []int{
			-1, -2, -39, length, length + 1, 39 * length, 2049, math.MaxInt32, math.MaxInt32 + 1, 1 << 32, 1<<32 + 1,
			math.MaxInt - 1, math.MaxInt, math.MinInt32, -1 << 32, 1 - 1<<32, math.MinInt, math.MinInt + 1,
		} {
			if i >= 0 && i < length {
				continue
			}
			if r.Put(i, 0xffff) {
				t.Errorf("P3.1: Put(%d) of %d words: true", i, length)
			}
			wantGet(t, r, i, 0, api.Bad, 0)
			wantPeek(t, r, i, 0, api.Bad, 0)
			wantScrub(t, r, i, api.Bad, 0)
		}
		wantGood(t, r, numbers, 0)
		if r.Len() != length {
			t.Errorf("P3.1: Len: %d, want %d", r.Len(), length)
		}
	}
}

// P3.1: of no such bit Flip is false (the chapter's example: -1), and turns none.
func TestNoSuchBit(t *testing.T) {
	for _, length := range []int{0, 1, 3, 2048} {
		numbers := make([]uint32, length)
		r := rowOf(t, numbers)
		for _, bit := range []int{
			-1, -2, -39, -40, 39 * length, 39*length + 1, 39*length + 39, 39*length + 64, 39 * 2049, math.MaxInt32, math.MaxInt32 + 1,
			1 << 32, 1<<32 + 1, math.MaxInt - 1, math.MaxInt, math.MinInt32, -1 << 32, 1 - 1<<32, math.MinInt, math.MinInt + 1,
		} {
			if r.Flip(bit) {
				t.Errorf("P3.1: Flip(%d) of %d words: true", bit, length)
			}
		}
		wantGood(t, r, numbers, 0)
	}
}

// P3.1: which bit Flip turns: 39 a word, the lowest first, one word behind the other; a second Flip turns it back.
func TestFlipTurnsItsBit(t *testing.T) {
	numbers := []uint32{0, 0xdeadbeef, math.MaxUint32}
	r := rowOf(t, numbers)
	for bit := range 3 * 39 {
		flip(t, r, bit)
		for i, n := range numbers {
			want := hsiao.Encode(n)
			if i == bit/39 {
				want ^= 1 << (bit % 39)
			}
			if r.words[i] != want {
				t.Errorf("P3.1: word %d behind Flip(%d): %#x, want %#x", i, bit, r.words[i], want)
			}
		}
		flip(t, r, bit)
		wantGood(t, r, numbers, 0)
	}
}

// P3.1: the chapter's run, of each bit: Put, Flip, Get: Fixed, then Good.
func TestGetMendsAndCounts(t *testing.T) {
	numbers := values()
	r := rowOf(t, numbers)
	for bit := range r.Bits() {
		i := bit / 39
		flip(t, r, bit)
		wantGet(t, r, i, numbers[i], api.Fixed, bit+1)
		if r.words[i] != hsiao.Encode(numbers[i]) {
			t.Errorf("P3.1: Flip(%d), Get(%d): the word is not mended", bit, i)
		}
		wantGet(t, r, i, numbers[i], api.Good, bit+1)
	}
	wantGood(t, r, numbers, r.Bits())
}

// P3.1: Scrub mends and counts as Get does.
func TestScrubMendsAndCounts(t *testing.T) {
	numbers := []uint32{7, 0x12345678, math.MaxUint32}
	r := rowOf(t, numbers)
	for bit := range r.Bits() {
		i := bit / 39
		flip(t, r, bit)
		wantScrub(t, r, i, api.Fixed, bit+1)
		wantScrub(t, r, i, api.Good, bit+1)
		wantGood(t, r, numbers, bit+1)
	}
}

// P3.1: Peek tells the mended number and Fixed, again and again: nothing is mended or counted, so that a second turned bit makes the word Bad.
func TestPeekLeavesAlone(t *testing.T) {
	for bit := range 39 {
		r := rowOf(t, []uint32{5, 0xdeadbeef})
		flip(t, r, 39+bit)
		for range 3 {
			wantPeek(t, r, 1, 0xdeadbeef, api.Fixed, 0)
		}
		other := (bit + 1) % 39
		flip(t, r, 39+other)
		wantPeek(t, r, 1, 0xdeadbeef^uint32(1<<bit)^uint32(1<<other), api.Bad, 0)
		flip(t, r, 39+other)
		wantGet(t, r, 1, 0xdeadbeef, api.Fixed, 1)
		wantPeek(t, r, 1, 0xdeadbeef, api.Good, 1)
		wantPeek(t, r, 0, 5, api.Good, 1)
	}
}

// P3.1: what is got or scrubbed is mended, and no other word.
func TestOnlyTheWordThatIsGotIsMended(t *testing.T) {
	r := rowOf(t, []uint32{1, 2, 3})
	flip(t, r, 38, 39, 116)
	wantGet(t, r, 1, 2, api.Fixed, 1)
	wantPeek(t, r, 0, 1, api.Fixed, 1)
	wantPeek(t, r, 2, 3, api.Fixed, 1)
	wantScrub(t, r, 2, api.Fixed, 2)
	wantPeek(t, r, 0, 1, api.Fixed, 2)
	wantScrub(t, r, 0, api.Fixed, 3)
	wantGood(t, r, []uint32{1, 2, 3}, 3)
}

// P3.1: each pair of bits turned in one word: Bad, the data as they are, nothing mended or counted; turned back it is Good.
func TestTwoBitsInOneWordAreBad(t *testing.T) {
	const n = 0x12345678
	r := rowOf(t, []uint32{9, n, 11})
	for a := range 39 {
		for b := range a {
			flip(t, r, 39+a, 39+b)
			turned := hsiao.Encode(n) ^ 1<<a ^ 1<<b
			for range 2 {
				wantGet(t, r, 1, uint32(turned), api.Bad, 0)
				wantPeek(t, r, 1, uint32(turned), api.Bad, 0)
				wantScrub(t, r, 1, api.Bad, 0)
			}
			if r.words[1] != turned {
				t.Errorf("P3.1: bits %d and %d turned: the Bad word was changed to %#x", a, b, r.words[1])
			}
			wantGet(t, r, 0, 9, api.Good, 0)
			wantGet(t, r, 2, 11, api.Good, 0)
			flip(t, r, 39+a, 39+b)
			wantGet(t, r, 1, n, api.Good, 0)
		}
	}
}

// P3.1: two turned bits in two words are mended each; two in one word, the first mended between them, too.
func TestTwoBitsApartAreMended(t *testing.T) {
	r := rowOf(t, []uint32{1, 2})
	flip(t, r, 38, 39)
	wantGet(t, r, 0, 1, api.Fixed, 1)
	wantGet(t, r, 1, 2, api.Fixed, 2)
	flip(t, r, 39)
	wantScrub(t, r, 1, api.Fixed, 3)
	flip(t, r, 40)
	wantGet(t, r, 1, 2, api.Fixed, 4)
	wantGood(t, r, []uint32{1, 2}, 4)
}

// P3.1: one of two turned bits turned back leaves one, which is mended.
func TestOneOfTwoTurnedBack(t *testing.T) {
	r := rowOf(t, []uint32{0xdeadbeef})
	flip(t, r, 3, 35)
	wantGet(t, r, 0, 0xdeadbeef^8, api.Bad, 0)
	flip(t, r, 3)
	wantGet(t, r, 0, 0xdeadbeef, api.Fixed, 1)
	wantGet(t, r, 0, 0xdeadbeef, api.Good, 1)
}

// P3.1: three turned bits are what Decode says of them, be that Fixed (mended to another word, and counted) or Bad.
func TestThreeBitsAreDecodes(t *testing.T) {
	const n = 0xdeadbeef
	seen := map[int]int{}
	for a := range 39 {
		for b := range a {
			for c := range b {
				r := rowOf(t, []uint32{n})
				flip(t, r, a, b, c)
				want, status := hsiao.Decode(hsiao.Encode(n) ^ 1<<a ^ 1<<b ^ 1<<c)
				seen[status]++
				wantPeek(t, r, 0, want, status, 0)
				if status == api.Fixed {
					wantGet(t, r, 0, want, api.Fixed, 1)
					wantGet(t, r, 0, want, api.Good, 1)
				} else {
					wantGet(t, r, 0, want, status, 0)
				}
			}
		}
	}
	if seen[api.Fixed] == 0 || seen[api.Bad] == 0 || seen[api.Good] != 0 {
		t.Errorf("P3.1: statuses of three turned bits: %v", seen)
	}
}

// P3.1: a word that is put over a Bad one, or over one with a turned bit, is Good, and no fix.
func TestPutOverTurnedBits(t *testing.T) {
	r := rowOf(t, []uint32{1, 2, 3})
	flip(t, r, 39, 77)
	wantGet(t, r, 1, 3, api.Bad, 0)
	if !r.Put(1, 5) {
		t.Error("P3.1: Put over a Bad word: false")
	}
	wantGet(t, r, 1, 5, api.Good, 0)
	flip(t, r, 0)
	if !r.Put(0, 6) {
		t.Error("P3.1: Put over a word with a turned bit: false")
	}
	wantScrub(t, r, 0, api.Good, 0)
	wantGood(t, r, []uint32{6, 5, 3}, 0)
}

// plainRow: the chapter's words once more, with the code words in plain sight.
type plainRow struct {
	words []uint64
	fixes int
}

func (p *plainRow) get(i int, mend bool) (uint32, int) {
	if i < 0 || i >= len(p.words) {
		return 0, api.Bad
	}
	n, status := hsiao.Decode(p.words[i])
	if mend && status == api.Fixed {
		p.words[i] = hsiao.Encode(n)
		p.fixes++
	}
	return n, status
}

// P3.1: long runs of all calls, scattered, right and wrong numbers among them, against the plain row.
func TestScatteredCalls(t *testing.T) {
	source := rand.New(rand.NewSource(32))
	for _, length := range []int{0, 1, 2, 5} {
		r, p := New(length), &plainRow{words: make([]uint64, length)}
		for range 20000 {
			i, bit := source.Intn(length+2)-1, source.Intn(39*length+4)-2
			switch source.Intn(6) {
			case 0:
				n, inside := source.Uint32(), i >= 0 && i < length
				if r.Put(i, n) != inside {
					t.Fatalf("P3.1: Put(%d) of %d words: %v", i, length, !inside)
				}
				if inside {
					p.words[i] = hsiao.Encode(n)
				}
			case 1:
				n, status := p.get(i, true)
				wantGet(t, r, i, n, status, p.fixes)
			case 2:
				n, status := p.get(i, false)
				wantPeek(t, r, i, n, status, p.fixes)
			case 3:
				_, status := p.get(i, true)
				wantScrub(t, r, i, status, p.fixes)
			default:
				inside := bit >= 0 && bit < 39*length
				if r.Flip(bit) != inside {
					t.Fatalf("P3.1: Flip(%d) of %d words: %v", bit, length, !inside)
				}
				if inside {
					p.words[bit/39] ^= 1 << (bit % 39)
				}
			}
			if t.Failed() {
				t.FailNow()
			}
		}
	}
}
