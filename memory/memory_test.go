package memory

import (
	"math"
	"math/rand"
	"slices"
	"testing"

	"dioscuri/api"
	"dioscuri/encode"
	"dioscuri/hsiao"
	"dioscuri/model"
)

const (
	codeBits = 39
	allBits  = codeBits * 1024
)

// scattered: n numbers, none of them 0, so that a word that is not kept shows.
func scattered(n int) []uint32 {
	source := rand.New(rand.NewSource(13))
	all := make([]uint32, n)
	for i := range all {
		all[i] = source.Uint32() | 1
	}
	return all
}

// padded: the image as all of memory, zeros behind it.
func padded(image []uint32) []uint32 {
	return append(slices.Clone(image), make([]uint32, 1024-len(image))...)
}

func begun(t *testing.T, image []uint32) *Memory {
	t.Helper()
	m, why := New(image)
	if m == nil || why != api.OK {
		t.Fatalf("P13.1: New of %d words: %v", len(image), why)
	}
	return m
}

// flip turns bits that there are.
func flip(t *testing.T, m *Memory, bits ...int) {
	t.Helper()
	for _, bit := range bits {
		if !m.Flip(bit) {
			t.Fatalf("P13.1: Flip(%d): false", bit)
		}
	}
}

func wantFixes(t *testing.T, m *Memory, fixes int) {
	t.Helper()
	if got := m.Fixes(); got != fixes {
		t.Errorf("P13.1: Fixes: %d, want %d", got, fixes)
	}
}

// wantLoad holds a Load against its word and refusal, and the count behind it.
func wantLoad(t *testing.T, m *Memory, addr, n uint32, why api.Errno, fixes int) {
	t.Helper()
	if got, refused := m.Load(addr); got != n || refused != why {
		t.Errorf("P13.1: Load(%#x): %#x, %v, want %#x, %v", addr, got, refused, n, why)
	}
	wantFixes(t, m, fixes)
}

// wantStore holds a Store against its refusal, and the count behind it.
func wantStore(t *testing.T, m *Memory, addr, data uint32, mask int, why api.Errno, fixes int) {
	t.Helper()
	if refused := m.Store(addr, data, mask); refused != why {
		t.Errorf("P13.1: Store(%#x, %#x, %d): %v, want %v", addr, data, mask, refused, why)
	}
	wantFixes(t, m, fixes)
}

// wantScrub holds a Scrub against its answer, and the count behind it.
func wantScrub(t *testing.T, m *Memory, n, fixed int, why api.Errno, fixes int) {
	t.Helper()
	if got, refused := m.Scrub(n); got != fixed || refused != why {
		t.Errorf("P13.1: Scrub(%d): %d, %v, want %d, %v", n, got, refused, fixed, why)
	}
	wantFixes(t, m, fixes)
}

// wantWords holds all words against numbers, and the count behind it: Words mends nothing.
func wantWords(t *testing.T, m *Memory, numbers []uint32, fixes int) {
	t.Helper()
	got, why := m.Words()
	if why != api.OK || !slices.Equal(got, numbers) {
		t.Errorf("P13.1: Words: %d of them, %v, want others", len(got), why)
	}
	wantFixes(t, m, fixes)
}

// wantNoWords: one is Bad.
func wantNoWords(t *testing.T, m *Memory, fixes int) {
	t.Helper()
	if got, why := m.Words(); len(got) != 0 || why != api.ErrBad {
		t.Errorf("P13.1: Words with a Bad one: %d of them, %v", len(got), why)
	}
	wantFixes(t, m, fixes)
}

// wantClean: every word is its number, without a turned bit: the Loads count nothing.
func wantClean(t *testing.T, m *Memory, numbers []uint32, fixes int) {
	t.Helper()
	for i, n := range numbers {
		wantLoad(t, m, uint32(4*i), n, api.OK, fixes)
	}
	wantWords(t, m, numbers, fixes)
}

// begins answers where the next Scrub of clean memory begins; behind it the memory is clean, and that place is one further.
func begins(t *testing.T, m *Memory) int {
	t.Helper()
	for i := range 1024 {
		flip(t, m, codeBits*i)
	}
	m.Scrub(1)
	at := -1
	for i := range 1024 {
		fixes := m.Fixes()
		m.Load(uint32(4 * i))
		if m.Fixes() == fixes {
			at = i
		}
	}
	return at
}

func wantBegins(t *testing.T, m *Memory, at int) {
	t.Helper()
	if got := begins(t, m); got != at {
		t.Errorf("P13.1: Scrub goes on at word %d, want %d", got, at)
	}
}

// P13.1: the chapter's run and examples.
func TestChapter(t *testing.T) {
	m := begun(t, nil)
	wantLoad(t, m, 2, 0, api.ErrAlign, 0)
	flip(t, m, 39*5+3)
	wantScrub(t, m, api.Words, 1, api.OK, 1)
	flip(t, m, 39*5+3, 39*5+4)
	wantLoad(t, m, 4*5, 0, api.ErrBad, 1)
}

// P13.1: images from none to all of memory; behind them it is 0.
func TestNew(t *testing.T) {
	for _, image := range [][]uint32{nil, {}, {0}, {7}, {1, 2, 3}, {math.MaxUint32}, scattered(1022), scattered(1023), scattered(1024)} {
		m := begun(t, image)
		if m.Bits() != allBits {
			t.Errorf("P13.1: Bits: %d, want %d", m.Bits(), allBits)
		}
		wantFixes(t, m, 0)
		wantClean(t, m, padded(image), 0)
		wantBegins(t, m, 0)
	}
}

// P13.1: an image that is longer than memory is refused, and there is no memory beside the refusal.
func TestNewOfTooMany(t *testing.T) {
	for _, n := range []int{1025, 1026, 2048, 2049, 4096, 1 << 20} {
		if m, why := New(make([]uint32, n)); m != nil || why != api.ErrLong {
			t.Errorf("P13.1: New of %d words: %v, %v", n, m, why)
		}
	}
}

// R2: the image is not kept: neither side sees what becomes of the other. It is not changed, its spare room included.
func TestImageIsNotKept(t *testing.T) {
	image := scattered(8)
	given := slices.Clone(image)
	m := begun(t, image[:4])
	for i := range 8 {
		m.Store(uint32(4*i), 0, 15)
	}
	flip(t, m, 0, 39, 78)
	m.Scrub(1024)
	if !slices.Equal(image, given) {
		t.Errorf("R2: the image was changed: %x, want %x", image, given)
	}
	m = begun(t, image[:4])
	for i := range image {
		image[i] = 99
	}
	wantClean(t, m, padded(given[:4]), 0)
}

// R5: the room behind an image's length is not read.
func TestImageSpareRoom(t *testing.T) {
	image := scattered(2048)
	wantClean(t, begun(t, image[:3]), padded(image[:3]), 0)
	wantClean(t, begun(t, image[:1024]), image[:1024], 0)
	wantClean(t, begun(t, image[:0]), make([]uint32, 1024), 0)
}

// P13.1: memories share nothing.
func TestMemoriesAreApart(t *testing.T) {
	a, b := begun(t, []uint32{1, 2}), begun(t, []uint32{1, 2})
	flip(t, a, 0)
	wantStore(t, a, 4, 9, 15, api.OK, 0)
	wantScrub(t, a, 5, 1, api.OK, 1)
	wantClean(t, b, padded([]uint32{1, 2}), 0)
	wantBegins(t, b, 0)
	wantClean(t, a, padded([]uint32{1, 9}), 1)
}

// places: addresses, and what Load and Store say of them.
func places() []struct {
	addr uint32
	want api.Errno
} {
	return []struct {
		addr uint32
		want api.Errno
	}{
		{0, api.OK}, {1, api.ErrAlign}, {2, api.ErrAlign}, {3, api.ErrAlign}, {4, api.OK}, {5, api.ErrAlign},
		{2048, api.OK}, {2050, api.ErrAlign},
		{4088, api.OK}, {4091, api.ErrAlign}, {4092, api.OK}, {4093, api.ErrAlign}, {4094, api.ErrAlign}, {4095, api.ErrAlign},
		{4096, api.ErrRange}, {4097, api.ErrAlign}, {4098, api.ErrAlign}, {4099, api.ErrAlign}, {4100, api.ErrRange},
		{8192, api.ErrRange}, {1 << 16, api.ErrRange}, {1<<16 + 2, api.ErrAlign},
		{api.Port - 4, api.ErrRange}, {api.Port - 1, api.ErrAlign}, {api.Port, api.ErrRange}, {api.Port + 1, api.ErrAlign}, {api.Port + 2, api.ErrAlign},
		{api.Halt, api.ErrRange}, {api.Halt + 1, api.ErrAlign}, {api.Halt + 3, api.ErrAlign}, {api.Halt + 4, api.ErrRange},
		{1<<31 - 4, api.ErrRange}, {1<<31 - 1, api.ErrAlign}, {1 << 31, api.ErrRange}, {1<<31 + 4, api.ErrRange}, {1<<31 + 1, api.ErrAlign},
		{math.MaxUint32 - 7, api.ErrRange}, {math.MaxUint32 - 4, api.ErrAlign}, {math.MaxUint32 - 3, api.ErrRange}, {math.MaxUint32 - 1, api.ErrAlign}, {math.MaxUint32, api.ErrAlign},
	}
}

// P13.1: which addresses have a word, ErrAlign ahead of ErrRange; what is refused changes nothing.
func TestPlaces(t *testing.T) {
	numbers := scattered(1024)
	m := begun(t, numbers)
	for _, p := range places() {
		n := uint32(0)
		if p.want == api.OK {
			n = numbers[p.addr/4]
		}
		wantLoad(t, m, p.addr, n, p.want, 0)
		for _, mask := range []int{0, 1, 8, 15, 16, 31, -1, math.MinInt, math.MaxInt} {
			wantStore(t, m, p.addr, n, mask, p.want, 0)
		}
		if p.want == api.OK {
			continue
		}
		for _, mask := range []int{0, 1, 8, 15, -1} {
			wantStore(t, m, p.addr, ^n, mask, p.want, 0)
		}
	}
	wantClean(t, m, numbers, 0)
	wantBegins(t, m, 0)
}

// P13.1: each word has its own address, for Load and for Store.
func TestEachWord(t *testing.T) {
	numbers := scattered(1024)
	m := begun(t, numbers)
	for i := range numbers {
		numbers[i] = ^numbers[i]
		wantStore(t, m, uint32(4*i), numbers[i], 15, api.OK, 0)
		wantLoad(t, m, uint32(4*i), numbers[i], api.OK, 0)
	}
	wantClean(t, m, numbers, 0)
}

// merged: old with data's bytes of the mask, of which four bits count, byte by byte.
func merged(old, data uint32, mask [4]bool) uint32 {
	var n uint32
	for k, take := range mask {
		from := old
		if take {
			from = data
		}
		n += from / (1 << (8 * k)) % 256 * (1 << (8 * k))
	}
	return n
}

// masks: each of the lowest four bits, and numbers that have them: bits above, below 0, great.
func masks(low int) []int {
	return []int{low, low + 16, low + 32, low + 1<<20, low + 1<<31, low + 1<<32, low + math.MaxInt - 15, low - 16, low - 32, low - 1<<32, low + math.MinInt}
}

func fourBits(low int) [4]bool {
	return [4]bool{low%2 == 1, low/2%2 == 1, low/4%2 == 1, low/8 == 1}
}

// P13.1: what each mask stores, bits of the mask beyond its lowest four let aside.
func TestMasks(t *testing.T) {
	const old, data = 0xa1b2c3d4, 0x15263748
	m := begun(t, []uint32{7, old, 9})
	for low := range 16 {
		for _, mask := range masks(low) {
			wantStore(t, m, 4, old, 15, api.OK, 0)
			wantStore(t, m, 4, data, mask, api.OK, 0)
			wantLoad(t, m, 4, merged(old, data, fourBits(low)), api.OK, 0)
		}
	}
	wantLoad(t, m, 0, 7, api.OK, 0)
	wantLoad(t, m, 8, 9, api.OK, 0)
}

// P13.1: masks by hand, at the last word.
func TestMasksByHand(t *testing.T) {
	m := begun(t, nil)
	for _, c := range []struct {
		data uint32
		mask int
		want uint32
	}{
		{0xaabbccdd, 15, 0xaabbccdd}, {0x11223344, 0, 0xaabbccdd}, {0x11223344, 1, 0xaabbcc44}, {0x11223344, 6, 0xaa223344},
		{0x55667788, 8, 0x55223344}, {0x99999999, 16, 0x55223344}, {0x01020304, -8, 0x01223344}, {0, -1, 0}, {0xffffffff, 5, 0x00ff00ff},
	} {
		wantStore(t, m, 4092, c.data, c.mask, api.OK, 0)
		wantLoad(t, m, 4092, c.want, api.OK, 0)
	}
}

// P13.1, W2: each bit of the first, an inner and the last word turned alone is mended by a Load: counted once, and the next Load none.
func TestLoadMends(t *testing.T) {
	numbers := scattered(1024)
	m := begun(t, numbers)
	fixes := 0
	for _, i := range []int{0, 1, 700, 1023} {
		for bit := range codeBits {
			flip(t, m, codeBits*i+bit)
			wantWords(t, m, numbers, fixes)
			fixes++
			wantLoad(t, m, uint32(4*i), numbers[i], api.OK, fixes)
			wantLoad(t, m, uint32(4*i), numbers[i], api.OK, fixes)
		}
	}
	wantClean(t, m, numbers, fixes)
	wantBegins(t, m, 0)
}

// P13.1, W2: a Store into a word with a turned bit, by each mask: the other bytes are the mended ones, and it counts once, where all bytes are stored, too.
func TestStoreMends(t *testing.T) {
	const old, data = 0x8f0e1d2c, 0x70f1e2d3
	m := begun(t, []uint32{5, old, 6})
	fixes := 0
	for bit := range codeBits {
		for low := range 16 {
			wantStore(t, m, 4, old, 15, api.OK, fixes)
			flip(t, m, codeBits+bit)
			fixes++
			wantStore(t, m, 4, data, low, api.OK, fixes)
			wantLoad(t, m, 4, merged(old, data, fourBits(low)), api.OK, fixes)
		}
	}
	wantLoad(t, m, 0, 5, api.OK, fixes)
	wantLoad(t, m, 8, 6, api.OK, fixes)
}

// P13.1: only the word at the address is mended.
func TestOtherWordsStay(t *testing.T) {
	m := begun(t, []uint32{1, 2, 3, 4})
	flip(t, m, 38, 39, 116, 117)
	wantLoad(t, m, 4, 2, api.OK, 1)
	wantStore(t, m, 8, 3, 0, api.OK, 2)
	wantWords(t, m, padded([]uint32{1, 2, 3, 4}), 2)
	wantLoad(t, m, 0, 1, api.OK, 3)
	wantLoad(t, m, 12, 4, api.OK, 4)
	wantClean(t, m, padded([]uint32{1, 2, 3, 4}), 4)
}

// P13.1: each pair of bits turned in a word: ErrBad of Load and Words, again and again, and of Store, but by a mask whose lowest four bits are 1: that puts it right, and is no fix.
func TestTwoBits(t *testing.T) {
	numbers := padded([]uint32{9, 0x12345678, 11})
	m := begun(t, numbers)
	for a := range codeBits {
		for b := range a {
			flip(t, m, codeBits+a, codeBits+b)
			for range 2 {
				wantLoad(t, m, 4, 0, api.ErrBad, 0)
				wantStore(t, m, 4, 1, (a+b)%15, api.ErrBad, 0)
			}
			if b == 0 {
				wantNoWords(t, m, 0)
			}
			flip(t, m, codeBits+a, codeBits+b)
			wantLoad(t, m, 4, numbers[1], api.OK, 0)
			flip(t, m, codeBits+a, codeBits+b)
			wantStore(t, m, 4, numbers[1], 15, api.OK, 0)
			wantLoad(t, m, 4, numbers[1], api.OK, 0)
		}
	}
	wantClean(t, m, numbers, 0)
	wantBegins(t, m, 0)
}

// P13.1: which masks put a Bad word right.
func TestStoreOverABadWord(t *testing.T) {
	m := begun(t, []uint32{5, 6, 7})
	for low := range 16 {
		for _, mask := range masks(low) {
			flip(t, m, codeBits, codeBits+34)
			if low == 15 {
				wantStore(t, m, 4, 77, mask, api.OK, 0)
				wantLoad(t, m, 4, 77, api.OK, 0)
				wantStore(t, m, 4, 6, 15, api.OK, 0)
				continue
			}
			wantStore(t, m, 4, 77, mask, api.ErrBad, 0)
			wantLoad(t, m, 4, 0, api.ErrBad, 0)
			flip(t, m, codeBits, codeBits+34)
			wantLoad(t, m, 4, 6, api.OK, 0)
		}
	}
	wantClean(t, m, padded([]uint32{5, 6, 7}), 0)
}

// P13.1: ErrAlign and ErrRange come ahead of ErrBad: an address beside a Bad word is not that word's.
func TestRefusalsBesideABadWord(t *testing.T) {
	m := begun(t, scattered(1024))
	flip(t, m, 0, 1, codeBits*1023, codeBits*1023+1)
	for _, addr := range []uint32{1, 2, 3, 4093, 4094, 4095, 4098} {
		wantLoad(t, m, addr, 0, api.ErrAlign, 0)
		wantStore(t, m, addr, 1, 1, api.ErrAlign, 0)
		wantStore(t, m, addr, 1, 15, api.ErrAlign, 0)
	}
	wantLoad(t, m, 4096, 0, api.ErrRange, 0)
	wantStore(t, m, 4096, 1, 15, api.ErrRange, 0)
	wantLoad(t, m, 0, 0, api.ErrBad, 0)
	wantLoad(t, m, 4092, 0, api.ErrBad, 0)
}

// P13.1: a misaligned or far address does not get its word: a turned bit waits there.
func TestRefusedPlacesMendNothing(t *testing.T) {
	m := begun(t, scattered(1024))
	flip(t, m, 0, codeBits*1023)
	for _, p := range places() {
		if p.want != api.OK {
			wantLoad(t, m, p.addr, 0, p.want, 0)
			wantStore(t, m, p.addr, 1, 15, p.want, 0)
		}
	}
	wantScrub(t, m, 1024, 2, api.OK, 2)
}

// P13.1: Scrub meets n words, from where the last one ended; words that it does not meet keep their turned bits.
func TestScrubGoesOn(t *testing.T) {
	numbers := scattered(1024)
	m := begun(t, numbers)
	flip(t, m, 0, codeBits*2+5, codeBits*3+38, codeBits*7+31, codeBits*1023+32)
	wantScrub(t, m, 2, 1, api.OK, 1)
	wantScrub(t, m, 0, 0, api.OK, 1)
	wantScrub(t, m, 1, 1, api.OK, 2)
	wantScrub(t, m, -1, 0, api.OK, 2)
	wantScrub(t, m, 1, 1, api.OK, 3)
	wantScrub(t, m, 3, 0, api.OK, 3)
	wantScrub(t, m, 1, 1, api.OK, 4)
	wantScrub(t, m, 1, 0, api.OK, 4)
	wantScrub(t, m, 1014, 0, api.OK, 4)
	flip(t, m, 1, codeBits+1, codeBits*2)
	wantScrub(t, m, 2, 2, api.OK, 6)
	wantLoad(t, m, 4, numbers[1], api.OK, 7)
	wantWords(t, m, numbers, 7)
	wantScrub(t, m, 1, 0, api.OK, 7)
	wantLoad(t, m, 8, numbers[2], api.OK, 8)
	wantClean(t, m, numbers, 8)
	wantBegins(t, m, 2)
}

// P13.1: how far Scrub goes: n is held between 0 and Words, so that all of memory is met once at most.
func TestScrubIsHeld(t *testing.T) {
	for _, c := range []struct{ n, words int }{
		{0, 0}, {1, 1}, {2, 2}, {511, 511}, {1022, 1022}, {1023, 1023}, {1024, 1024}, {1025, 1024}, {1030, 1024}, {2048, 1024},
		{math.MaxInt32, 1024}, {math.MaxInt32 + 1, 1024}, {1 << 32, 1024}, {math.MaxInt - 1, 1024}, {math.MaxInt, 1024},
		{-1, 0}, {-2, 0}, {-1024, 0}, {math.MinInt32, 0}, {1 - 1<<32, 0}, {-1 << 32, 0}, {math.MinInt + 1, 0}, {math.MinInt, 0},
	} {
		m := begun(t, nil)
		wantScrub(t, m, 5, 0, api.OK, 0)
		for i := range 1024 {
			flip(t, m, codeBits*i+i%codeBits)
		}
		wantScrub(t, m, c.n, c.words, api.OK, c.words)
		wantScrub(t, m, 1024, 1024-c.words, api.OK, 1024)
		wantClean(t, m, make([]uint32, 1024), 1024)
		wantBegins(t, m, (5+c.words)%1024)
	}
}

// P13.1, W2: any bit of memory, turned alone, is met by a Scrub of all words.
func TestScrubMendsEachBit(t *testing.T) {
	numbers := scattered(1024)
	m := begun(t, numbers)
	fixes := 0
	for bit := 0; bit < allBits; bit += 37 {
		flip(t, m, bit)
		fixes++
		wantScrub(t, m, 1024, 1, api.OK, fixes)
	}
	wantScrub(t, m, 1024, 0, api.OK, fixes)
	wantClean(t, m, numbers, fixes)
}

// P13.1: with a Bad word among them Scrub answers 0, ErrBad, but the n words were met all the same: those ahead of it and behind it are mended, and the next Scrub goes on behind them.
func TestScrubMeetsABadWord(t *testing.T) {
	numbers := scattered(1024)
	for bad := range 6 {
		m := begun(t, numbers)
		flip(t, m, codeBits*bad, codeBits*bad+33)
		for i := range 8 {
			if i != bad {
				flip(t, m, codeBits*i+i)
			}
		}
		wantScrub(t, m, 6, 0, api.ErrBad, 5)
		wantScrub(t, m, 1, 1, api.OK, 6)
		for i := range 6 {
			if i != bad {
				wantLoad(t, m, uint32(4*i), numbers[i], api.OK, 6)
			}
		}
		wantLoad(t, m, uint32(4*bad), 0, api.ErrBad, 6)
		wantScrub(t, m, 1017, 1, api.OK, 7)
		wantScrub(t, m, bad, 0, api.OK, 7)
		wantScrub(t, m, 1, 0, api.ErrBad, 7)
		wantStore(t, m, uint32(4*bad), numbers[bad], 15, api.OK, 7)
		wantClean(t, m, numbers, 7)
		wantBegins(t, m, bad+1)
	}
}

// P13.1: a Bad word that a Scrub does not meet does not trouble it; one that it meets stays, and is told each round.
func TestScrubMissesABadWord(t *testing.T) {
	m := begun(t, nil)
	flip(t, m, codeBits*4, codeBits*4+1, codeBits*5)
	wantScrub(t, m, 4, 0, api.OK, 0)
	wantScrub(t, m, 0, 0, api.OK, 0)
	wantScrub(t, m, 1, 0, api.ErrBad, 0)
	wantScrub(t, m, 1023, 1, api.OK, 1)
	wantScrub(t, m, math.MaxInt, 0, api.ErrBad, 1)
	wantScrub(t, m, math.MaxInt, 0, api.ErrBad, 1)
	wantNoWords(t, m, 1)
}

// P13.1: several Bad words, the first and the last one of a Scrub too.
func TestScrubMeetsSeveralBadWords(t *testing.T) {
	m := begun(t, nil)
	for _, i := range []int{0, 3, 1023} {
		flip(t, m, codeBits*i+2, codeBits*i+36)
	}
	flip(t, m, codeBits, codeBits*1022)
	wantScrub(t, m, 1024, 0, api.ErrBad, 2)
	for _, i := range []uint32{0, 3, 1023} {
		wantStore(t, m, 4*i, 0, 15, api.OK, 2)
	}
	wantClean(t, m, make([]uint32, 1024), 2)
	wantBegins(t, m, 0)
}

// P13.1: Flip turns a bit of Bits, and of no such bit none; it counts as no fix.
func TestFlip(t *testing.T) {
	numbers := scattered(1024)
	m := begun(t, numbers)
	for _, bit := range []int{
		-1, -2, -38, -39, -40, -allBits, allBits, allBits + 1, allBits + 38, allBits + 39, allBits + 64, 2 * allBits, 64 * 1024,
		math.MaxInt32, math.MaxInt32 + 1, 1 << 32, 1<<32 + 1, math.MaxInt - 1, math.MaxInt, math.MinInt32, -1 << 32, 1 - 1<<32, math.MinInt, math.MinInt + 1,
	} {
		if m.Flip(bit) {
			t.Errorf("P13.1: Flip(%d): true", bit)
		}
	}
	wantClean(t, m, numbers, 0)
	for bit := range allBits {
		flip(t, m, bit)
		flip(t, m, bit)
	}
	wantClean(t, m, numbers, 0)
	flip(t, m, 0, allBits-1)
	wantFixes(t, m, 0)
	if m.Bits() != allBits {
		t.Errorf("P13.1: Bits: %d, want %d", m.Bits(), allBits)
	}
	wantLoad(t, m, 0, numbers[0], api.OK, 1)
	wantLoad(t, m, 4092, numbers[1023], api.OK, 2)
}

// P13.1: Words tells a word with a turned bit as mended, and mends it not: a second bit in that word makes it Bad, and that one turned back, it is there still.
func TestWordsPeeks(t *testing.T) {
	numbers := scattered(1024)
	m := begun(t, numbers)
	for n, i := range []int{0, 1, 512, 1023} {
		for bit := range codeBits {
			other := codeBits*i + (bit+1)%codeBits
			flip(t, m, codeBits*i+bit)
			wantWords(t, m, numbers, n)
			flip(t, m, other)
			wantNoWords(t, m, n)
			flip(t, m, codeBits*i+bit)
			wantWords(t, m, numbers, n)
			flip(t, m, other)
		}
		flip(t, m, codeBits*i)
		wantWords(t, m, numbers, n)
		wantLoad(t, m, uint32(4*i), numbers[i], api.OK, n+1)
	}
	wantBegins(t, m, 0)
}

// P13.1: Words with a bit turned in each word is whole; with one Bad word, whichever it is, it is none.
func TestWordsOfTurnedBits(t *testing.T) {
	numbers := scattered(1024)
	m := begun(t, numbers)
	for i := range 1024 {
		flip(t, m, codeBits*i+i%codeBits)
	}
	wantWords(t, m, numbers, 0)
	for i := range 1024 {
		flip(t, m, codeBits*i+(i+1)%codeBits)
		wantNoWords(t, m, 0)
		flip(t, m, codeBits*i+(i+1)%codeBits)
	}
	wantScrub(t, m, 1024, 1024, api.OK, 1024)
	wantClean(t, m, numbers, 1024)
}

// R2: Words answers new memory each time, its spare room too.
func TestWordsAreNew(t *testing.T) {
	numbers := scattered(1024)
	m := begun(t, numbers)
	first, _ := m.Words()
	first = first[:cap(first)]
	for i := range first {
		first[i] = 99
	}
	second, _ := m.Words()
	wantStore(t, m, 0, 5, 15, api.OK, 0)
	if !slices.Equal(second, numbers) {
		t.Error("R2: Words shares memory with what it answered, or keeps up with it")
	}
	wantStore(t, m, 0, numbers[0], 15, api.OK, 0)
	wantClean(t, m, numbers, 0)
}

// R3: refused calls change nothing that a call can tell later, but that a word was mended: two memories, one of which was asked them all, go on alike.
func TestRefusedChangesNothing(t *testing.T) {
	numbers := scattered(1024)
	a, b := begun(t, numbers), begun(t, numbers)
	for _, m := range []*Memory{a, b} {
		wantScrub(t, m, 100, 0, api.OK, 0)
		flip(t, m, codeBits*8, codeBits*8+1, codeBits*300, codeBits*1023)
	}
	for _, p := range places() {
		if p.want != api.OK {
			wantLoad(t, a, p.addr, 0, p.want, 0)
			wantStore(t, a, p.addr, 3, 15, p.want, 0)
		}
	}
	wantLoad(t, a, 32, 0, api.ErrBad, 0)
	for mask := range 15 {
		wantStore(t, a, 32, 3, mask, api.ErrBad, 0)
	}
	wantNoWords(t, a, 0)
	if a.Flip(-1) || a.Flip(allBits) {
		t.Error("P13.1: Flip of no bit: true")
	}
	for _, m := range []*Memory{a, b} {
		wantLoad(t, m, 32, 0, api.ErrBad, 0)
		wantNoWords(t, m, 0)
		wantScrub(t, m, 201, 1, api.OK, 1)
		wantScrub(t, m, 723, 1, api.OK, 2)
		flip(t, m, codeBits*8)
		wantLoad(t, m, 32, numbers[8], api.OK, 3)
		wantClean(t, m, numbers, 3)
		wantBegins(t, m, 0)
	}
}

// plain: the chapter's words once more, with the code words in plain sight.
type plain struct {
	words [1024]uint64
	fixes int
	next  int
}

func (p *plain) get(i int) (uint32, int) {
	n, status := hsiao.Decode(p.words[i])
	if status == api.Fixed {
		p.words[i] = hsiao.Encode(n)
		p.fixes++
	}
	return n, status
}

func (p *plain) load(addr uint32) (uint32, api.Errno) {
	if addr%4 > 0 {
		return 0, api.ErrAlign
	}
	if addr > 4095 {
		return 0, api.ErrRange
	}
	n, status := p.get(int(addr / 4))
	if status == api.Bad {
		return 0, api.ErrBad
	}
	return n, api.OK
}

func (p *plain) store(addr, data uint32, low int) api.Errno {
	_, why := p.load(addr)
	if why == api.ErrAlign || why == api.ErrRange || why == api.ErrBad && low != 15 {
		return why
	}
	old, _ := hsiao.Decode(p.words[addr/4])
	p.words[addr/4] = hsiao.Encode(merged(old, data, fourBits(low)))
	return api.OK
}

func (p *plain) scrub(n int) (int, api.Errno) {
	fixes, why := p.fixes, api.OK
	for k := 0; k < n && k < 1024; k++ {
		if _, status := p.get(p.next); status == api.Bad {
			why = api.ErrBad
		}
		p.next++
		if p.next == 1024 {
			p.next = 0
		}
	}
	if why != api.OK {
		return 0, why
	}
	return p.fixes - fixes, api.OK
}

// all answers the words, none if one is Bad.
func (p *plain) all() []uint32 {
	var words []uint32
	for _, w := range p.words {
		n, status := hsiao.Decode(w)
		if status == api.Bad {
			return nil
		}
		words = append(words, n)
	}
	return words
}

// near: a word or an address near the ends of memory, so that calls meet; an address that is wrong now and then.
func near(source *rand.Rand) (int, uint32) {
	i := source.Intn(8) - 4
	if i < 0 {
		i += 1024
	}
	addr := uint32(4 * i)
	switch source.Intn(16) {
	case 0:
		addr += uint32(source.Intn(3) + 1)
	case 1:
		addr += uint32(source.Intn(1<<20)) * 4096
	}
	return i, addr
}

// P13.1: long runs of all calls, scattered, right and wrong ones among them, against the plain memory.
func TestScatteredCalls(t *testing.T) {
	source := rand.New(rand.NewSource(1313))
	image := scattered(1021)
	m, p := begun(t, image), &plain{}
	for i, n := range image {
		p.words[i] = hsiao.Encode(n)
	}
	refused := map[api.Errno]int{}
	for range 60000 {
		i, addr := near(source)
		switch source.Intn(8) {
		case 0:
			n, why := p.load(addr)
			refused[why]++
			wantLoad(t, m, addr, n, why, p.fixes)
		case 1, 2:
			data, low := source.Uint32(), source.Intn(16)
			mask := masks(low)[source.Intn(11)]
			why := p.store(addr, data, low)
			refused[why]++
			wantStore(t, m, addr, data, mask, why, p.fixes)
		case 3:
			n := source.Intn(8) - 2
			if source.Intn(20) == 0 {
				n = 1020 + source.Intn(10)
			}
			fixed, why := p.scrub(n)
			wantScrub(t, m, n, fixed, why, p.fixes)
		case 4, 5:
			bit := codeBits*i + source.Intn(codeBits)
			p.words[i] ^= 1 << (bit % codeBits)
			flip(t, m, bit)
		case 6:
			if all := p.all(); source.Intn(8) > 0 {
				wantLoad(t, m, 2048, image[512], api.OK, p.fixes)
			} else if all == nil {
				wantNoWords(t, m, p.fixes)
			} else {
				wantWords(t, m, all, p.fixes)
			}
		case 7:
			wantLoad(t, m, addr|1, 0, api.ErrAlign, p.fixes)
		}
		if t.Failed() {
			t.FailNow()
		}
	}
	for _, why := range []api.Errno{api.OK, api.ErrAlign, api.ErrRange, api.ErrBad} {
		if refused[why] < 100 {
			t.Errorf("the calls are too tame: %v met %d times", why, refused[why])
		}
	}
}

// program stores bytes, halves and words, loads them again, tells one and halts.
func program(t *testing.T) []uint32 {
	t.Helper()
	var image []uint32
	for _, i := range []api.Inst{
		{Op: api.Addi, Rd: 1, Imm: 2047},
		{Op: api.Addi, Rd: 1, Rs1: 1, Imm: 1},
		{Op: api.Addi, Rd: 2, Imm: 60},
		{Op: api.Sw, Rs1: 1, Rs2: 2},
		{Op: api.Sb, Rs1: 1, Rs2: 2, Imm: 5},
		{Op: api.Sh, Rs1: 1, Rs2: 2, Imm: 10},
		{Op: api.Lw, Rd: 3, Rs1: 1, Imm: 8},
		{Op: api.Mul, Rd: 3, Rs1: 3, Rs2: 2},
		{Op: api.Sw, Rs1: 1, Rs2: 3, Imm: 12},
		{Op: api.Addi, Rd: 1, Rs1: 1, Imm: 16},
		{Op: api.Addi, Rd: 2, Rs1: 2, Imm: -1},
		{Op: api.Bne, Rs1: 2, Imm: -32},
		{Op: api.Lui, Rd: 4, Imm: api.Port},
		{Op: api.Sw, Rs1: 4, Rs2: 3},
		{Op: api.Sw, Rs1: 4, Imm: 4},
	} {
		w, ok := encode.Encode(i)
		if !ok {
			t.Fatalf("no word of %v", i)
		}
		image = append(image, w)
	}
	return image
}

// follow runs the program, and does its stores in m too; upset comes ahead of each step.
// Whatever was fetched and stored, m tells what the model has, from step to step.
func follow(t *testing.T, image []uint32, m *Memory, upset func(step int)) {
	t.Helper()
	machine, _ := model.New(image)
	stores := 0
	for step := 0; ; step++ {
		upset(step)
		done, ok := machine.Step()
		if !ok {
			break
		}
		if n, why := m.Load(done.PC); n != image[done.PC/4] || why != api.OK {
			t.Fatalf("step %d: fetched %#x, %v", step, n, why)
		}
		if done.Store && done.Addr < 4096 {
			stores++
			if why := m.Store(done.Addr, done.Data, done.Mask); why != api.OK {
				t.Fatalf("step %d: %v", step, why)
			}
		}
		if all, why := m.Words(); why != api.OK || !slices.Equal(all, machine.State().Mem) {
			t.Fatalf("step %d: memory is not the model's: %v", step, why)
		}
	}
	if told := machine.Trace(); stores != 240 || len(told) != 1 {
		t.Fatalf("the program is another one: %d stores, %x told", stores, told)
	}
}

// W1, W5: without turned bits memory follows a program as the model's does, scrubbed or not, and nothing is mended.
func TestFollowsAProgram(t *testing.T) {
	image := program(t)
	m := begun(t, image)
	follow(t, image, m, func(step int) {
		wantScrub(t, m, step%5, 0, api.OK, 0)
	})
	wantFixes(t, m, 0)
}

// W2, W5: likewise with bits turned one at a time, with a round of Scrubs between them; each of them is mended, once.
func TestFollowsAProgramWithTurnedBits(t *testing.T) {
	image := program(t)
	for turn := range 40 {
		m := begun(t, image)
		turned := 0
		follow(t, image, m, func(step int) {
			if step%64 == turn {
				flip(t, m, (turned*7919+turn*401)%(codeBits*len(image)+turn*900))
				turned++
			}
			if _, why := m.Scrub(16); why != api.OK {
				t.Fatalf("W2: Scrub: %v", why)
			}
		})
		m.Scrub(1024)
		wantFixes(t, m, turned)
	}
}
