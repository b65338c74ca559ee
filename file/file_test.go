package file

import (
	"math"
	"math/rand"
	"testing"

	"dioscuri/api"
	"dioscuri/decode"
	"dioscuri/encode"
	"dioscuri/hsiao"
	"dioscuri/model"
)

const (
	codeBits = 39
	allBits  = 31 * codeBits
)

// scattered: a number for each register but register 0, none of them 0, so that a register that is not kept shows.
func scattered() [32]uint32 {
	source := rand.New(rand.NewSource(14))
	var numbers [32]uint32
	for i := 1; i < 32; i++ {
		numbers[i] = source.Uint32() | 1<<i
	}
	return numbers
}

// edges: numbers at the ends, each single bit, and each bit missing.
func edges() []uint32 {
	all := []uint32{0, 5, 0x55555555, 0xaaaaaaaa, 0xdeadbeef, math.MaxUint32}
	for bit := range 32 {
		all = append(all, 1<<bit, ^(uint32(1) << bit))
	}
	return all
}

// noRegisters: below 0, from 32 on, and numbers that would be a register if fewer of their bits were looked at.
func noRegisters() []int {
	return []int{
		-1, -2, -31, -32, -33, -1024, 32, 33, 63, 64, 78, 79, 256, 1024, 1 << 16, 1<<16 + 1,
		math.MaxInt32, math.MaxInt32 + 1, 1 << 32, 1<<32 + 1, 1<<32 + 31, math.MaxInt - 1, math.MaxInt,
		math.MinInt32, -1 << 32, 1 - 1<<32, math.MinInt, math.MinInt + 1, math.MinInt + 2, math.MinInt + 32,
	}
}

// bitOf: of the bits of register i the one at place k.
func bitOf(i, k int) int {
	return codeBits*(i-1) + k
}

func filled(t *testing.T, numbers [32]uint32) *File {
	t.Helper()
	f := New()
	for i := 1; i < 32; i++ {
		wantWrite(t, f, i, numbers[i], true)
	}
	return f
}

// flip turns bits that there are.
func flip(t *testing.T, f *File, bits ...int) {
	t.Helper()
	for _, bit := range bits {
		if !f.Flip(bit) {
			t.Fatalf("P14.1: Flip(%d): false", bit)
		}
	}
}

func wantRead(t *testing.T, f *File, i int, n uint32, status int) {
	t.Helper()
	if got, s := f.Read(i); got != n || s != status {
		t.Errorf("P14.1: Read(%d): %#x, %d, want %#x, %d", i, got, s, n, status)
	}
}

func wantWrite(t *testing.T, f *File, i int, n uint32, want bool) {
	t.Helper()
	if got := f.Write(i, n); got != want {
		t.Errorf("P14.1: Write(%d, %#x): %v, want %v", i, n, got, want)
	}
}

// wantScrubs holds as many Scrubs as there are statuses against them.
func wantScrubs(t *testing.T, f *File, statuses ...int) {
	t.Helper()
	for k, status := range statuses {
		if s := f.Scrub(); s != status {
			t.Errorf("P14.1: Scrub %d of %d: %d, want %d", k+1, len(statuses), s, status)
		}
	}
}

// scrubs: n Scrubs that find nothing.
func scrubs(t *testing.T, f *File, n int) {
	t.Helper()
	for range n {
		wantScrubs(t, f, api.Good)
	}
}

func wantAll(t *testing.T, f *File, numbers [32]uint32) {
	t.Helper()
	if got, ok := f.All(); got != numbers || !ok {
		t.Errorf("P14.1: All: %x, %v, want %x", got, ok, numbers)
	}
}

// wantNoAll: one is Bad.
func wantNoAll(t *testing.T, f *File) {
	t.Helper()
	if got, ok := f.All(); got != [32]uint32{} || ok {
		t.Errorf("P14.1: All with a Bad one: %x, %v", got, ok)
	}
}

// wantClean: every register is its number, without a turned bit.
func wantClean(t *testing.T, f *File, numbers [32]uint32) {
	t.Helper()
	wantAll(t, f, numbers)
	for i, n := range numbers {
		wantRead(t, f, i, n, api.Good)
	}
	wantAll(t, f, numbers)
}

// wantNext holds the register at which the next Scrub of clean registers is against i; behind it they are clean, and that place is one further.
func wantNext(t *testing.T, f *File, i int) {
	t.Helper()
	for k := 1; k < 32; k++ {
		flip(t, f, bitOf(k, k))
	}
	wantScrubs(t, f, api.Fixed)
	for k := 1; k < 32; k++ {
		if _, s := f.Read(k); (s == api.Good) != (k == i) {
			t.Errorf("P14.1: Scrub at register %d: register %d is %d then", i, k, s)
		}
	}
}

// P14.1: the chapter's run and examples.
func TestChapter(t *testing.T) {
	f := New()
	wantWrite(t, f, 0, 5, true)
	wantRead(t, f, 0, 0, api.Good)
	if f.Bits() != 31*39 {
		t.Errorf("P14.1: Bits: %d, want 31 times 39", f.Bits())
	}
	wantRead(t, f, 32, 0, api.Bad)
}

// P14.1: all registers are 0 and Good at first, and the first Scrub is of register 1.
func TestNew(t *testing.T) {
	f := New()
	wantClean(t, f, [32]uint32{})
	scrubs(t, f, 31)
	wantClean(t, f, [32]uint32{})
	wantNext(t, New(), 1)
}

// P14.1: what is written to a register is read from it, the last one that was written, and from no other register.
func TestEachRegister(t *testing.T) {
	numbers := scattered()
	f := filled(t, numbers)
	wantClean(t, f, numbers)
	for i := 1; i < 32; i++ {
		for _, n := range edges() {
			wantWrite(t, f, i, n, true)
			wantRead(t, f, i, n, api.Good)
			wantRead(t, f, i, n, api.Good)
			numbers[i] = n
			wantAll(t, f, numbers)
		}
		wantClean(t, f, numbers)
	}
}

// P14.1: a Write to register 0 is true and changes nothing, and it is 0 and Good.
func TestRegisterZero(t *testing.T) {
	numbers := scattered()
	f := filled(t, numbers)
	for _, n := range edges() {
		wantWrite(t, f, 0, n, true)
		wantRead(t, f, 0, 0, api.Good)
		wantAll(t, f, numbers)
	}
	wantClean(t, f, numbers)
	wantNext(t, f, 1)
}

// P14.1: register 0 is 0 and Good behind each turned bit, and behind two in each register; neither its Read nor its Write mends one.
func TestRegisterZeroBesideTurnedBits(t *testing.T) {
	numbers := scattered()
	f := filled(t, numbers)
	for bit := range allBits {
		flip(t, f, bit)
		wantRead(t, f, 0, 0, api.Good)
		wantWrite(t, f, 0, math.MaxUint32, true)
		wantRead(t, f, 0, 0, api.Good)
		wantRead(t, f, 1+bit/codeBits, numbers[1+bit/codeBits], api.Fixed)
	}
	for i := 1; i < 32; i++ {
		flip(t, f, bitOf(i, i), bitOf(i, 38))
		wantRead(t, f, 0, 0, api.Good)
		wantWrite(t, f, 0, 9, true)
	}
	wantRead(t, f, 0, 0, api.Good)
	for i := 1; i < 32; i++ {
		wantNoAll(t, f)
		flip(t, f, bitOf(i, i), bitOf(i, 38))
	}
	wantClean(t, f, numbers)
}

// P14.1: of no register Read is 0, Bad, and Write is false: nothing is written, and nothing is mended.
func TestNoRegister(t *testing.T) {
	numbers := scattered()
	f := filled(t, numbers)
	for _, i := range noRegisters() {
		wantRead(t, f, i, 0, api.Bad)
		wantWrite(t, f, i, 0xffff0000, false)
		wantRead(t, f, i, 0, api.Bad)
		wantAll(t, f, numbers)
	}
	wantClean(t, f, numbers)
	for i := 1; i < 32; i++ {
		flip(t, f, bitOf(i, i))
	}
	for _, i := range noRegisters() {
		wantRead(t, f, i, 0, api.Bad)
		wantWrite(t, f, i, 0, false)
	}
	for i := 1; i < 32; i++ {
		wantRead(t, f, i, numbers[i], api.Fixed)
	}
	wantNext(t, f, 1)
}

// P14.1, W2: each bit turned alone lies in its register (the first 39 in register 1), is mended by the first Read of it, and is gone then.
func TestReadMendsEachBit(t *testing.T) {
	for _, numbers := range [][32]uint32{{}, scattered()} {
		f := filled(t, numbers)
		for bit := range allBits {
			i := 1 + bit/codeBits
			flip(t, f, bit)
			for k := range 32 {
				if k != i {
					wantRead(t, f, k, numbers[k], api.Good)
				}
			}
			wantRead(t, f, i, numbers[i], api.Fixed)
			wantRead(t, f, i, numbers[i], api.Good)
		}
		wantClean(t, f, numbers)
		wantNext(t, f, 1)
	}
}

// P14.1: which bits are the first and the last one of some registers, written out.
func TestBitsByHand(t *testing.T) {
	f := New()
	for _, c := range []struct{ bit, register int }{
		{0, 1}, {1, 1}, {38, 1}, {39, 2}, {77, 2}, {78, 3}, {584, 15}, {585, 16}, {1169, 30}, {1170, 31}, {1207, 31}, {1208, 31},
	} {
		flip(t, f, c.bit)
		wantRead(t, f, c.register, 0, api.Fixed)
		wantClean(t, f, [32]uint32{})
	}
}

// P14.1: only the register that is read is mended; the others keep their turned bits.
func TestOtherRegistersStay(t *testing.T) {
	numbers := scattered()
	f := filled(t, numbers)
	flip(t, f, bitOf(1, 38), bitOf(2, 0), bitOf(2, 38), bitOf(3, 0), bitOf(31, 38))
	wantRead(t, f, 3, numbers[3], api.Fixed)
	wantRead(t, f, 30, numbers[30], api.Good)
	flip(t, f, bitOf(2, 38))
	wantRead(t, f, 2, numbers[2], api.Fixed)
	wantAll(t, f, numbers)
	wantRead(t, f, 1, numbers[1], api.Fixed)
	wantRead(t, f, 31, numbers[31], api.Fixed)
	wantClean(t, f, numbers)
}

// P14.1: each pair of bits turned in a register: Bad, the data as word.Get tells them, again and again; the others are as they were. Turned back it is Good.
func TestTwoBits(t *testing.T) {
	numbers := scattered()
	f := filled(t, numbers)
	for _, i := range []int{1, 2, 17, 31} {
		for a := range codeBits {
			for b := range a {
				flip(t, f, bitOf(i, a), bitOf(i, b))
				turned := uint32(hsiao.Encode(numbers[i]) ^ 1<<a ^ 1<<b)
				wantRead(t, f, i, turned, api.Bad)
				wantRead(t, f, i, turned, api.Bad)
				wantRead(t, f, i-1, numbers[i-1], api.Good)
				wantNoAll(t, f)
				flip(t, f, bitOf(i, a))
				wantRead(t, f, i, numbers[i], api.Fixed)
				wantRead(t, f, i, numbers[i], api.Good)
			}
		}
	}
	wantClean(t, f, numbers)
	wantNext(t, f, 1)
}

// P14.1: each register may be Bad; it stays so till it is written, whatever else is called, and the others are as they were.
func TestEachRegisterBad(t *testing.T) {
	numbers := scattered()
	f := filled(t, numbers)
	for i := 1; i < 32; i++ {
		flip(t, f, bitOf(i, 32), bitOf(i, 33))
		for range 2 {
			for k := range 32 {
				if k != i {
					wantRead(t, f, k, numbers[k], api.Good)
				}
			}
			wantRead(t, f, i, numbers[i], api.Bad)
			wantNoAll(t, f)
			scrubs(t, f, i-1)
			wantScrubs(t, f, api.Bad)
			scrubs(t, f, 31-i)
		}
		wantWrite(t, f, i%31+1, numbers[i%31+1], true)
		wantRead(t, f, i, numbers[i], api.Bad)
		numbers[i] = ^numbers[i]
		wantWrite(t, f, i, numbers[i], true)
		wantClean(t, f, numbers)
	}
}

// P14.1: two turned bits are mended each, in two registers, or in one that was read between them.
func TestTwoBitsApart(t *testing.T) {
	numbers := scattered()
	f := filled(t, numbers)
	flip(t, f, bitOf(4, 38), bitOf(5, 0))
	wantAll(t, f, numbers)
	wantRead(t, f, 4, numbers[4], api.Fixed)
	flip(t, f, bitOf(4, 37))
	wantRead(t, f, 4, numbers[4], api.Fixed)
	wantRead(t, f, 5, numbers[5], api.Fixed)
	wantClean(t, f, numbers)
}

// P14.1: three turned bits are what word.Get makes of them: Bad, or mended to another number.
func TestThreeBits(t *testing.T) {
	numbers := scattered()
	f := filled(t, numbers)
	seen := map[int]int{}
	for a := range codeBits {
		b, c := (a+5)%codeBits, (a+11)%codeBits
		flip(t, f, bitOf(9, a), bitOf(9, b), bitOf(9, c))
		n, status := hsiao.Decode(hsiao.Encode(numbers[9]) ^ 1<<a ^ 1<<b ^ 1<<c)
		seen[status]++
		wantRead(t, f, 9, n, status)
		wantWrite(t, f, 9, numbers[9], true)
		wantClean(t, f, numbers)
	}
	if seen[api.Fixed] == 0 || seen[api.Bad] == 0 {
		t.Errorf("P14.1: statuses of three turned bits: %v", seen)
	}
}

// P14.1: a Write over a register with one turned bit, each of them, and with two: it is Good then, and what was written.
func TestWriteOverTurnedBits(t *testing.T) {
	numbers := scattered()
	f := filled(t, numbers)
	for bit := range allBits {
		i, other := 1+bit/codeBits, bit/codeBits*codeBits+(bit+7)%codeBits
		flip(t, f, bit)
		numbers[i] += 0x01010101
		wantWrite(t, f, i, numbers[i], true)
		wantRead(t, f, i, numbers[i], api.Good)
		flip(t, f, bit, other)
		numbers[i] ^= 0xffff
		wantWrite(t, f, i, numbers[i], true)
		wantRead(t, f, i, numbers[i], api.Good)
		wantAll(t, f, numbers)
	}
	wantClean(t, f, numbers)
}

// P14.1: a Write leaves the turned bits of other registers alone.
func TestWriteBesideTurnedBits(t *testing.T) {
	numbers := scattered()
	f := filled(t, numbers)
	for i := 2; i < 31; i++ {
		flip(t, f, bitOf(i-1, 38), bitOf(i+1, 0))
		wantWrite(t, f, i, ^numbers[i], true)
		wantRead(t, f, i-1, numbers[i-1], api.Fixed)
		wantRead(t, f, i+1, numbers[i+1], api.Fixed)
		wantWrite(t, f, i, numbers[i], true)
	}
	wantClean(t, f, numbers)
}

// P14.1: Scrub is of one register a call, from register 1 on, and round behind register 31; those that it does not meet keep their turned bits.
func TestScrubGoesRound(t *testing.T) {
	numbers := scattered()
	for calls := range 70 {
		f := filled(t, numbers)
		scrubs(t, f, calls)
		for i := 1; i < 32; i++ {
			flip(t, f, bitOf(i, (i+calls)%codeBits))
		}
		wantScrubs(t, f, api.Fixed, api.Fixed)
		for i := 1; i < 32; i++ {
			status := api.Fixed
			if i == 1+calls%31 || i == 1+(calls+1)%31 {
				status = api.Good
			}
			wantRead(t, f, i, numbers[i], status)
		}
		wantClean(t, f, numbers)
		wantNext(t, f, 1+(calls+2)%31)
	}
}

// P14.1: Scrub's statuses, over three rounds: a bit turned ahead of it is met, one turned behind it a round later; a Bad register is told each round and does not hold it up.
func TestScrubStatuses(t *testing.T) {
	numbers := scattered()
	f := filled(t, numbers)
	flip(t, f, bitOf(1, 3), bitOf(3, 38), bitOf(31, 0), bitOf(30, 7), bitOf(30, 36))
	wantScrubs(t, f, api.Fixed, api.Good, api.Fixed)
	flip(t, f, bitOf(3, 1), bitOf(4, 0))
	wantScrubs(t, f, api.Fixed)
	scrubs(t, f, 25)
	wantScrubs(t, f, api.Bad, api.Fixed)
	wantScrubs(t, f, api.Good, api.Good, api.Fixed)
	scrubs(t, f, 26)
	wantScrubs(t, f, api.Bad, api.Good)
	wantNoAll(t, f)
	wantWrite(t, f, 30, numbers[30], true)
	scrubs(t, f, 31)
	wantClean(t, f, numbers)
	wantNext(t, f, 1)
}

// P14.1, W2: what Scrub met is mended in its place, each bit of each register: a bit that is turned there later is mended again.
func TestScrubMendsEachBit(t *testing.T) {
	numbers := scattered()
	f := filled(t, numbers)
	for k := range codeBits {
		for i := 1; i < 32; i++ {
			flip(t, f, bitOf(i, k))
			wantScrubs(t, f, api.Fixed)
			wantRead(t, f, i, numbers[i], api.Good)
			flip(t, f, bitOf(i, (k+1)%codeBits))
			wantRead(t, f, i, numbers[i], api.Fixed)
		}
	}
	wantClean(t, f, numbers)
}

// P14.1: nothing but Scrub moves the place where it goes on: each call stands between two of them, right, wrong and beside turned bits.
func TestOtherCallsDoNotMoveScrub(t *testing.T) {
	numbers := scattered()
	f := filled(t, numbers)
	for round := range 3 {
		for i := 1; i < 32; i++ {
			k := (i*5 + round) % 31
			wantRead(t, f, k, numbers[k], api.Good)
			wantWrite(t, f, k, numbers[k], true)
			flip(t, f, bitOf(i, k), bitOf(k+1, 38))
			if k+1 != i {
				wantRead(t, f, k+1, numbers[k+1], api.Fixed)
			} else {
				flip(t, f, bitOf(i, 38))
			}
			wantRead(t, f, 32, 0, api.Bad)
			wantWrite(t, f, -1, 0, false)
			wantAll(t, f, numbers)
			if f.Flip(allBits) || f.Bits() != allBits {
				t.Errorf("P14.1: Flip(%d), Bits %d", allBits, f.Bits())
			}
			wantScrubs(t, f, api.Fixed)
		}
	}
	wantClean(t, f, numbers)
	wantNext(t, f, 1)
}

// P14.1: Flip turns a bit of Bits, a second time back, and of no such bit none.
func TestFlip(t *testing.T) {
	numbers := scattered()
	f := filled(t, numbers)
	for _, bit := range []int{
		-1, -2, -38, -39, -40, -allBits, allBits, allBits + 1, allBits + 38, allBits + 39, allBits + 64, 2 * allBits, 32 * 64, 79 * 39,
		math.MaxInt32, math.MaxInt32 + 1, 1 << 32, 1<<32 + 1, math.MaxInt - 1, math.MaxInt, math.MinInt32, -1 << 32, 1 - 1<<32, math.MinInt, math.MinInt + 1,
	} {
		if f.Flip(bit) {
			t.Errorf("P14.1: Flip(%d): true", bit)
		}
		wantAll(t, f, numbers)
	}
	wantClean(t, f, numbers)
	for bit := range allBits {
		flip(t, f, bit, bit)
	}
	wantClean(t, f, numbers)
	flip(t, f, 0, allBits-1)
	if f.Bits() != allBits {
		t.Errorf("P14.1: Bits: %d, want %d", f.Bits(), allBits)
	}
	wantRead(t, f, 1, numbers[1], api.Fixed)
	wantRead(t, f, 31, numbers[31], api.Fixed)
	wantClean(t, f, numbers)
}

// P14.1: All tells a register with a turned bit as mended, and mends it not: its Read is Fixed still, and a second bit turned there makes it Bad.
func TestAllPeeks(t *testing.T) {
	numbers := scattered()
	f := filled(t, numbers)
	for bit := range allBits {
		i, other := 1+bit/codeBits, bit/codeBits*codeBits+(bit+1)%codeBits
		flip(t, f, bit)
		wantAll(t, f, numbers)
		wantAll(t, f, numbers)
		flip(t, f, other)
		wantNoAll(t, f)
		flip(t, f, bit)
		wantAll(t, f, numbers)
		wantRead(t, f, i, numbers[i], api.Fixed)
		wantRead(t, f, i, numbers[i], api.Good)
	}
	wantClean(t, f, numbers)
	wantNext(t, f, 1)
}

// P14.1: All with a bit turned in each register is whole; with one Bad register among them, whichever it is, it is zeros and false.
func TestAllOfTurnedBits(t *testing.T) {
	numbers := scattered()
	f := filled(t, numbers)
	for i := 1; i < 32; i++ {
		flip(t, f, bitOf(i, i))
	}
	wantAll(t, f, numbers)
	for i := 1; i < 32; i++ {
		flip(t, f, bitOf(i, i+1))
		wantNoAll(t, f)
		flip(t, f, bitOf(i, i+1))
		wantAll(t, f, numbers)
	}
	for i := 1; i < 32; i++ {
		wantRead(t, f, i, numbers[i], api.Fixed)
	}
	wantClean(t, f, numbers)
}

// R2: what All answers is the caller's own.
func TestAllIsNew(t *testing.T) {
	numbers := scattered()
	f := filled(t, numbers)
	all, _ := f.All()
	for i := range all {
		all[i] = 99
	}
	wantClean(t, f, numbers)
	kept, _ := f.All()
	wantWrite(t, f, 7, 5, true)
	if kept != numbers {
		t.Error("R2: All keeps up with a later Write")
	}
}

// P14.1: files share nothing: not registers, not turned bits, not the place of the Scrub.
func TestFilesAreApart(t *testing.T) {
	numbers := scattered()
	a, b := filled(t, numbers), New()
	wantClean(t, b, [32]uint32{})
	flip(t, a, bitOf(5, 5))
	wantWrite(t, a, 6, 1, true)
	scrubs(t, a, 3)
	wantClean(t, b, [32]uint32{})
	wantNext(t, b, 1)
	flip(t, b, bitOf(7, 0), bitOf(7, 1))
	wantRead(t, a, 5, numbers[5], api.Fixed)
	numbers[6] = 1
	wantClean(t, a, numbers)
	wantNext(t, a, 4)
	wantNoAll(t, b)
}

// R3: what is refused has changed nothing that a call can tell later: of two files one is asked all of it, and both go on alike.
func TestRefusedChangesNothing(t *testing.T) {
	numbers := scattered()
	asked, spared := filled(t, numbers), filled(t, numbers)
	for _, f := range []*File{asked, spared} {
		scrubs(t, f, 10)
		flip(t, f, bitOf(8, 0), bitOf(8, 38), bitOf(12, 3), bitOf(31, 9))
	}
	for _, i := range noRegisters() {
		wantRead(t, asked, i, 0, api.Bad)
		wantWrite(t, asked, i, 3, false)
	}
	for _, bit := range []int{-1, allBits, math.MinInt, math.MaxInt} {
		if asked.Flip(bit) {
			t.Errorf("P14.1: Flip(%d): true", bit)
		}
	}
	wantNoAll(t, asked)
	wantRead(t, asked, 8, numbers[8]^1, api.Bad)
	for _, f := range []*File{asked, spared} {
		wantRead(t, f, 8, numbers[8]^1, api.Bad)
		wantNoAll(t, f)
		wantScrubs(t, f, api.Good, api.Fixed, api.Good)
		flip(t, f, bitOf(8, 38))
		wantRead(t, f, 8, numbers[8], api.Fixed)
		wantRead(t, f, 31, numbers[31], api.Fixed)
		wantClean(t, f, numbers)
		wantNext(t, f, 14)
	}
}

// plain: the chapter's words once more, with the code words in plain sight; word 0 is never looked at.
type plain struct {
	words [32]uint64
	next  int
}

func (p *plain) read(i int) (uint32, int) {
	if i == 0 {
		return 0, api.Good
	}
	if i < 0 || i > 31 {
		return 0, api.Bad
	}
	n, status := hsiao.Decode(p.words[i])
	if status == api.Fixed {
		p.words[i] = hsiao.Encode(n)
	}
	return n, status
}

func (p *plain) write(i int, n uint32) bool {
	if i < 0 || i > 31 {
		return false
	}
	p.words[i] = hsiao.Encode(n)
	return true
}

func (p *plain) scrub() int {
	p.next = p.next%31 + 1
	_, status := p.read(p.next)
	return status
}

func (p *plain) flip(bit int) bool {
	if bit < 0 || bit >= allBits {
		return false
	}
	p.words[1+bit/codeBits] ^= 1 << (bit % codeBits)
	return true
}

func (p *plain) all() ([32]uint32, bool) {
	var all [32]uint32
	for i := 1; i < 32; i++ {
		n, status := hsiao.Decode(p.words[i])
		if status == api.Bad {
			return [32]uint32{}, false
		}
		all[i] = n
	}
	return all, true
}

// P14.1: long runs of all calls, scattered, right and wrong numbers among them, against the plain registers.
func TestScatteredCalls(t *testing.T) {
	source := rand.New(rand.NewSource(1414))
	f, p := New(), &plain{}
	seen := map[int]int{}
	for range 60000 {
		i, bit := source.Intn(36)-2, source.Intn(allBits+20)-10
		switch source.Intn(6) {
		case 0:
			n, status := p.read(i)
			seen[status]++
			wantRead(t, f, i, n, status)
		case 1:
			n := source.Uint32()
			wantWrite(t, f, i, n, p.write(i, n))
		case 2, 3:
			status := p.scrub()
			seen[10+status]++
			wantScrubs(t, f, status)
		case 4:
			if p.flip(bit) {
				flip(t, f, bit)
			} else if f.Flip(bit) {
				t.Errorf("P14.1: Flip(%d): true", bit)
			}
		case 5:
			all, ok := p.all()
			if ok {
				seen[20]++
				wantAll(t, f, all)
			} else {
				seen[21]++
				wantNoAll(t, f)
			}
		}
		if t.Failed() {
			t.FailNow()
		}
	}
	for _, kind := range []int{api.Good, api.Fixed, api.Bad, 10 + api.Good, 10 + api.Fixed, 10 + api.Bad, 20, 21} {
		if seen[kind] < 100 {
			t.Errorf("the calls are too tame: %v", seen)
		}
	}
}

// program writes all registers, round and round, each from two others, tries register 0, tells one and halts.
func program(t *testing.T) []uint32 {
	t.Helper()
	steps := []api.Inst{{Op: api.Addi, Rd: 1, Imm: 20}, {Op: api.Addi, Rd: 2, Imm: -77}}
	for i := 3; i < 32; i++ {
		op := []int{api.Add, api.Sub, api.Xor, api.Mul}[i%4]
		steps = append(steps, api.Inst{Op: op, Rd: i, Rs1: i - 1, Rs2: i - 2})
	}
	steps = append(steps,
		api.Inst{Op: api.Add, Rs1: 31, Rs2: 30},
		api.Inst{Op: api.Sw, Rs2: 31, Imm: 1024},
		api.Inst{Op: api.Lh, Rd: 2, Imm: 1026},
		api.Inst{Op: api.Addi, Rd: 1, Rs1: 1, Imm: -1},
		api.Inst{Op: api.Bne, Rs1: 1, Imm: -4 * 33},
		api.Inst{Op: api.Lui, Rd: 4, Imm: api.Port},
		api.Inst{Op: api.Sw, Rs1: 4, Rs2: 31},
		api.Inst{Op: api.Sw, Rs1: 4, Imm: 4},
	)
	var image []uint32
	for _, i := range steps {
		w, ok := encode.Encode(i)
		if !ok {
			t.Fatalf("no word of %v", i)
		}
		image = append(image, w)
	}
	return image
}

// read holds the Reads of an instruction's registers against the model's, and answers how many were Fixed.
func read(t *testing.T, f *File, i api.Inst, numbers [32]uint32) int {
	t.Helper()
	var from []int
	one, two := decode.Reads(i)
	if one {
		from = append(from, i.Rs1)
	}
	if two {
		from = append(from, i.Rs2)
	}
	fixed := 0
	for _, k := range from {
		n, status := f.Read(k)
		if n != numbers[k] || status == api.Bad {
			t.Fatalf("W1, W2: Read(%d): %#x, %d, want %#x", k, n, status, numbers[k])
		}
		if status == api.Fixed {
			fixed++
		}
	}
	return fixed
}

// follow runs the program with the file's registers beside the model's: what an instruction reads is read from them, what is retired is written to them, and of a step that writes none something is written to register 0.
// upset comes ahead of each step. It answers how many Reads were Fixed.
func follow(t *testing.T, image []uint32, f *File, upset func(step int)) int {
	t.Helper()
	machine, _ := model.New(image)
	fixed := 0
	for step := 0; ; step++ {
		upset(step)
		numbers := machine.State().Regs
		done, ok := machine.Step()
		if !ok {
			break
		}
		i, _ := decode.Decode(image[done.PC/4])
		fixed += read(t, f, i, numbers)
		value := done.Value
		if done.Rd == 0 {
			value = math.MaxUint32
		}
		wantWrite(t, f, done.Rd, value, true)
		if all, ok := f.All(); all != machine.State().Regs || !ok {
			t.Fatalf("step %d: registers are not the model's: %v", step, ok)
		}
	}
	if told := machine.Trace(); machine.Steps() != 2+20*34+3 || len(told) != 1 || told[0] != machine.State().Regs[31] {
		t.Fatalf("the program is another one: %d steps, %x told", machine.Steps(), told)
	}
	return fixed
}

// W1, W5: without turned bits the registers follow a program as the model's do, scrubbed or not, and nothing is mended.
func TestFollowsAProgram(t *testing.T) {
	image := program(t)
	f := New()
	fixed := follow(t, image, f, func(step int) { scrubs(t, f, step%3) })
	if fixed != 0 {
		t.Errorf("W5: %d Reads were Fixed", fixed)
	}
}

// W2, W5: likewise with bits turned one at a time, a round of Scrubs or more between them, whichever bit it is; no bit is mended twice.
func TestFollowsAProgramWithTurnedBits(t *testing.T) {
	image := program(t)
	for turn := range 80 {
		f := New()
		turned, fixed := 0, 0
		fixed += follow(t, image, f, func(step int) {
			if step%40 == turn%40 {
				flip(t, f, (turn*401+turned*7919)%allBits)
				turned++
			}
			status := f.Scrub()
			if status == api.Bad {
				t.Fatalf("W2: step %d: a Scrub is Bad", step)
			}
			if status == api.Fixed {
				fixed++
			}
		})
		if turned < 17 || fixed == 0 || fixed > turned {
			t.Errorf("W5: %d bits turned, %d mended", turned, fixed)
		}
	}
}
