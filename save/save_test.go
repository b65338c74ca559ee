package save

import (
	"math"
	"math/rand"
	"testing"

	"dioscuri/api"
	"dioscuri/encode"
	"dioscuri/hsiao"
	"dioscuri/model"
)

const (
	codeBits  = 39
	copyWords = 39
	tellsAt   = 78
	allWords  = 79
	allBits   = allWords * codeBits
)

// told: what a Load answers.
type told struct {
	pc   uint32
	regs [32]uint32
	csrs [5]uint32
	n    int
	ok   bool
}

// none: what a Load answers where there is nothing to be told.
var none = told{}

// zeros: what a Load answers of a new store.
var zeros = told{ok: true}

// scattered: a checkpoint of which no part is 0 but register 0, and no part of one is that of another one.
func scattered(k int) told {
	source := rand.New(rand.NewSource(int64(1700 + k)))
	p := told{pc: source.Uint32() | 4, n: int(source.Int31()) | 1, ok: true}
	for i := 1; i < 32; i++ {
		p.regs[i] = source.Uint32() | 1<<i
	}
	for i := range p.csrs {
		p.csrs[i] = source.Uint32() | 1<<i
	}
	return p
}

// edges: numbers at the ends, each single bit, and each bit missing.
func edges() []uint32 {
	all := []uint32{0, 5, 0x55555555, 0xaaaaaaaa, 0x5afe0000, math.MaxUint32}
	for bit := range 32 {
		all = append(all, 1<<bit, ^(uint32(1) << bit))
	}
	return all
}

// noBits: below 0, from Bits on, and numbers that would be a bit if fewer of their bits were looked at.
func noBits() []int {
	return []int{
		-1, -2, -39, -allBits, -allBits - 1, allBits, allBits + 1, allBits + 38, 2 * allBits, 1 << 16,
		math.MaxInt32, math.MaxInt32 + 1, 1 << 32, 1<<32 + 1, math.MaxInt - 1, math.MaxInt,
		math.MinInt32, -1 << 32, 1 - 1<<32, math.MinInt, math.MinInt + 1,
	}
}

func put(s *Store, p told) {
	s.Save(p.pc, p.regs, p.csrs, p.n)
}

func get(s *Store) told {
	var p told
	p.pc, p.regs, p.csrs, p.n, p.ok = s.Load()
	return p
}

// saved: a store with Saves of these, one behind the other.
func saved(points ...told) *Store {
	s := New()
	for _, p := range points {
		put(s, p)
	}
	return s
}

// bitOf: of the bits of word w the one at place k.
func bitOf(w, k int) int {
	return codeBits*w + k
}

// flip turns bits that there are.
func flip(t *testing.T, s *Store, bits ...int) {
	t.Helper()
	for _, bit := range bits {
		if !s.Flip(bit) {
			t.Fatalf("P17.1: Flip(%d): false", bit)
		}
	}
}

// spoil turns two bits of a word, so that it is Bad, and its data are what they were.
func spoil(t *testing.T, s *Store, w int) {
	t.Helper()
	flip(t, s, bitOf(w, 33), bitOf(w, 36))
}

// rewrite turns as many bits of word w as make another word's data of its: bits of the data are changed, and no status tells it.
func rewrite(t *testing.T, s *Store, w int, change uint32) {
	t.Helper()
	bits := hsiao.Encode(0) ^ hsiao.Encode(change)
	for k := range codeBits {
		if bits>>k&1 != 0 {
			flip(t, s, bitOf(w, k))
		}
	}
}

func wantLoad(t *testing.T, s *Store, want told) {
	t.Helper()
	if got := get(s); got != want {
		t.Errorf("P17.1: Load: %+v, want %+v", got, want)
	}
}

// wantScrubs holds as many Scrubs as there are statuses against them.
func wantScrubs(t *testing.T, s *Store, statuses ...int) {
	t.Helper()
	for k, status := range statuses {
		if got := s.Scrub(); got != status {
			t.Errorf("P17.1: Scrub %d of %d: %d, want %d", k+1, len(statuses), got, status)
		}
	}
}

// statuses: of each word, all Good but those that are named.
func statuses(status int, named ...int) [allWords]int {
	var all [allWords]int
	for _, w := range named {
		all[w] = status
	}
	return all
}

// wantRound holds a round of Scrubs, from word 0 on and back to it, against each word's status.
func wantRound(t *testing.T, s *Store, want [allWords]int) {
	t.Helper()
	wantScrubs(t, s, want[:]...)
}

// wantClean: it tells this, and no word of it has a turned bit.
func wantClean(t *testing.T, s *Store, want told) {
	t.Helper()
	wantRound(t, s, statuses(api.Good))
	wantLoad(t, s, want)
	wantRound(t, s, statuses(api.Good))
}

// wordsOf: which words of the row a copy has.
func wordsOf(which int) []int {
	var all []int
	for i := range copyWords {
		all = append(all, which*copyWords+i)
	}
	return all
}

// P17.1: the chapter's run and examples.
func TestChapter(t *testing.T) {
	s := New()
	wantLoad(t, s, zeros)
	if s.Bits() != 79*39 {
		t.Errorf("P17.1: Bits: %d, want 79 times 39", s.Bits())
	}
	p := scattered(1)
	put(s, p)
	wantLoad(t, s, p)
	flip(t, s, 1600)
	wantLoad(t, s, p)
}

// P17.1: a new store tells zeros, of either copy; the first is the latest, so that a bit of the second one is met by no Load.
func TestNew(t *testing.T) {
	wantClean(t, New(), zeros)
	for _, w := range wordsOf(0) {
		s := New()
		spoil(t, s, w)
		wantLoad(t, s, zeros)
		wantRound(t, s, statuses(api.Bad, w))
	}
	for _, w := range wordsOf(1) {
		s := New()
		spoil(t, s, w)
		wantLoad(t, s, zeros)
		flip(t, s, bitOf((w+1-copyWords)%copyWords+copyWords, 3), bitOf(w-copyWords, 5))
		wantLoad(t, s, zeros)
		want := statuses(api.Fixed, (w+1-copyWords)%copyWords+copyWords)
		want[w] = api.Bad
		wantRound(t, s, want)
	}
	s := New()
	rewrite(t, s, 0, 0x1234)
	wantLoad(t, s, told{pc: 0x1234, ok: true})
	spoil(t, s, 5)
	wantLoad(t, s, zeros)
}

// P17.1: each part is told where it was saved, and in no other place: PC, each register but register 0, each CSR.
func TestEachPart(t *testing.T) {
	for _, n := range edges() {
		s := New()
		hold := func(p told) {
			t.Helper()
			put(s, p)
			wantLoad(t, s, p)
		}
		hold(told{pc: n, ok: true})
		for i := 1; i < 32; i++ {
			p := zeros
			p.regs[i] = n
			hold(p)
		}
		for i := range 5 {
			p := zeros
			p.csrs[i] = n
			hold(p)
		}
		p := zeros
		p.regs[0] = n
		put(s, p)
		wantClean(t, s, zeros)
	}
}

// P17.1: register 0 is 0 whatever is handed in for it, and beside numbers in all other parts.
func TestRegisterZero(t *testing.T) {
	for k, n := range edges() {
		want := scattered(k)
		p := want
		p.regs[0] = n
		s := saved(p, p)
		wantClean(t, s, want)
		spoil(t, s, 0)
		wantLoad(t, s, want)
	}
}

// P17.1: n is held between 0 and 2^31 - 1.
func TestNumber(t *testing.T) {
	for _, c := range []struct{ n, want int }{
		{0, 0}, {1, 1}, {2, 2}, {0xffff, 0xffff}, {0x10000, 0x10000}, {0x12345678, 0x12345678},
		{math.MaxInt32 - 1, 0x7ffffffe}, {math.MaxInt32, 0x7fffffff}, {math.MaxInt32 + 1, 0x7fffffff},
		{math.MaxUint32, 0x7fffffff}, {math.MaxUint32 + 1, 0x7fffffff}, {1<<32 + 5, 0x7fffffff},
		{math.MaxInt - 1, 0x7fffffff}, {math.MaxInt, 0x7fffffff},
		{-1, 0}, {-2, 0}, {math.MinInt32, 0}, {math.MinInt32 - 1, 0}, {5 - 1<<32, 0}, {math.MinInt + 1, 0}, {math.MinInt, 0},
	} {
		want := scattered(7)
		p := want
		p.n, want.n = c.n, c.want
		s := saved(p)
		wantClean(t, s, want)
		put(s, p)
		wantClean(t, s, want)
	}
	for bit := range 31 {
		p := zeros
		p.n = 1 << bit
		wantClean(t, saved(p), p)
	}
}

// P17.1: in which word each part lies, as the chapter names them one behind the other: a word whose data are another word's is told in its place.
func TestWhichWord(t *testing.T) {
	p, older := scattered(1), scattered(2)
	for which, s := range []*Store{saved(older, p), saved(p, older, p)} {
		for w := range 38 {
			want := p
			switch {
			case w == 0:
				want.pc ^= 0x80010004
			case w < 32:
				want.regs[w] ^= 0x80010004
			case w < 37:
				want.csrs[w-32] ^= 0x80010004
			default:
				want = older
			}
			rewrite(t, s, copyWords*which+w, 0x80010004)
			wantLoad(t, s, want)
			rewrite(t, s, copyWords*which+w, 0x80010004)
			wantClean(t, s, p)
		}
	}
}

// P17.1: the words as they are kept: both copies with their marks, and which of them is the latest.
func TestWords(t *testing.T) {
	p := scattered(3)
	p.n = 0x2345abcd
	s := saved(p)
	for w := range copyWords {
		var first, second uint32
		switch {
		case w == 0:
			second = p.pc
		case w < 32:
			second = p.regs[w]
		case w < 37:
			second = p.csrs[w-32]
		case w == 37:
			second = 0x2345abcd
		case w == 38:
			first, second = 0x5afe0000, 0x5afeabcd
		}
		for which, want := range []uint32{first, second} {
			if got, status := s.row.Peek(copyWords*which + w); got != want || status != api.Good {
				t.Errorf("P17.1: word %d of copy %d: %#x, %d, want %#x", w, which, got, status, want)
			}
		}
	}
	for k := range 4 {
		if latest, _ := s.row.Peek(tellsAt); latest != uint32(1-k%2) {
			t.Errorf("P17.1: the latest behind %d Saves: %d", k+1, latest)
		}
		put(s, p)
	}
}

// P17.1: a mark that is not right though its word is Good, or Fixed: the other copy is told; where neither mark is right, none.
func TestMark(t *testing.T) {
	p, older := scattered(1), scattered(2)
	for _, mark := range []int{38, 77} {
		latest, other := p, older
		s := saved(older, p)
		if mark == 77 {
			latest, other = scattered(3), p
			put(s, latest)
		}
		for bit := range 32 {
			rewrite(t, s, mark, 1<<bit)
			wantLoad(t, s, other)
			flip(t, s, bitOf(mark, bit))
			wantLoad(t, s, other)
			rewrite(t, s, 115-mark, 1<<(31-bit))
			wantLoad(t, s, none)
			rewrite(t, s, mark, 1<<bit)
			wantLoad(t, s, latest)
			rewrite(t, s, 115-mark, 1<<(31-bit))
		}
		wantClean(t, s, latest)
	}
}

// P17.1: three bits of a mark that are mended to another word are no Bad word, and no mark.
func TestMarkOfThreeBits(t *testing.T) {
	p, older := scattered(1), scattered(2)
	seen := map[int]int{}
	for a := range codeBits {
		s := saved(older, p)
		b, c := (a+5)%codeBits, (a+11)%codeBits
		flip(t, s, bitOf(38, a), bitOf(38, b), bitOf(38, c))
		_, status := hsiao.Decode(1<<a ^ 1<<b ^ 1<<c)
		seen[status]++
		wantLoad(t, s, older)
		if status == api.Fixed {
			status = api.Good
		}
		wantRound(t, s, statuses(status, 38))
	}
	if seen[api.Fixed] == 0 || seen[api.Bad] == 0 {
		t.Errorf("P17.1: statuses of three turned bits: %v", seen)
	}
}

// P17.1: the mark is of the lowest sixteen bits of n as they are kept: another number above them is no matter, one in them is.
func TestMarkHangsOnNumber(t *testing.T) {
	p, older := scattered(1), scattered(2)
	for bit := range 31 {
		s := saved(older, p)
		rewrite(t, s, 37, 1<<bit)
		if bit < 16 {
			wantLoad(t, s, older)
			rewrite(t, s, 38, 1<<bit)
		}
		want := p
		want.n ^= 1 << bit
		wantLoad(t, s, want)
	}
}

// P17.1: many Saves one behind another: each is the latest then, and the one ahead of it is what the other copy has.
func TestManySaves(t *testing.T) {
	s, older := New(), zeros
	for k := range 40 {
		p := scattered(k)
		put(s, p)
		latest := wordsOf(1 - k%2)
		wantClean(t, s, p)
		w := latest[k%copyWords]
		spoil(t, s, w)
		wantLoad(t, s, older)
		wantLoad(t, s, older)
		spoil(t, s, w)
		wantClean(t, s, p)
		older = p
	}
}

// P17.1: what was saved ahead of the last Save but one is gone.
func TestThirdSaveIsOverTheFirst(t *testing.T) {
	s := saved(scattered(1), scattered(2), scattered(3))
	spoil(t, s, 50)
	wantLoad(t, s, scattered(2))
	spoil(t, s, 11)
	wantLoad(t, s, none)
	spoil(t, s, 50)
	wantLoad(t, s, scattered(3))
}

// P17.1, W2: each one bit that is turned, in a new store and behind one, two and three Saves: what was saved is told, again and again, and a Save behind it too.
func TestEachBit(t *testing.T) {
	points := []told{zeros, scattered(1), scattered(2), scattered(3)}
	for saves, p := range points {
		for bit := range allBits {
			s := saved(points[1 : saves+1]...)
			flip(t, s, bit)
			wantLoad(t, s, p)
			wantLoad(t, s, p)
			put(s, scattered(4))
			wantLoad(t, s, scattered(4))
			put(s, scattered(5))
			wantClean(t, s, scattered(5))
		}
	}
}

// P17.1: a bit that is turned in word 78 or in the latest copy is mended by a Load; in the other copy it is met by the Scrub alone.
func TestLoadMendsTheLatest(t *testing.T) {
	for saves, p := range []told{zeros, scattered(1), scattered(2)} {
		s := saved([]told{scattered(1), scattered(2)}[:saves]...)
		other := 1 - saves%2
		for bit := range allBits {
			w := bit / codeBits
			flip(t, s, bit)
			wantLoad(t, s, p)
			if w/copyWords == other {
				wantRound(t, s, statuses(api.Fixed, w))
			}
			wantRound(t, s, statuses(api.Good))
		}
		wantClean(t, s, p)
	}
}

// P17.1: a Load gets all words of the latest, one behind the other, and all of them are mended.
func TestLoadMendsAllWords(t *testing.T) {
	s := saved(scattered(1))
	for w := range allWords {
		flip(t, s, bitOf(w, w%codeBits))
	}
	wantLoad(t, s, scattered(1))
	wantRound(t, s, statuses(api.Fixed, wordsOf(0)...))
	wantClean(t, s, scattered(1))
}

// P17.1: with two bits turned in a word of the latest copy, whichever it is, the other copy is told, and all words but that one are mended.
func TestLatestIsBad(t *testing.T) {
	for saves := 1; saves < 4; saves++ {
		points := []told{zeros, scattered(1), scattered(2), scattered(3)}[:saves+1]
		for _, bad := range wordsOf(saves % 2) {
			s := saved(points[1:]...)
			for w := range allWords {
				if w != bad {
					flip(t, s, bitOf(w, (w+bad)%codeBits))
				}
			}
			spoil(t, s, bad)
			wantLoad(t, s, points[saves-1])
			wantRound(t, s, statuses(api.Bad, bad))
			wantLoad(t, s, points[saves-1])
			spoil(t, s, bad)
			wantClean(t, s, points[saves])
		}
	}
}

// P17.1: any two bits of a word of the latest make it Bad; turned back it is the latest again.
func TestEachPairOfBits(t *testing.T) {
	s := saved(scattered(1), scattered(2))
	for _, w := range []int{0, 17, 34, 37, 38} {
		for a := range codeBits {
			for b := range a {
				flip(t, s, bitOf(w, a), bitOf(w, b))
				wantLoad(t, s, scattered(1))
				flip(t, s, bitOf(w, a), bitOf(w, b))
				wantLoad(t, s, scattered(2))
			}
		}
	}
	wantClean(t, s, scattered(2))
}

// P17.1: where the latest's mark is not right, the other's words are got, all of them.
func TestMarkThatIsWrongGetsTheOther(t *testing.T) {
	s := saved(scattered(1), scattered(2))
	rewrite(t, s, 38, 1<<16)
	for w := range allWords {
		flip(t, s, bitOf(w, 20))
	}
	wantLoad(t, s, scattered(1))
	wantRound(t, s, statuses(api.Good))
}

// P17.1: with two bits turned in a word of each copy Load is false, with zeros; all the other words are mended, and a Save puts it right.
func TestBothAreBad(t *testing.T) {
	for first := range copyWords {
		second := copyWords + (first*5+7)%copyWords
		s := saved(scattered(1), scattered(2))
		for w := range allWords {
			if w != first && w != second {
				flip(t, s, bitOf(w, (w+first)%codeBits))
			}
		}
		spoil(t, s, first)
		spoil(t, s, second)
		wantLoad(t, s, none)
		wantLoad(t, s, none)
		wantRound(t, s, statuses(api.Bad, first, second))
		put(s, scattered(3))
		wantLoad(t, s, scattered(3))
		wantRound(t, s, statuses(api.Bad, first))
	}
}

// P17.1: with two bits turned in word 78, whichever they are, Load is false, with zeros, again and again; turned back it is what it was.
func TestWordThatTellsIsBad(t *testing.T) {
	for saves, p := range []told{zeros, scattered(1), scattered(2)} {
		s := saved([]told{scattered(1), scattered(2)}[:saves]...)
		for a := range codeBits {
			for b := range a {
				flip(t, s, bitOf(tellsAt, a), bitOf(tellsAt, b))
				wantLoad(t, s, none)
				wantLoad(t, s, none)
				flip(t, s, bitOf(tellsAt, a))
				wantLoad(t, s, p)
				wantRound(t, s, statuses(api.Good))
			}
		}
		wantClean(t, s, p)
	}
}

// P17.1: where word 78 is Bad a Load gets the words that it would get else: those of the latest, as the data tell it, and the other's where these do not do.
func TestLoadGetsBesideTheBadWord(t *testing.T) {
	for _, c := range []struct {
		saves, one, two, latest int
	}{
		{0, 33, 36, 0}, {0, 0, 1, 1}, {1, 33, 36, 1}, {1, 0, 38, 0}, {2, 1, 2, 0}, {2, 31, 0, 1},
	} {
		s := saved([]told{scattered(1), scattered(2)}[:c.saves]...)
		flip(t, s, bitOf(tellsAt, c.one), bitOf(tellsAt, c.two))
		for w := range tellsAt {
			flip(t, s, bitOf(w, 3))
		}
		wantLoad(t, s, none)
		want := statuses(api.Fixed, wordsOf(1-c.latest)...)
		want[tellsAt] = api.Bad
		wantRound(t, s, want)
		for w := range tellsAt {
			flip(t, s, bitOf(w, 4))
		}
		bad := copyWords*c.latest + 9
		flip(t, s, bitOf(bad, 5))
		wantLoad(t, s, none)
		wantRound(t, s, statuses(api.Bad, bad, tellsAt))
	}
}

// P17.1: a Save behind a Bad word 78 is over the copy that is not the latest as its data tell it, and is the latest then.
func TestSaveBehindTheBadWord(t *testing.T) {
	for _, c := range []struct {
		one, two int
		older    told
	}{{33, 36, scattered(2)}, {1, 30, scattered(2)}, {0, 1, scattered(1)}, {0, 32, scattered(1)}} {
		s := saved(scattered(1), scattered(2))
		flip(t, s, bitOf(tellsAt, c.one), bitOf(tellsAt, c.two))
		wantLoad(t, s, none)
		put(s, scattered(3))
		wantClean(t, s, scattered(3))
		latest := 1
		if c.older == scattered(1) {
			latest = 0
		}
		spoil(t, s, copyWords*latest+20)
		wantLoad(t, s, c.older)
	}
}

// P17.1: of word 78 the lowest bit counts alone, and a Save makes 0 or 1 of it.
func TestLowestBitTells(t *testing.T) {
	s := saved(scattered(1), scattered(2))
	for bit := 1; bit < 32; bit++ {
		rewrite(t, s, tellsAt, 1<<bit)
		wantClean(t, s, scattered(2))
	}
	rewrite(t, s, tellsAt, 1)
	wantClean(t, s, scattered(1))
	put(s, scattered(3))
	wantClean(t, s, scattered(3))
	spoil(t, s, 3)
	wantLoad(t, s, scattered(1))
	rewrite(t, s, tellsAt, 1)
	spoil(t, s, 3)
	wantClean(t, s, scattered(1))
}

// P17.1: three bits of word 78 are what Get makes of them: false, or one of both copies.
func TestWordThatTellsOfThreeBits(t *testing.T) {
	seen := map[told]int{}
	for a := range codeBits {
		for _, apart := range [][2]int{{5, 11}, {1, 2}, {7, 20}} {
			s := saved(scattered(1), scattered(2))
			b, c := (a+apart[0])%codeBits, (a+apart[1])%codeBits
			flip(t, s, bitOf(tellsAt, a), bitOf(tellsAt, b), bitOf(tellsAt, c))
			n, status := hsiao.Decode(hsiao.Encode(0) ^ 1<<a ^ 1<<b ^ 1<<c)
			want := scattered(2)
			if status == api.Bad {
				want = none
			} else if n&1 == 1 {
				want = scattered(1)
			}
			seen[want]++
			wantLoad(t, s, want)
			wantLoad(t, s, want)
		}
	}
	if len(seen) != 3 {
		t.Errorf("P17.1: %d kinds of answers of three turned bits", len(seen))
	}
}

// P17.1: a Save is over turned bits, one in each word and two, of the copy that it writes and of word 78; it leaves those of the latest.
func TestSaveOverTurnedBits(t *testing.T) {
	for saves := range 3 {
		s := saved([]told{scattered(1), scattered(2)}[:saves]...)
		for w := range allWords {
			flip(t, s, bitOf(w, (3*w)%codeBits))
			if w/copyWords == 1-saves%2 {
				flip(t, s, bitOf(w, (3*w+1)%codeBits))
			}
		}
		put(s, scattered(3))
		wantRound(t, s, statuses(api.Fixed, wordsOf(saves%2)...))
		wantClean(t, s, scattered(3))
	}
	s := saved(scattered(1), scattered(2))
	spoil(t, s, 11)
	put(s, scattered(3))
	wantLoad(t, s, scattered(3))
	wantRound(t, s, statuses(api.Bad, 11))
	put(s, scattered(4))
	wantClean(t, s, scattered(4))
}

// P17.1: Flip is of the bits that there are, word by word, and of no other; Bits is the same whatever was done.
func TestFlip(t *testing.T) {
	s := New()
	for _, c := range []struct{ bit, word int }{
		{0, 0}, {1, 0}, {38, 0}, {39, 1}, {77, 1}, {1482, 38}, {1520, 38}, {1521, 39}, {3003, 77}, {3041, 77}, {3042, 78}, {3080, 78},
	} {
		flip(t, s, c.bit)
		wantRound(t, s, statuses(api.Fixed, c.word))
	}
	wantClean(t, s, zeros)
	for bit := range allBits {
		flip(t, s, bit, bit)
	}
	put(s, scattered(1))
	for _, bit := range noBits() {
		if s.Flip(bit) {
			t.Errorf("P17.1: Flip(%d): true", bit)
		}
	}
	if s.Bits() != allBits {
		t.Errorf("P17.1: Bits behind all: %d", s.Bits())
	}
	wantClean(t, s, scattered(1))
}

// P17.1: Scrub is of one word a call, from word 0 on, and round behind word 78; those that it does not meet keep their turned bits.
func TestScrubGoesRound(t *testing.T) {
	for calls := range 2*allWords + 3 {
		s := saved(scattered(1))
		for range calls {
			wantScrubs(t, s, api.Good)
		}
		for w := range allWords {
			flip(t, s, bitOf(w, (w+calls)%codeBits))
		}
		wantScrubs(t, s, api.Fixed)
		next := (calls + 1) % allWords
		for w := next; w < next+allWords-1; w++ {
			flip(t, s, bitOf(w%allWords, (w+5)%codeBits), bitOf(w%allWords, (w%allWords+calls)%codeBits))
			wantScrubs(t, s, api.Fixed)
		}
		wantScrubs(t, s, api.Good)
		wantLoad(t, s, scattered(1))
	}
}

// P17.1: Scrub goes on behind a Bad word, and tells it each round till it is written over.
func TestScrubOfBadWords(t *testing.T) {
	for w := range allWords {
		s := saved(scattered(1))
		spoil(t, s, w)
		for range 2 {
			wantRound(t, s, statuses(api.Bad, w))
		}
		spoil(t, s, w)
		wantClean(t, s, scattered(1))
	}
	s := saved(scattered(1))
	for w := range allWords {
		spoil(t, s, w)
	}
	want := statuses(api.Bad, append(wordsOf(0), wordsOf(1)...)...)
	want[tellsAt] = api.Bad
	wantRound(t, s, want)
	wantRound(t, s, want)
	wantLoad(t, s, none)
}

// P17.1: where the next Scrub is hangs on Scrubs alone: neither a Load nor a Save nor a Flip moves it.
func TestScrubStaysBesideOtherCalls(t *testing.T) {
	s := saved(scattered(1))
	for w := range allWords + 10 {
		w %= allWords
		wantLoad(t, s, scattered(1))
		put(s, scattered(1))
		s.Flip(-1)
		s.Bits()
		flip(t, s, bitOf(w, 6))
		wantScrubs(t, s, api.Fixed)
	}
	wantLoad(t, s, scattered(1))
}

// P17.1: a word that a Load mended is Good to the Scrub, and one that a Scrub mended takes another turned bit.
func TestScrubBesideLoad(t *testing.T) {
	s := saved(scattered(1))
	flip(t, s, bitOf(0, 1), bitOf(39, 1), bitOf(78, 1))
	wantLoad(t, s, scattered(1))
	wantRound(t, s, statuses(api.Fixed, 0))
	for bit := range codeBits {
		for w := range allWords {
			flip(t, s, bitOf(w, bit))
			want := api.Fixed
			if w%2 == 0 && w >= copyWords {
				wantLoad(t, s, scattered(1))
				want = api.Good
			}
			wantScrubs(t, s, want)
		}
	}
	wantClean(t, s, scattered(1))
}

// R2: what was handed in, and what was told, is the caller's own: changed behind the call it changes no store, and no store changes it.
func TestArraysAreTheCallers(t *testing.T) {
	want := scattered(1)
	p := want
	s := New()
	put(s, p)
	for i := range p.regs {
		p.regs[i] = 99
	}
	p.csrs = [5]uint32{9, 9, 9, 9, 9}
	wantLoad(t, s, want)
	got := get(s)
	for i := range got.regs {
		got.regs[i] = 77
	}
	got.csrs[4] = 7
	wantLoad(t, s, want)
	kept := get(s)
	put(s, scattered(2))
	put(s, scattered(3))
	if kept != want || p.regs[5] != 99 || p.csrs[0] != 9 {
		t.Error("R2: what was told, or handed in, keeps up with a later Save")
	}
}

// P17.1: stores share nothing: not copies, not which is the latest, not turned bits, not the place of the Scrub.
func TestStoresAreApart(t *testing.T) {
	a, b := saved(scattered(1)), New()
	wantClean(t, b, zeros)
	wantScrubs(t, a, api.Good, api.Good, api.Good)
	flip(t, a, bitOf(3, 5), bitOf(44, 5))
	wantScrubs(t, a, api.Fixed)
	wantClean(t, b, zeros)
	put(b, scattered(2))
	put(b, scattered(3))
	spoil(t, b, 78)
	wantLoad(t, b, none)
	wantLoad(t, a, scattered(1))
	flip(t, a, bitOf(4, 5))
	wantScrubs(t, a, api.Fixed)
	spoil(t, b, 78)
	wantClean(t, b, scattered(3))
	wantLoad(t, a, scattered(1))
}

// R3: a Flip that is false has changed nothing that can be told later, and a Load that is false nothing but what it mended.
func TestRefusedChangesNothing(t *testing.T) {
	asked, spared := saved(scattered(1), scattered(2)), saved(scattered(1), scattered(2))
	for _, s := range []*Store{asked, spared} {
		wantScrubs(t, s, api.Good, api.Good)
		spoil(t, s, 7)
		spoil(t, s, 40)
	}
	for _, bit := range noBits() {
		if asked.Flip(bit) {
			t.Errorf("P17.1: Flip(%d): true", bit)
		}
		wantLoad(t, asked, none)
	}
	for _, s := range []*Store{asked, spared} {
		flip(t, s, bitOf(2, 9))
		wantScrubs(t, s, api.Fixed)
		spoil(t, s, 40)
		wantLoad(t, s, scattered(1))
		put(s, scattered(3))
		wantLoad(t, s, scattered(3))
		spoil(t, s, 40)
		wantLoad(t, s, none)
	}
}

// plain: the chapter's words once more, with the code words in plain sight.
type plain struct {
	words [allWords]uint64
	next  int
}

func newPlain() *plain {
	p := &plain{}
	for w := range p.words {
		p.words[w] = hsiao.Encode(0)
	}
	p.words[38], p.words[77] = hsiao.Encode(0x5afe0000), hsiao.Encode(0x5afe0000)
	return p
}

func (p *plain) get(w int) (uint32, int) {
	n, status := hsiao.Decode(p.words[w])
	if status == api.Fixed {
		p.words[w] = hsiao.Encode(n)
	}
	return n, status
}

func (p *plain) save(x told) {
	latest, _ := p.get(tellsAt)
	from := 39 * int(1-latest&1)
	n := x.n
	if n < 0 {
		n = 0
	}
	if n > 1<<31-1 {
		n = 1<<31 - 1
	}
	all := append([]uint32{x.pc}, x.regs[1:]...)
	all = append(all, x.csrs[:]...)
	all = append(all, uint32(n), 0x5afe0000+uint32(n%65536))
	for i, m := range all {
		p.words[from+i] = hsiao.Encode(m)
	}
	p.words[tellsAt] = hsiao.Encode(1 - latest&1)
}

// copied: a copy as it is got, and whether it does.
func (p *plain) copied(which int) (told, bool) {
	var all [39]uint32
	ok := true
	for i := range all {
		n, status := p.get(39*which + i)
		all[i] = n
		if status == api.Bad {
			ok = false
		}
	}
	x := told{pc: all[0], n: int(all[37]), ok: true}
	for i := 1; i < 32; i++ {
		x.regs[i] = all[i]
	}
	for i := range 5 {
		x.csrs[i] = all[32+i]
	}
	return x, ok && all[38] == 0x5afe0000+all[37]%65536
}

// load answers what Load must, and by which way it came to it.
func (p *plain) load() (told, string) {
	n, status := p.get(tellsAt)
	latest := int(n & 1)
	x, ok := p.copied(latest)
	way := "latest"
	if !ok {
		x, ok = p.copied(1 - latest)
		way = "other"
	}
	if status == api.Bad {
		return none, "which is Bad, " + way
	}
	if !ok {
		return none, "neither"
	}
	return x, way
}

func (p *plain) scrub() int {
	_, status := p.get(p.next)
	p.next = (p.next + 1) % allWords
	return status
}

// P17.1: long runs of all calls, scattered, right and wrong numbers among them, against the plain words.
// Saves and Flips are rare in turn, so that there are turned bits of all numbers.
func TestScatteredCalls(t *testing.T) {
	source := rand.New(rand.NewSource(1717))
	s, p := New(), newPlain()
	scrubbed, ways := map[int]int{}, map[string]int{}
	for k := range 60000 {
		rare := k/400%3*8 + 2
		switch kind := source.Intn(rare + 8); {
		case kind == 0:
			x := scattered(k)
			x.n = int(source.Uint64()) >> source.Intn(64)
			x.regs[0] = source.Uint32()
			p.save(x)
			put(s, x)
		case kind < rare:
			bit := source.Intn(allBits+20) - 10
			if source.Intn(8) == 0 {
				bit = bitOf(tellsAt, source.Intn(codeBits))
			}
			there := bit >= 0 && bit < allBits
			if there {
				p.words[bit/codeBits] ^= 1 << (bit % codeBits)
			}
			if got := s.Flip(bit); got != there {
				t.Errorf("P17.1: Flip(%d): %v", bit, got)
			}
		case kind < rare+3:
			status := p.scrub()
			scrubbed[status]++
			wantScrubs(t, s, status)
		default:
			x, way := p.load()
			ways[way]++
			wantLoad(t, s, x)
		}
		if t.Failed() {
			t.FailNow()
		}
	}
	if len(scrubbed) != 3 || len(ways) != 5 {
		t.Errorf("the calls are too tame: %v, %v", scrubbed, ways)
	}
	for way, n := range ways {
		if n < 100 {
			t.Errorf("the calls are too tame: %s %d times", way, n)
		}
	}
}

// R4: the same calls are answered the same each time.
func TestSameEachTime(t *testing.T) {
	run := func() (loads []told, scrubs []int) {
		source := rand.New(rand.NewSource(4))
		s := New()
		for k := range 600 {
			flip(t, s, source.Intn(allBits))
			scrubs = append(scrubs, s.Scrub())
			loads = append(loads, get(s))
			if k%5 == 0 {
				put(s, scattered(k))
			}
		}
		return loads, scrubs
	}
	loads, scrubs := run()
	for range 3 {
		again, too := run()
		for k := range loads {
			if again[k] != loads[k] || too[k] != scrubs[k] {
				t.Fatalf("R4: call %d is answered otherwise", k)
			}
		}
	}
}

// R1: no call panics, whatever it is given, and whatever bits are turned.
func TestNoPanic(t *testing.T) {
	for _, n := range []int{math.MinInt, -1, 0, math.MaxInt32, math.MaxInt} {
		s := New()
		for bit := range allBits {
			s.Flip(bit)
			if bit%97 == 0 {
				s.Load()
				s.Scrub()
			}
		}
		s.Load()
		all := [32]uint32{}
		for i := range all {
			all[i] = math.MaxUint32
		}
		s.Save(math.MaxUint32, all, [5]uint32(all[:5]), n)
		for _, bit := range noBits() {
			s.Flip(bit)
		}
		for range 3 * allWords {
			s.Scrub()
		}
		s.Load()
	}
}

// program counts down, changes registers and CSRs, falls into traps and comes back, tells words, and halts.
func program(t *testing.T) []uint32 {
	t.Helper()
	var image []uint32
	for _, i := range []api.Inst{
		{Op: api.Addi, Rd: 1, Imm: 40},
		{Op: api.Addi, Rd: 2, Imm: 64},
		{Op: api.Csrrw, Rs1: 2, Imm: api.Mtvec},
		{Op: api.Lui, Rd: 3, Imm: api.Port},
		{Op: api.Csrrs, Rd: 4, Rs1: 1, Imm: api.Mscratch},
		{Op: api.Mul, Rd: 5, Rs1: 1, Rs2: 1},
		{Op: api.Ecall},
		{Op: api.Sw, Rs1: 3, Rs2: 5},
		{Op: api.Csrrc, Rd: 6, Rs1: 5, Imm: api.Mscratch},
		{Op: api.Lw, Rd: 7, Rs1: 1, Imm: 2},
		{Op: api.Addi, Rd: 1, Rs1: 1, Imm: -1},
		{Op: api.Bne, Rs1: 1, Imm: -4 * 7},
		{Op: api.Sw, Rs1: 3, Rs2: 1, Imm: 4},
		{Op: api.Fence},
		{Op: api.Fence},
		{Op: api.Fence},
		{Op: api.Csrrs, Rd: 8, Imm: api.Mepc},
		{Op: api.Csrrs, Rd: 9, Imm: api.Mcause},
		{Op: api.Add, Rd: 10, Rs1: 10, Rs2: 9},
		{Op: api.Addi, Rd: 8, Rs1: 8, Imm: 4},
		{Op: api.Csrrw, Rs1: 8, Imm: api.Mepc},
		{Op: api.Mret},
	} {
		w, ok := encode.Encode(i)
		if !ok {
			t.Fatalf("no word of %v", i)
		}
		image = append(image, w)
	}
	return image
}

func started(t *testing.T, image []uint32) *model.Machine {
	t.Helper()
	m, why := model.New(image)
	if why != api.OK {
		t.Fatalf("model.New: %d", why)
	}
	return m
}

// meant is what the model is behind each of its steps, that ahead of the first among them.
func meant(t *testing.T, image []uint32) []told {
	t.Helper()
	m := started(t, image)
	var all []told
	for len(all) < 10000 {
		state := m.State()
		all = append(all, told{state.PC, state.Regs, state.Csrs, m.Steps(), true})
		if _, ok := m.Step(); !ok {
			return all
		}
	}
	t.Fatal("the program goes on and on")
	return nil
}

// W1: a checkpoint behind each step is the model's at that step, and without turned bits nothing is mended.
func TestFollowsAProgram(t *testing.T) {
	points := meant(t, program(t))
	s := New()
	for k, p := range points {
		put(s, p)
		wantLoad(t, s, p)
		wantScrubs(t, s, api.Good)
		if p.n != k {
			t.Fatalf("W1: step %d is %d", k, p.n)
		}
	}
	if last := points[len(points)-1]; len(points) < 500 || last.csrs[2] == 0 || last.csrs[3] == 0 || last.regs[10] == 0 {
		t.Fatalf("the program is another one: %d steps, %+v", len(points), last)
	}
}

// W2, W5: likewise with bits turned one at a time, a round of Scrubs or more between them, whichever bit it is and whether or not a Load or a Save is between; no bit is mended twice.
func TestFollowsAProgramWithTurnedBits(t *testing.T) {
	points := meant(t, program(t))
	for turn := range 200 {
		s := New()
		every := 1 + turn%7
		turned, fixed := 0, 0
		latest := zeros
		for k := range 12 * allWords {
			if k%allWords == turn%allWords {
				flip(t, s, (turn*401+turned*1013)%allBits)
				turned++
			}
			if k%every == 0 {
				latest = points[(k/every)%len(points)]
				put(s, latest)
			}
			if k%3 == turn%3 {
				wantLoad(t, s, latest)
			}
			status := s.Scrub()
			if status == api.Bad {
				t.Fatalf("W2: step %d: a Scrub is Bad", k)
			}
			fixed += status
		}
		if turned != 12 || fixed > turned {
			t.Errorf("W5: %d bits turned, %d mended by Scrubs", turned, fixed)
		}
		if t.Failed() {
			t.FailNow()
		}
	}
}

// W2: a run that goes back to what the store tells, now and then, with bits turned in the store, comes to the model's end.
func TestGoesBack(t *testing.T) {
	image := program(t)
	points := meant(t, image)
	last := points[len(points)-1]
	for turn := range 30 {
		s, at, backs := New(), 0, 0
		for k := 0; at < len(points)-1 && k < 20*len(points); k++ {
			if k%allWords == 0 {
				flip(t, s, (turn*977+k*13)%allBits)
			}
			if k%(11+turn) == 10 {
				p := get(s)
				if !p.ok || p.n > at || p != points[p.n] {
					t.Fatalf("W2: back from %d to %+v", at, p)
				}
				at = p.n
				backs++
			}
			at++
			if at%(turn%4+1) == 0 || at == len(points)-1 {
				put(s, points[at])
			}
			if status := s.Scrub(); status == api.Bad {
				t.Fatalf("W2: step %d: a Scrub is Bad", k)
			}
		}
		if at != len(points)-1 || backs < 10 {
			t.Errorf("W2: turn %d: at %d of %d, %d times back", turn, at, len(points)-1, backs)
		}
		wantLoad(t, s, last)
	}
}
