package trap

import (
	"math"
	"math/rand"
	"testing"

	"dioscuri/api"
)

const (
	last = 4096 - 4 // the last word of memory: 4 times Words is written out here
	past = 4096
	port = 0x10000000
	halt = 0x10000004
	half = 1 << 31
	all  = math.MaxUint32
)

// loadSizes, storeSizes: each load and each store, and how many bytes it moves.
var (
	loadSizes  = map[int]uint32{api.Lb: 1, api.Lbu: 1, api.Lh: 2, api.Lhu: 2, api.Lw: 4}
	storeSizes = map[int]uint32{api.Sb: 1, api.Sh: 2, api.Sw: 4}
)

// places: each place of a word at the beginning, at the end of memory, around the devices, where a sign would turn, at the end of all;
// and addresses that are one of these but for a high bit, which a narrower number would lose.
func places() []uint32 {
	var out []uint32
	for n := range uint32(8) {
		out = append(out, n, last-4+n, past+n, port-8+n, port+n, halt+4+n, half-8+n, half+n, all-7+n)
		out = append(out, 2*past+n, 1<<16+n, 1<<24+n, half+last+n, half+port+n, 2*port+n)
	}
	return out
}

// others: ops that are neither load nor store, and numbers that are no op, of any size.
func others() []int {
	out := []int{
		math.MinInt, math.MinInt + api.Lw, math.MinInt + api.Sw, math.MinInt32 - 1, math.MinInt32, -1 << 16, -api.Lb, -api.Lw, -api.Sb, -api.Sw, -2, -1, 0,
		api.Csrrci + 1, api.Csrrci + 2, 64, 64 + api.Lb, 64 + api.Sw, 128 + api.Lh, 256 + api.Lb, 256 + api.Sw, 1<<16 + api.Lw, 1<<16 + api.Sb, 1<<32 + api.Lw, 1<<32 + api.Sw,
		math.MaxInt32, math.MaxInt32 + 1, math.MaxInt - 1, math.MaxInt,
	}
	for op := api.Lui; op <= api.Csrrci; op++ {
		if loadSizes[op] == 0 && storeSizes[op] == 0 {
			out = append(out, op)
		}
	}
	return out
}

// plainFetch: Fetch by the kinds of address, told apart all at once.
func plainFetch(pc uint32) (int, bool) {
	switch {
	case pc&3 != 0:
		return api.BadFetch, true
	case pc > last:
		return api.NoFetch, true
	}
	return 0, false
}

// plainAccess: Access of loads and of stores, as the chapter tells it.
func plainAccess(op int, addr uint32) (int, bool) {
	in, device := addr < past, addr == port || addr == halt
	loaded, stored := loadSizes[op], storeSizes[op]
	switch {
	case loaded != 0 && addr&(loaded-1) != 0:
		return api.BadLoad, true
	case loaded != 0 && !in:
		return api.NoLoad, true
	case stored != 0 && addr&(stored-1) != 0:
		return api.BadStore, true
	case stored == 4 && device:
		return 0, false
	case stored != 0 && !in:
		return api.NoStore, true
	}
	return 0, false
}

func holdFetch(t *testing.T, pc uint32, want int, wantIs bool) {
	t.Helper()
	if cause, is := Fetch(pc); cause != want || is != wantIs {
		t.Errorf("P10.1: Fetch(%#x): %d, %v, not %d, %v", pc, cause, is, want, wantIs)
	}
}

func holdAccess(t *testing.T, op int, addr uint32, want int, wantIs bool) {
	t.Helper()
	if cause, is := Access(op, addr); cause != want || is != wantIs {
		t.Errorf("P10.1: Access(%d, %#x): %d, %v, not %d, %v", op, addr, cause, is, want, wantIs)
	}
}

// P10.1: the chapter's run and examples.
func TestChapter(t *testing.T) {
	holdFetch(t, 2, api.BadFetch, true)
	holdAccess(t, api.Lw, api.Port, api.NoLoad, true)
	holdAccess(t, api.Sb, api.Port, api.NoStore, true)
}

// P10.1: Inside, Device and Fetch, written out.
func TestAddresses(t *testing.T) {
	for _, c := range []struct {
		addr           uint32
		inside, device bool
		cause          int
		is             bool
	}{
		{0, true, false, 0, false},
		{1, true, false, api.BadFetch, true},
		{2, true, false, api.BadFetch, true},
		{3, true, false, api.BadFetch, true},
		{4, true, false, 0, false},
		{2048, true, false, 0, false},
		{last - 4, true, false, 0, false},
		{last - 1, true, false, api.BadFetch, true},
		{last, true, false, 0, false},
		{last + 1, true, false, api.BadFetch, true},
		{last + 2, true, false, api.BadFetch, true},
		{past - 1, true, false, api.BadFetch, true},
		{past, false, false, api.NoFetch, true},
		{past + 1, false, false, api.BadFetch, true},
		{past + 2, false, false, api.BadFetch, true},
		{past + 3, false, false, api.BadFetch, true},
		{past + 4, false, false, api.NoFetch, true},
		{port - 4, false, false, api.NoFetch, true},
		{port - 1, false, false, api.BadFetch, true},
		{port, false, true, api.NoFetch, true},
		{port + 1, false, false, api.BadFetch, true},
		{port + 2, false, false, api.BadFetch, true},
		{halt - 1, false, false, api.BadFetch, true},
		{halt, false, true, api.NoFetch, true},
		{halt + 1, false, false, api.BadFetch, true},
		{halt + 2, false, false, api.BadFetch, true},
		{halt + 3, false, false, api.BadFetch, true},
		{halt + 4, false, false, api.NoFetch, true},
		{half - 1, false, false, api.BadFetch, true},
		{half, false, false, api.NoFetch, true},
		{half + last, false, false, api.NoFetch, true},
		{all - 3, false, false, api.NoFetch, true},
		{all - 2, false, false, api.BadFetch, true},
		{all - 1, false, false, api.BadFetch, true},
		{all, false, false, api.BadFetch, true},
	} {
		if got := Inside(c.addr); got != c.inside {
			t.Errorf("P10.1: Inside(%#x): %v", c.addr, got)
		}
		if got := Device(c.addr); got != c.device {
			t.Errorf("P10.1: Device(%#x): %v", c.addr, got)
		}
		holdFetch(t, c.addr, c.cause, c.is)
	}
}

// P10.1: each address of memory, and as many behind it.
func TestWholeMemory(t *testing.T) {
	for addr := range uint32(2 * past) {
		if Inside(addr) != (addr < past) || Device(addr) {
			t.Fatalf("P10.1: Inside, Device of %#x: %v, %v", addr, Inside(addr), Device(addr))
		}
		want, is := plainFetch(addr)
		holdFetch(t, addr, want, is)
		for op := api.Lb; op <= api.Sw; op++ {
			want, is := plainAccess(op, addr)
			holdAccess(t, op, addr, want, is)
		}
	}
}

// P10.1: each load and each store at the first eight addresses of a part of memory, or behind it, written out:
// '.' no trap, 'b' one that does not fit, 'n' one that is not there.
func TestAccessWrittenOut(t *testing.T) {
	const inByte, inHalf, inWord = "........", ".b.b.b.b", ".bbb.bbb"
	const outByte, outHalf, outWord = "nnnnnnnn", "nbnbnbnb", "nbbbnbbb"
	for _, c := range []struct {
		op                       int
		in, border, devices, out string
	}{
		{api.Lb, inByte, "....nnnn", outByte, outByte},
		{api.Lbu, inByte, "....nnnn", outByte, outByte},
		{api.Lh, inHalf, ".b.bnbnb", outHalf, outHalf},
		{api.Lhu, inHalf, ".b.bnbnb", outHalf, outHalf},
		{api.Lw, inWord, ".bbbnbbb", outWord, outWord},
		{api.Sb, inByte, "....nnnn", outByte, outByte},
		{api.Sh, inHalf, ".b.bnbnb", outHalf, outHalf},
		{api.Sw, inWord, ".bbbnbbb", inWord, outWord},
	} {
		bad, none := api.BadLoad, api.NoLoad
		if storeSizes[c.op] != 0 {
			bad, none = api.BadStore, api.NoStore
		}
		for from, marks := range map[uint32]string{
			0: c.in, 8: c.in, 2048: c.in, last - 4: c.in, last: c.border, port: c.devices,
			past: c.out, port - 8: c.out, halt + 4: c.out, half - 8: c.out, half: c.out, half + port: c.out, all - 7: c.out,
		} {
			for k, mark := range marks {
				addr := from + uint32(k)
				switch mark {
				case '.':
					holdAccess(t, c.op, addr, 0, false)
				case 'b':
					holdAccess(t, c.op, addr, bad, true)
				case 'n':
					holdAccess(t, c.op, addr, none, true)
				}
			}
		}
	}
}

// P10.1: ops that neither load nor store, and numbers that are no op, make no trap, wherever.
func TestOtherOps(t *testing.T) {
	for _, op := range others() {
		for _, addr := range places() {
			holdAccess(t, op, addr, 0, false)
		}
	}
}

// P10.1: every op at every place.
func TestEdges(t *testing.T) {
	for _, addr := range places() {
		want, is := plainFetch(addr)
		holdFetch(t, addr, want, is)
		for op := -70; op <= api.Csrrci+70; op++ {
			want, is := plainAccess(op, addr)
			holdAccess(t, op, addr, want, is)
		}
	}
}

// P10.1: scattered addresses of every length, by each load and each store.
func TestScattered(t *testing.T) {
	source := rand.New(rand.NewSource(101))
	for range 20000 {
		addr := source.Uint32() >> source.Intn(32)
		if Inside(addr) != (addr < past) || Device(addr) != (addr == port || addr == halt) {
			t.Fatalf("P10.1: Inside, Device of %#x: %v, %v", addr, Inside(addr), Device(addr))
		}
		want, is := plainFetch(addr)
		holdFetch(t, addr, want, is)
		for op := api.Lb; op <= api.Sw; op++ {
			want, is := plainAccess(op, addr)
			holdAccess(t, op, addr, want, is)
		}
	}
}

// P10.1: the five CSRs, and all numbers around them.
func TestIndex(t *testing.T) {
	five := map[int]int{0x305: 0, 0x340: 1, 0x341: 2, 0x342: 3, 0x343: 4}
	for csr := -5000; csr <= 5000; csr++ {
		want, there := five[csr]
		if !there {
			want = -1
		}
		if got := Index(csr); got != want {
			t.Errorf("P10.1: Index(%#x): %d, not %d", csr, got, want)
		}
	}
}

// P10.1: numbers of any size are no CSR, though their lowest bits are one's.
func TestIndexOfAnySize(t *testing.T) {
	for _, csr := range []int{math.MinInt, math.MinInt + 1, math.MinInt32 - 1, math.MinInt32, math.MaxInt32, math.MaxInt32 + 1, math.MaxUint32, math.MaxInt - 1, math.MaxInt} {
		if got := Index(csr); got != -1 {
			t.Errorf("P10.1: Index(%d): %d, not -1", csr, got)
		}
	}
	for _, csr := range []int{api.Mtvec, api.Mscratch, api.Mepc, api.Mcause, api.Mtval} {
		for _, more := range []int{-1 << 12, 1 << 12, 1 << 16, 1 << 31, 1 << 32, 1 << 62, -1 << 32, math.MinInt} {
			if got := Index(csr + more); got != -1 {
				t.Errorf("P10.1: Index(%d): %d, not -1", csr+more, got)
			}
		}
	}
}
