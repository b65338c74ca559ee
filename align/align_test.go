package align

import (
	"encoding/binary"
	"math"
	"math/rand"
	"testing"

	"dioscuri/api"
)

const (
	least = 1 << 31
	all   = math.MaxUint32
)

// sizes: every load and store, and how many bytes it moves.
var sizes = map[int]int{
	api.Lb: 1, api.Lbu: 1, api.Sb: 1,
	api.Lh: 2, api.Lhu: 2, api.Sh: 2,
	api.Lw: 4, api.Sw: 4,
}

// places: addresses of every place in a word, at both ends, in the middle, and where a sign would turn.
func places() []uint32 {
	var out []uint32
	for n := range uint32(8) {
		out = append(out, n, 4096+n, least-8+n, least+n, api.Port+n, all-7+n)
	}
	return out
}

// others: ops that are neither load nor store, and numbers that are no op, of any size.
func others() []int {
	out := []int{
		math.MinInt, math.MinInt + api.Lb, math.MinInt + api.Sw, math.MinInt32 - 1, math.MinInt32, -1 << 16, -api.Lb, -api.Lw, -api.Sb, -api.Sw, -2, -1, 0,
		api.Csrrci + 1, api.Csrrci + 2, 64, 64 + api.Lb, 64 + api.Sw, 99, 128 + api.Lh, 256 + api.Lb, 256 + api.Sw, 1<<16 + api.Lw, 1<<16 + api.Sb, 1<<32 + api.Lb, 1<<32 + api.Sw, 1<<33 + api.Sh,
		math.MaxInt32, math.MaxInt32 + 1, math.MaxInt - 1, math.MaxInt,
	}
	for op := api.Lui; op <= api.Csrrci; op++ {
		if sizes[op] == 0 {
			out = append(out, op)
		}
	}
	return out
}

// numbers: words whose bytes are all unlike, with the highest bit of each byte 1, or 0, and words at which a sign may turn.
func numbers() []uint32 {
	return []uint32{0x8493a2b1, 0x04132231, 0x84132231, 0x04932231, 0x0413a231, 0x041322b1, 0, 1, 0x7f, 0x80, 0xff, 0x1ff, 0x7fff, 0x8000, 0xffff, 0x17fff, 0x18000, least - 1, least, all - 1, all}
}

func isLoad(op int) bool {
	return op == api.Lb || op == api.Lh || op == api.Lw || op == api.Lbu || op == api.Lhu
}

func isStore(op int) bool {
	return op == api.Sb || op == api.Sh || op == api.Sw
}

// plainFits: by the place of addr in its word, which alone counts, as every Size divides a word.
func plainFits(op int, addr uint32) bool {
	switch addr & 3 {
	case 0:
		return sizes[op] > 0
	case 2:
		return sizes[op] == 1 || sizes[op] == 2
	}
	return sizes[op] == 1
}

// plainLoad: Load by the bytes of a word, laid out one by one.
func plainLoad(op int, addr, word uint32) uint32 {
	if !plainFits(op, addr) {
		return 0
	}
	b := binary.LittleEndian.AppendUint32(nil, word)[addr&3:]
	switch op {
	case api.Lb:
		return uint32(int32(int8(b[0])))
	case api.Lbu:
		return uint32(b[0])
	case api.Lh:
		return uint32(int32(int16(binary.LittleEndian.Uint16(b))))
	case api.Lhu:
		return uint32(binary.LittleEndian.Uint16(b))
	case api.Lw:
		return binary.LittleEndian.Uint32(b)
	}
	return 0
}

// plainStore: Store by the bytes of a word, laid down one by one.
func plainStore(op int, addr, n uint32) (uint32, int) {
	if !isStore(op) || !plainFits(op, addr) {
		return 0, 0
	}
	from, mask := binary.LittleEndian.AppendUint32(nil, n), 0
	to := make([]byte, 4)
	for k := range sizes[op] {
		at := int(addr&3) + k
		to[at] = from[k]
		mask += []int{1, 2, 4, 8}[at]
	}
	return binary.LittleEndian.Uint32(to), mask
}

// plainMerge: Merge byte by byte.
func plainMerge(old, data uint32, mask int) uint32 {
	out, from := binary.LittleEndian.AppendUint32(nil, old), binary.LittleEndian.AppendUint32(nil, data)
	for k, bit := range []int{1, 2, 4, 8} {
		if mask&bit != 0 {
			out[k] = from[k]
		}
	}
	return binary.LittleEndian.Uint32(out)
}

// hold: all that op does at addr with n.
func hold(t *testing.T, op int, addr, n uint32) {
	t.Helper()
	if got := Fits(op, addr); got != plainFits(op, addr) {
		t.Fatalf("P9.1: Fits(%d, %#x): %v", op, addr, got)
	}
	if got, want := Load(op, addr, n), plainLoad(op, addr, n); got != want {
		t.Fatalf("P9.1: Load(%d, %#x, %#x): %#x, not %#x", op, addr, n, got, want)
	}
	data, mask := Store(op, addr, n)
	if wantData, wantMask := plainStore(op, addr, n); data != wantData || mask != wantMask {
		t.Fatalf("P9.1: Store(%d, %#x, %#x): %#x, %d, not %#x, %d", op, addr, n, data, mask, wantData, wantMask)
	}
}

// P9.1: the chapter's run and examples.
func TestChapter(t *testing.T) {
	if data, mask := Store(api.Sb, 3, 0x1ff); data != 0xff000000 || mask != 8 {
		t.Errorf("P9.1: Store(Sb, 3, 0x1ff): %#x, %d", data, mask)
	}
	if got := Load(api.Lb, 0, 0x80); got != all-0x7f {
		t.Errorf("P9.1: Load(Lb, 0, 0x80): %#x", got)
	}
	if Fits(api.Lh, 1) {
		t.Errorf("P9.1: Fits(Lh, 1)")
	}
}

// P9.1: the Size of every load and store, and of all else.
func TestSize(t *testing.T) {
	for op := -70; op <= api.Csrrci+70; op++ {
		if got := Size(op); got != sizes[op] {
			t.Errorf("P9.1: Size(%d): %d, not %d", op, got, sizes[op])
		}
	}
	for _, op := range others() {
		if got := Size(op); got != 0 {
			t.Errorf("P9.1: Size(%d): %d, not 0", op, got)
		}
	}
}

// P9.1: which addresses each op fits at, written out.
func TestFits(t *testing.T) {
	want := map[int]string{1: "11111111", 2: "10101010", 4: "10001000"}
	for op, size := range sizes {
		for _, from := range []uint32{0, 4096, least - 8, least, all - 7} {
			for k, c := range want[size] {
				if addr := from + uint32(k); Fits(op, addr) != (c == '1') {
					t.Errorf("P9.1: Fits(%d, %#x): %v", op, addr, c != '1')
				}
			}
		}
	}
}

// P9.1: each load at each place of a word, written out.
func TestLoads(t *testing.T) {
	for _, c := range []struct {
		op   int
		word uint32
		want [4]uint32 // at places 0 to 3
	}{
		{api.Lb, 0x8493a2b1, [4]uint32{0xffffffb1, 0xffffffa2, 0xffffff93, 0xffffff84}},
		{api.Lb, 0x04132231, [4]uint32{0x31, 0x22, 0x13, 0x04}},
		{api.Lb, 0x7f807f80, [4]uint32{0xffffff80, 0x7f, 0xffffff80, 0x7f}},
		{api.Lb, 0xff00ff00, [4]uint32{0, all, 0, all}},
		{api.Lbu, 0x8493a2b1, [4]uint32{0xb1, 0xa2, 0x93, 0x84}},
		{api.Lbu, 0x04132231, [4]uint32{0x31, 0x22, 0x13, 0x04}},
		{api.Lbu, 0xff00ff00, [4]uint32{0, 0xff, 0, 0xff}},
		{api.Lh, 0x8493a2b1, [4]uint32{0xffffa2b1, 0, 0xffff8493, 0}},
		{api.Lh, 0x04132231, [4]uint32{0x2231, 0, 0x0413, 0}},
		{api.Lh, 0x7fff8000, [4]uint32{0xffff8000, 0, 0x7fff, 0}},
		{api.Lh, 0x80007fff, [4]uint32{0x7fff, 0, 0xffff8000, 0}},
		{api.Lh, 0x00ff0080, [4]uint32{0x80, 0, 0xff, 0}},
		{api.Lhu, 0x8493a2b1, [4]uint32{0xa2b1, 0, 0x8493, 0}},
		{api.Lhu, 0x04132231, [4]uint32{0x2231, 0, 0x0413, 0}},
		{api.Lhu, all, [4]uint32{0xffff, 0, 0xffff, 0}},
		{api.Lw, 0x8493a2b1, [4]uint32{0x8493a2b1, 0, 0, 0}},
		{api.Lw, 0x04132231, [4]uint32{0x04132231, 0, 0, 0}},
		{api.Lw, all, [4]uint32{all, 0, 0, 0}},
	} {
		for k, want := range c.want {
			for _, from := range []uint32{0, 4, 4096, least, all - 3} {
				if got := Load(c.op, from+uint32(k), c.word); got != want {
					t.Errorf("P9.1: Load(%d, %#x, %#x): %#x, not %#x", c.op, from+uint32(k), c.word, got, want)
				}
			}
		}
	}
}

// P9.1: each store at each place of a word, written out; what n has above its size does not go with it.
func TestStores(t *testing.T) {
	for _, c := range []struct {
		op   int
		n    uint32
		data [4]uint32 // at places 0 to 3
		mask [4]int
	}{
		{api.Sb, 0x8493a2b1, [4]uint32{0xb1, 0xb100, 0xb10000, 0xb1000000}, [4]int{1, 2, 4, 8}},
		{api.Sb, 0x1ff, [4]uint32{0xff, 0xff00, 0xff0000, 0xff000000}, [4]int{1, 2, 4, 8}},
		{api.Sb, all - 0xff, [4]uint32{}, [4]int{1, 2, 4, 8}},
		{api.Sh, 0x8493a2b1, [4]uint32{0xa2b1, 0, 0xa2b10000, 0}, [4]int{3, 0, 12, 0}},
		{api.Sh, 0x1ffff, [4]uint32{0xffff, 0, 0xffff0000, 0}, [4]int{3, 0, 12, 0}},
		{api.Sh, all - 0xffff, [4]uint32{}, [4]int{3, 0, 12, 0}},
		{api.Sw, 0x8493a2b1, [4]uint32{0x8493a2b1, 0, 0, 0}, [4]int{15, 0, 0, 0}},
		{api.Sw, all, [4]uint32{all, 0, 0, 0}, [4]int{15, 0, 0, 0}},
		{api.Sw, 0, [4]uint32{}, [4]int{15, 0, 0, 0}},
	} {
		for k := range uint32(4) {
			for _, from := range []uint32{0, 8, 4096, least, all - 3} {
				if data, mask := Store(c.op, from+k, c.n); data != c.data[k] || mask != c.mask[k] {
					t.Errorf("P9.1: Store(%d, %#x, %#x): %#x, %d, not %#x, %d", c.op, from+k, c.n, data, mask, c.data[k], c.mask[k])
				}
			}
		}
	}
}

// P9.1: a store does not load, and a load does not store, though it fits.
func TestWrongKind(t *testing.T) {
	for op := range sizes {
		for _, addr := range places() {
			for _, n := range numbers() {
				if got := Load(op, addr, n); isStore(op) && got != 0 {
					t.Fatalf("P9.1: Load(%d, %#x, %#x), of a store: %#x", op, addr, n, got)
				}
				if data, mask := Store(op, addr, n); isLoad(op) && (data != 0 || mask != 0) {
					t.Fatalf("P9.1: Store(%d, %#x, %#x), of a load: %#x, %d", op, addr, n, data, mask)
				}
			}
		}
	}
}

// P9.1: ops that are neither, and numbers that are no op, of any size: nothing fits, loads or stores.
func TestOtherOps(t *testing.T) {
	for _, op := range others() {
		for _, addr := range places() {
			if Fits(op, addr) {
				t.Fatalf("P9.1: Fits(%d, %#x)", op, addr)
			}
			for _, n := range numbers() {
				data, mask := Store(op, addr, n)
				if got := Load(op, addr, n); got != 0 || data != 0 || mask != 0 {
					t.Fatalf("P9.1: Load, Store of %d, %#x, %#x: %#x, %#x, %d", op, addr, n, got, data, mask)
				}
			}
		}
	}
}

// P9.1: every mask of four bits, written out, with old and data unlike in every byte.
func TestMerge(t *testing.T) {
	for mask, want := range []uint32{
		0x11223344, 0x112233dd, 0x1122cc44, 0x1122ccdd, 0x11bb3344, 0x11bb33dd, 0x11bbcc44, 0x11bbccdd,
		0xaa223344, 0xaa2233dd, 0xaa22cc44, 0xaa22ccdd, 0xaabb3344, 0xaabb33dd, 0xaabbcc44, 0xaabbccdd,
	} {
		// Bits above the lowest four, the sign's among them, change nothing.
		for _, more := range []int{0, 16, 32, 0xf0, 1 << 8, 1 << 16, 1 << 24, 1 << 31, 1 << 32, 1 << 62, -16, -32, -1 << 32, math.MinInt, math.MaxInt - 15} {
			if got := Merge(0x11223344, 0xaabbccdd, mask|more); got != want {
				t.Errorf("P9.1: Merge by %d: %#x, not %#x", mask|more, got, want)
			}
		}
	}
	if got := Merge(0x11223344, 0xaabbccdd, -1); got != 0xaabbccdd {
		t.Errorf("P9.1: Merge by -1: %#x", got)
	}
	if got := Merge(0x11223344, 0xaabbccdd, math.MinInt); got != 0x11223344 {
		t.Errorf("P9.1: Merge by the least number: %#x", got)
	}
}

// P9.1: every op on every number at every place.
func TestEdges(t *testing.T) {
	for op := -2; op <= api.Csrrci+2; op++ {
		for _, addr := range places() {
			for _, n := range numbers() {
				hold(t, op, addr, n)
			}
		}
	}
	for _, old := range numbers() {
		for _, data := range numbers() {
			for mask := -40; mask < 40; mask++ {
				if got, want := Merge(old, data, mask), plainMerge(old, data, mask); got != want {
					t.Fatalf("P9.1: Merge(%#x, %#x, %d): %#x, not %#x", old, data, mask, got, want)
				}
			}
		}
	}
}

// P9.1: every op, and Merge, on scattered numbers.
func TestScattered(t *testing.T) {
	source := rand.New(rand.NewSource(91))
	for range 20000 {
		addr, n, old := source.Uint32(), source.Uint32(), source.Uint32()
		for op := api.Lb; op <= api.Sw; op++ {
			hold(t, op, addr, n)
			hold(t, op, addr&^3, n)
		}
		mask := int(source.Uint64())
		if got, want := Merge(old, n, mask), plainMerge(old, n, mask); got != want {
			t.Fatalf("P9.1: Merge(%#x, %#x, %d): %#x, not %#x", old, n, mask, got, want)
		}
	}
}

// P9.1: what is stored and merged is loaded again, and the other bytes stay.
func TestStoredIsLoaded(t *testing.T) {
	for _, c := range [][2]int{{api.Sb, api.Lbu}, {api.Sh, api.Lhu}, {api.Sw, api.Lw}} {
		for addr := range uint32(4) {
			if !Fits(c[0], addr) {
				continue
			}
			data, mask := Store(c[0], addr, 0x8493a2b1)
			word := Merge(0x11223344, data, mask)
			if got, want := Load(c[1], addr, word), uint32(0x8493a2b1&(1<<(8*sizes[c[0]])-1)); got != want {
				t.Errorf("P9.1: stored by %d at %d: %#x comes back, not %#x", c[0], addr, got, want)
			}
			if got := Merge(word, 0x11223344, mask); got != 0x11223344 {
				t.Errorf("P9.1: stored by %d at %d: other bytes were changed: %#x", c[0], addr, got)
			}
		}
	}
}
