package gate

import (
	"math"
	"math/rand"
	"slices"
	"testing"

	"dioscuri/align"
	"dioscuri/api"
	"dioscuri/encode"
	"dioscuri/memory"
	"dioscuri/model"
)

const underneath = 0x11223344

// turns: each changes one field of a Retired alone, to what it is not.
var turns = []struct {
	name string
	turn func(r *api.Retired)
}{
	{"PC", func(r *api.Retired) { r.PC++ }},
	{"PC's highest bit", func(r *api.Retired) { r.PC ^= 1 << 31 }},
	{"Value", func(r *api.Retired) { r.Value++ }},
	{"Value's highest bit", func(r *api.Retired) { r.Value ^= 1 << 31 }},
	{"Rd", func(r *api.Retired) { r.Rd++ }},
	{"Rd's sign", func(r *api.Retired) { r.Rd ^= math.MinInt }},
	{"Store", func(r *api.Retired) { r.Store = !r.Store }},
	{"Addr", func(r *api.Retired) { r.Addr++ }},
	{"Addr's highest bit", func(r *api.Retired) { r.Addr ^= 1 << 31 }},
	{"Data", func(r *api.Retired) { r.Data++ }},
	{"Data's highest bit", func(r *api.Retired) { r.Data ^= 1 << 31 }},
	{"Mask", func(r *api.Retired) { r.Mask++ }},
	{"Mask's fifth bit", func(r *api.Retired) { r.Mask ^= 16 }},
	{"Mask's sign", func(r *api.Retired) { r.Mask ^= math.MinInt }},
}

// row is n instructions, no two of them the same, stores among them.
func row(kind uint32, n int) []api.Retired {
	var out []api.Retired
	for i := range n {
		out = append(out, api.Retired{PC: 4 * uint32(i), Value: kind, Rd: i, Store: i%3 != 1, Addr: 4 * uint32(i%4), Data: (kind + uint32(i)) * 0x01030507, Mask: (5*i + 3) % 16})
	}
	return out
}

// store is one as a core tells it, or as no core would.
func store(addr, data uint32, mask int) api.Retired {
	return api.Retired{Store: true, Addr: addr, Data: data, Mask: mask}
}

// merged puts bytes into a word one by one, by the mask's lowest four bits.
func merged(word, data uint32, mask int) uint32 {
	for k := range 4 {
		if mask&(1<<k) != 0 {
			word = word&^(0xff<<(8*k)) | data&(0xff<<(8*k))
		}
	}
	return word
}

// forwarded is what Forward answers by the chapter, if these wait.
func forwarded(waits []api.Retired, addr, word uint32) uint32 {
	for _, r := range waits {
		if r.Store && r.Addr == addr {
			word = merged(word, r.Data, r.Mask)
		}
	}
	return word
}

// filled is a gate at which these wait.
func filled(t *testing.T, waits []api.Retired) *Gate {
	t.Helper()
	g := New()
	lets(t, "filled", g, waits)
	return g
}

// lets lets these wait behind the others.
func lets(t *testing.T, what string, g *Gate, more []api.Retired) {
	t.Helper()
	was := g.Waits()
	for i, r := range more {
		if !g.First(r) || g.Waits() != was+i+1 {
			t.Fatalf("P16.1: %s: First %d of %d behind %d: refused, or %d wait", what, i, len(more), was, g.Waits())
		}
	}
}

// holdReleased asks for these, each once, in their order.
func holdReleased(t *testing.T, what string, g *Gate, want []api.Retired) {
	t.Helper()
	was := g.Waits()
	for i, r := range want {
		got, kind := g.Second(r)
		if got != r || kind != Release || g.Waits() != was-i-1 {
			t.Fatalf("P16.1: %s: Second %d of %d: %+v, %d, and %d wait, not %+v", what, i, len(want), got, kind, g.Waits(), r)
		}
	}
}

// holdRefused asks Second for what does not wait first, and the gate is as it was.
func holdRefused(t *testing.T, what string, g *Gate, r api.Retired) {
	t.Helper()
	was := g.Waits()
	for range 3 {
		if got, kind := g.Second(r); got != (api.Retired{}) || kind != Differ || g.Waits() != was {
			t.Fatalf("P16.1: %s: Second(%+v): %+v, %d, and %d wait, not %d", what, r, got, kind, g.Waits(), was)
		}
	}
}

// holdForward asks Forward for each address of these, and for some beside them, more than once.
func holdForward(t *testing.T, what string, g *Gate, waits []api.Retired) {
	t.Helper()
	addrs := []uint32{0, 4, 8, 12, 16, api.Port, api.Halt, math.MaxUint32}
	for _, r := range waits {
		addrs = append(addrs, r.Addr, r.Addr+1, r.Addr+4, r.Addr^1<<31)
	}
	for range 2 {
		for _, addr := range addrs {
			for _, word := range []uint32{0, underneath, math.MaxUint32} {
				want := forwarded(waits, addr, word)
				if got := g.Forward(addr, word); got != want || g.Waits() != len(waits) {
					t.Fatalf("P16.1: %s: Forward(%#x, %#x): %#x, and %d wait, not %#x", what, addr, word, got, g.Waits(), want)
				}
			}
		}
	}
}

// holdWaits holds what waits against these by all that the gate tells of it; they wait behind it as they did.
func holdWaits(t *testing.T, what string, g *Gate, waits []api.Retired) {
	t.Helper()
	if g.Waits() != len(waits) || g.Waits() != len(waits) {
		t.Fatalf("P16.1: %s: %d wait, not %d", what, g.Waits(), len(waits))
	}
	holdForward(t, what, g, waits)
	holdReleased(t, what, g, waits)
	holdRefused(t, what, g, api.Retired{})
	lets(t, what, g, waits)
	holdForward(t, what, g, waits)
}

// P16.1: the chapter's run and examples.
func TestChapter(t *testing.T) {
	if None != 0 || Release != 1 || Differ != 2 || api.MaxWait != 16 {
		t.Errorf("P16.1: the numbers: %d, %d, %d, %d", None, Release, Differ, api.MaxWait)
	}
	for _, r := range append(row(1, 8), api.Retired{}, store(math.MaxUint32, 1, -1)) {
		g := New()
		holdRefused(t, "an empty one", g, r)
		if got := g.Forward(r.Addr, underneath); got != underneath {
			t.Errorf("P16.1: Forward with none: %#x", got)
		}
		if !g.First(r) {
			t.Error("P16.1: First of an empty one: false")
		}
		if got, kind := g.Second(r); got != r || kind != Release {
			t.Errorf("P16.1: First, Second of the same: %+v, %d", got, kind)
		}
		holdRefused(t, "released", g, r)
		holdWaits(t, "released", g, nil)
	}
}

// P16.1: at a new gate nothing waits; one that is the zero Retired waits like any other.
func TestNothingIsNotZero(t *testing.T) {
	g := New()
	holdWaits(t, "new", g, nil)
	zeros := make([]api.Retired, 3)
	lets(t, "zeros", g, zeros)
	holdReleased(t, "zeros", g, zeros)
	holdRefused(t, "zeros", g, api.Retired{})
}

// P16.1: MaxWait wait; one more is refused, however often, and the others wait on as they were.
func TestFull(t *testing.T) {
	waits := row(1, api.MaxWait)
	g := filled(t, waits)
	for _, r := range append(row(9, 5), api.Retired{}, waits[0], waits[api.MaxWait-1], store(0, 0, 15)) {
		if g.First(r) || g.Waits() != api.MaxWait {
			t.Fatalf("P16.1: First(%+v) of a full one: true, or %d wait", r, g.Waits())
		}
		holdForward(t, "full", g, waits)
	}
	holdWaits(t, "full", g, waits)
	holdReleased(t, "full", g, waits[:1])
	another := row(7, 1)
	lets(t, "one place", g, another)
	if g.First(another[0]) {
		t.Error("P16.1: First of one that is full once more: true")
	}
	holdWaits(t, "full once more", g, append(slices.Clone(waits[1:]), another...))
}

// P16.1: as many as wait are released in their order, each once, also where some are the same.
func TestOrder(t *testing.T) {
	for n := range api.MaxWait + 1 {
		waits := row(2, n)
		g := filled(t, waits)
		holdWaits(t, "in order", g, waits)
		holdReleased(t, "in order", g, waits)
		for _, r := range waits {
			holdRefused(t, "behind all", g, r)
		}
	}
	twice := append(row(2, 3), row(2, 3)...)
	twice = append(twice, twice[0], twice[0], twice[1])
	g := filled(t, twice)
	holdReleased(t, "some the same", g, twice)
	holdRefused(t, "some the same", g, twice[1])
}

// P16.1: what is unlike in one field alone is not released, whichever field it is and however many wait.
func TestUnlikeInOneField(t *testing.T) {
	for _, n := range []int{1, 2, 7, api.MaxWait} {
		waits := row(3, n)
		g := filled(t, waits)
		for left := range n {
			for _, c := range turns {
				r := waits[left]
				c.turn(&r)
				holdRefused(t, c.name, g, r)
			}
			holdRefused(t, "zero", g, api.Retired{Value: 4})
			holdForward(t, "unlike ones", g, waits[left:])
			holdReleased(t, "unlike ones", g, waits[left:left+1])
		}
	}
}

// P16.1: none of 32 bits of a number is left out when two are held against each other, nor one of an int.
func TestUnlikeInOneBit(t *testing.T) {
	first := store(0x12345678, 0x9abcdef0, 5)
	first.PC, first.Value, first.Rd = 0x0f1e2d3c, 0x4b5a6978, 6
	g := filled(t, []api.Retired{first, first})
	for bit := range 32 {
		for field := range 4 {
			r := first
			*[]*uint32{&r.PC, &r.Value, &r.Addr, &r.Data}[field] ^= 1 << bit
			holdRefused(t, "one bit", g, r)
		}
	}
	for bit := range 64 {
		for field := range 2 {
			r := first
			*[]*int{&r.Rd, &r.Mask}[field] ^= 1 << bit
			holdRefused(t, "one bit", g, r)
		}
	}
	holdWaits(t, "one bit", g, []api.Retired{first, first})
}

// P16.1: one that waits further behind is not released ahead of its turn.
func TestFurtherBehind(t *testing.T) {
	waits := row(4, api.MaxWait)
	g := filled(t, waits)
	for left := range waits {
		for _, r := range waits[left+1:] {
			holdRefused(t, "further behind", g, r)
		}
		for _, r := range waits[:left] {
			holdRefused(t, "gone already", g, r)
		}
		holdReleased(t, "further behind", g, waits[left:left+1])
	}
}

// P16.1: answers of Forward, written out by hand.
func TestForwardByHand(t *testing.T) {
	for i, c := range []struct {
		waits      []api.Retired
		addr, want uint32
	}{
		{nil, 0, 0x11223344},
		{[]api.Retired{store(0, 0xaabbccdd, 1)}, 0, 0x112233dd},
		{[]api.Retired{store(0, 0xaabbccdd, 2)}, 0, 0x1122cc44},
		{[]api.Retired{store(0, 0xaabbccdd, 4)}, 0, 0x11bb3344},
		{[]api.Retired{store(0, 0xaabbccdd, 8)}, 0, 0xaa223344},
		{[]api.Retired{store(0, 0xaabbccdd, 6)}, 0, 0x11bbcc44},
		{[]api.Retired{store(0, 0xaabbccdd, 9)}, 0, 0xaa2233dd},
		{[]api.Retired{store(0, 0xaabbccdd, 15)}, 0, 0xaabbccdd},
		{[]api.Retired{store(0, 0xaabbccdd, 0)}, 0, 0x11223344},
		{[]api.Retired{store(0, 0xaabbccdd, 15)}, 4, 0x11223344},
		{[]api.Retired{store(4, 0xaabbccdd, 15)}, 0, 0x11223344},
		{[]api.Retired{store(3, 0xaabbccdd, 15)}, 0, 0x11223344},
		{[]api.Retired{store(3, 0xaabbccdd, 15)}, 3, 0xaabbccdd},
		{[]api.Retired{store(8, 0xaabbccdd, 3), store(8, 0x55667788, 6)}, 8, 0x116677dd},
		{[]api.Retired{store(8, 0x55667788, 6), store(8, 0xaabbccdd, 3)}, 8, 0x1166ccdd},
		{[]api.Retired{store(8, 1, 15), store(12, 2, 15), store(8, 3, 15), store(12, 4, 15)}, 8, 3},
		{[]api.Retired{store(8, 1, 15), store(12, 2, 15), store(8, 3, 15), store(12, 4, 15)}, 12, 4},
		{[]api.Retired{{Addr: 8, Data: 0xaabbccdd, Mask: 15}}, 8, 0x11223344},
		{[]api.Retired{{PC: 8, Rd: 8, Value: 0xaabbccdd}}, 8, 0x11223344},
		{[]api.Retired{store(8, 7, 15), {Addr: 8, Data: 0xaabbccdd, Mask: 15}}, 8, 7},
		{[]api.Retired{store(api.Port, 42, 15)}, api.Port, 42},
		{[]api.Retired{store(api.Halt, 42, 15)}, api.Port, 0x11223344},
		{[]api.Retired{store(0, 0xaabbccdd, 16)}, 0, 0x11223344},
		{[]api.Retired{store(0, 0xaabbccdd, 17)}, 0, 0x112233dd},
		{[]api.Retired{store(0, 0xaabbccdd, -1)}, 0, 0xaabbccdd},
		{[]api.Retired{store(0, 0xaabbccdd, -2)}, 0, 0xaabbcc44},
		{[]api.Retired{store(0, 0xaabbccdd, math.MinInt)}, 0, 0x11223344},
	} {
		g := filled(t, c.waits)
		if got := g.Forward(c.addr, underneath); got != c.want {
			t.Errorf("P16.1: Forward, case %d: %#x, not %#x", i, got, c.want)
		}
		holdWaits(t, "by hand", g, c.waits)
	}
}

// P16.1: each mask, at addresses that are a word's, a device's, unaligned and great; a mask's higher bits and its sign do not count.
func TestForwardMasks(t *testing.T) {
	for _, addr := range []uint32{0, 4, 4092, 4096, 1, 2, 3, 5, 4095, api.Port, api.Halt, api.Port + 1, 1 << 31, math.MaxUint32 - 3, math.MaxUint32} {
		for mask := range 16 {
			for _, more := range []int{0, 16, 32, 0xff0, 1 << 31, 1 << 32, math.MaxInt &^ 15, math.MinInt, -16} {
				waits := []api.Retired{store(addr, 0xaabbccdd, mask|more)}
				g := filled(t, waits)
				if got := g.Forward(addr, underneath); got != merged(underneath, 0xaabbccdd, mask) || got != align.Merge(underneath, 0xaabbccdd, mask|more) {
					t.Errorf("P16.1: Forward(%#x) with mask %#x: %#x", addr, mask|more, got)
				}
				holdForward(t, "masks", g, waits)
			}
		}
	}
}

// P16.1: the Addr is held against addr as it is, each of its bits.
func TestForwardAddr(t *testing.T) {
	for _, addr := range []uint32{0, 8, 0x12345678, math.MaxUint32} {
		g := filled(t, []api.Retired{store(addr, 0xaabbccdd, 15)})
		for bit := range 32 {
			if got := g.Forward(addr^1<<bit, underneath); got != underneath {
				t.Errorf("P16.1: Forward(%#x) of a store to %#x: %#x", addr^1<<bit, addr, got)
			}
		}
		if got := g.Forward(addr, underneath); got != 0xaabbccdd {
			t.Errorf("P16.1: Forward(%#x): %#x", addr, got)
		}
	}
}

// P16.1: many stores, and all MaxWait, to one address and to several, the later ones over the earlier ones, till they are released.
func TestForwardMany(t *testing.T) {
	for n := 1; n <= api.MaxWait; n++ {
		for _, addrs := range [][]uint32{{8}, {8, 12}, {8, 9, 10, 11}, {0, api.Port, math.MaxUint32}} {
			var waits []api.Retired
			for i := range n {
				waits = append(waits, store(addrs[i*i%len(addrs)], 0x01010101*uint32(i+1), 1+(7*i+n)%15))
			}
			g := filled(t, waits)
			for i := range waits {
				holdForward(t, "many", g, waits[i:])
				holdReleased(t, "many", g, waits[i:i+1])
			}
			holdForward(t, "none", g, nil)
		}
	}
}

// P16.1: what is no store is not put, wherever it waits among those that are.
func TestForwardNoStore(t *testing.T) {
	for n := 1; n <= api.MaxWait; n++ {
		for at := range n {
			var waits []api.Retired
			for i := range n {
				waits = append(waits, api.Retired{Store: i == at, Addr: 8, Data: 0x01010101 * uint32(i+1), Mask: 15})
			}
			g := filled(t, waits)
			if got := g.Forward(8, underneath); got != 0x01010101*uint32(at+1) {
				t.Errorf("P16.1: Forward, the one store of %d at %d: %#x", n, at, got)
			}
		}
	}
}

// P16.1, R3: a store that is refused, and a Second that is, are not put into a word; one that was released is not any more.
func TestForwardOfRefused(t *testing.T) {
	waits := slices.Repeat([]api.Retired{store(8, 5, 1)}, api.MaxWait)
	g := filled(t, waits)
	g.First(store(12, 9, 15))
	g.First(store(8, 9, 15))
	g.Second(store(12, 9, 15))
	g.Second(store(8, 9, 15))
	holdWaits(t, "refused", g, waits)
	holdReleased(t, "refused", g, waits)
	if got := g.Forward(8, underneath); got != underneath {
		t.Errorf("P16.1: Forward behind the last release: %#x", got)
	}
}

// P16.1: Clear of an empty one, of some and of a full one, once and twice: none waits, and it goes on like a new one.
func TestClear(t *testing.T) {
	for n := range api.MaxWait + 1 {
		for released := range n + 1 {
			waits := row(5, n)
			g := filled(t, waits)
			holdReleased(t, "ahead of Clear", g, waits[:released])
			g.Clear()
			if n%2 == 1 {
				g.Clear()
			}
			for _, r := range waits {
				holdRefused(t, "Clear", g, r)
			}
			holdWaits(t, "Clear", g, nil)
			more := row(6, api.MaxWait)
			lets(t, "behind Clear", g, more)
			if g.First(more[0]) {
				t.Error("P16.1: First of one that is full behind Clear: true")
			}
			holdWaits(t, "behind Clear", g, more)
		}
	}
}

// P16.1: round and round, many times MaxWait, with each number that waits on the way.
func TestRoundAndRound(t *testing.T) {
	stream := row(6, 20*api.MaxWait)
	for ahead := 1; ahead <= api.MaxWait; ahead++ {
		g := filled(t, stream[:ahead])
		for i := range len(stream) - ahead {
			holdRefused(t, "round", g, stream[i+ahead])
			holdReleased(t, "round", g, stream[i:i+1])
			lets(t, "round", g, stream[i+ahead:i+ahead+1])
			holdForward(t, "round", g, stream[i+1:i+ahead+1])
		}
		holdReleased(t, "round", g, stream[len(stream)-ahead:])
		holdWaits(t, "round", g, nil)
	}
	g := New()
	for i := range 5 * api.MaxWait {
		lets(t, "cleared", g, stream[i:i+i%api.MaxWait+1])
		holdWaits(t, "cleared", g, stream[i:i+i%api.MaxWait+1])
		g.Clear()
	}
	holdWaits(t, "cleared", g, nil)
}

// R4: the same calls have the same answers each time, at each gate.
func TestSameEachTime(t *testing.T) {
	one, two := New(), New()
	source := rand.New(rand.NewSource(16))
	for range 2000 {
		r := row(1, api.MaxWait)[source.Intn(api.MaxWait)]
		switch source.Intn(8) {
		case 0, 1, 2:
			if one.First(r) != two.First(r) {
				t.Fatal("R4: First is another one")
			}
		case 3, 4, 5, 6:
			a, kindA := one.Second(r)
			b, kindB := two.Second(r)
			if a != b || kindA != kindB {
				t.Fatal("R4: Second is another one")
			}
		case 7:
			if r.Rd == 0 {
				one.Clear()
				two.Clear()
			}
		}
		if one.Waits() != two.Waits() || one.Forward(r.Addr, 3) != two.Forward(r.Addr, 3) {
			t.Fatal("R4: what waits is another one")
		}
	}
}

// P16.1: two gates have nothing in common.
func TestApart(t *testing.T) {
	a, b := row(7, 9), row(8, api.MaxWait)
	one, two := filled(t, a), New()
	holdWaits(t, "beside one", two, nil)
	lets(t, "beside one", two, b)
	holdWaits(t, "one", one, a)
	holdRefused(t, "one", one, b[0])
	holdRefused(t, "two", two, a[0])
	holdReleased(t, "one", one, a[:4])
	holdWaits(t, "two", two, b)
	two.Clear()
	holdWaits(t, "one", one, a[4:])
	lets(t, "two", two, b[:2])
	one.Clear()
	holdWaits(t, "two", two, b[:2])
	holdWaits(t, "one", one, nil)
}

// R2: what was handed in is a caller's to change, and so is what was answered.
func TestNotShared(t *testing.T) {
	r := store(8, 5, 15)
	was := r
	g := filled(t, []api.Retired{r, r})
	r.Addr, r.Data, r.Store = 12, 6, false
	holdWaits(t, "changed behind First", g, []api.Retired{was, was})
	got, _ := g.Second(was)
	got.Data = 9
	holdWaits(t, "changed behind Second", g, []api.Retired{was})
}

// P16.1: scattered calls against a plain row, few unlike ones so that all is met: full, empty, like and unlike.
func TestScattered(t *testing.T) {
	source := rand.New(rand.NewSource(1616))
	scattered := func() api.Retired {
		return api.Retired{PC: uint32(source.Intn(2)), Store: source.Intn(4) > 0, Addr: uint32(source.Intn(3)), Data: 0x01010101 * uint32(source.Intn(3)), Mask: source.Intn(40) - 8}
	}
	seen := map[string]int{}
	for range 40 {
		g := New()
		var plain []api.Retired
		up := 2 + source.Intn(5)
		for range 1000 {
			r := scattered()
			switch pick := source.Intn(10); {
			case pick < up:
				full := len(plain) == api.MaxWait
				if g.First(r) == full {
					t.Fatalf("P16.1: First with %d waiting: %v", len(plain), !full)
				}
				if full {
					seen["full"]++
				} else {
					plain = append(plain, r)
				}
			case pick < 9:
				if len(plain) > 0 && source.Intn(3) > 0 {
					r = plain[0]
				}
				if len(plain) > 0 && plain[0] == r {
					holdReleased(t, "scattered", g, plain[:1])
					plain = plain[1:]
					seen["release"]++
				} else {
					holdRefused(t, "scattered", g, r)
					seen["differ"]++
				}
			case source.Intn(20) == 0:
				g.Clear()
				plain = nil
				seen["clear"]++
			}
			if g.Waits() != len(plain) {
				t.Fatalf("P16.1: %d wait, not %d", g.Waits(), len(plain))
			}
			addr, word := uint32(source.Intn(3)), source.Uint32()
			if got, want := g.Forward(addr, word), forwarded(plain, addr, word); got != want {
				t.Fatalf("P16.1: Forward(%#x, %#x): %#x, not %#x", addr, word, got, want)
			}
		}
		holdWaits(t, "scattered", g, plain)
	}
	for _, what := range []string{"full", "release", "differ", "clear"} {
		if seen[what] < 20 {
			t.Errorf("scattered calls are too tame: %d times %s", seen[what], what)
		}
	}
}

// R1: no call panics, whatever it is given.
func TestNoPanic(t *testing.T) {
	g := New()
	numbers := []int{0, 1, -1, 15, 16, 31, 32, 63, 64, math.MaxInt32, math.MinInt32, math.MaxInt, math.MinInt}
	for _, rd := range numbers {
		for _, mask := range numbers {
			for _, addr := range []uint32{0, 1, api.Port, math.MaxUint32} {
				r := api.Retired{PC: addr, Value: addr, Rd: rd, Store: mask%2 == 0, Addr: addr, Data: math.MaxUint32, Mask: mask}
				g.Second(r)
				if !g.First(r) {
					g.Clear()
				}
				g.Forward(addr, addr)
				if g.Waits() < 0 || g.Waits() > api.MaxWait {
					t.Fatalf("R1: %d wait", g.Waits())
				}
			}
		}
	}
}

// program stores words, halves and bytes over each other, loads them, tells what it loads, and halts.
func program(t *testing.T) []uint32 {
	t.Helper()
	var image []uint32
	for _, i := range []api.Inst{
		{Op: api.Lui, Rd: 4, Imm: api.Port},
		{Op: api.Addi, Rd: 1, Imm: 40},
		{Op: api.Addi, Rd: 2, Imm: -77},
		{Op: api.Addi, Rd: 7, Imm: 1024},
		{Op: api.Mul, Rd: 2, Rs1: 2, Rs2: 2},
		{Op: api.Sw, Rs1: 7, Rs2: 2},
		{Op: api.Sb, Rs1: 7, Rs2: 1, Imm: 1},
		{Op: api.Sh, Rs1: 7, Rs2: 1, Imm: 2},
		{Op: api.Sb, Rs1: 7, Rs2: 2, Imm: 3},
		{Op: api.Lw, Rd: 3, Rs1: 7},
		{Op: api.Sw, Rs1: 4, Rs2: 3},
		{Op: api.Sh, Rs1: 7, Rs2: 3, Imm: 4},
		{Op: api.Lh, Rd: 5, Rs1: 7, Imm: 4},
		{Op: api.Lw, Rd: 6, Rs1: 7, Imm: 4},
		{Op: api.Xor, Rd: 2, Rs1: 3, Rs2: 5},
		{Op: api.Add, Rd: 2, Rs1: 2, Rs2: 6},
		{Op: api.Sb, Rs1: 7, Rs2: 2, Imm: 5},
		{Op: api.Lbu, Rd: 5, Rs1: 7, Imm: 5},
		{Op: api.Sw, Rs1: 4, Rs2: 5},
		{Op: api.Addi, Rd: 7, Rs1: 7, Imm: 4},
		{Op: api.Addi, Rd: 1, Rs1: 1, Imm: -1},
		{Op: api.Bne, Rs1: 1, Imm: -4 * 17},
		{Op: api.Sw, Rs1: 4, Rs2: 5, Imm: 4},
	} {
		w, ok := encode.Encode(i)
		if !ok {
			t.Fatalf("no word of %v", i)
		}
		image = append(image, w)
	}
	return image
}

func started(t *testing.T, image []uint32) *model.Machine {
	t.Helper()
	m, why := model.New(image)
	if why != api.OK {
		t.Fatalf("model.New: %d", why)
	}
	return m
}

// meant is what a program means, one instruction after the other, and the words that it tells.
func meant(t *testing.T, image []uint32) ([]api.Retired, []uint32) {
	t.Helper()
	m := started(t, image)
	var out []api.Retired
	for len(out) < 10000 {
		r, ok := m.Step()
		if !ok {
			return out, m.Trace()
		}
		out = append(out, r)
	}
	t.Fatal("the program goes on and on")
	return nil, nil
}

// twins: two streams of what a program means, the second behind the first, and what goes out between them.
type twins struct {
	gate     *Gate
	mem      *memory.Memory
	steps    []api.Retired
	first    int
	released int
	told     []uint32
	differed int
}

func newTwins(t *testing.T, image []uint32, steps []api.Retired) *twins {
	t.Helper()
	mem, why := memory.New(image)
	if why != api.OK {
		t.Fatalf("memory.New: %d", why)
	}
	return &twins{gate: New(), mem: mem, steps: steps}
}

// lead lets the first one go on, by what it did or by what was made of it; false once it is at its end, or too far ahead.
func (w *twins) lead(turn func(r *api.Retired)) bool {
	if w.first == len(w.steps) || w.gate.Waits() == api.MaxWait {
		return false
	}
	r := w.steps[w.first]
	turn(&r)
	if !w.gate.First(r) {
		return false
	}
	w.first++
	return true
}

// follow lets the second one go on; where they differ, what waited is gone, and the first one is where the second one is.
func (w *twins) follow(t *testing.T, turn func(r *api.Retired)) {
	t.Helper()
	r := w.steps[w.released]
	turn(&r)
	out, kind := w.gate.Second(r)
	if kind != Release {
		if w.differed > len(w.steps) {
			t.Fatal("W2: they differ on and on")
		}
		w.gate.Clear()
		w.first = w.released
		w.differed++
		return
	}
	if out != w.steps[w.released] {
		t.Fatalf("W2: release %d is %+v, not %+v", w.released, out, w.steps[w.released])
	}
	w.released++
	if !out.Store || out.Addr == api.Halt {
		return
	}
	if out.Addr == api.Port {
		w.told = append(w.told, out.Data)
		return
	}
	if why := w.mem.Store(out.Addr, out.Data, out.Mask); why != api.OK {
		t.Fatalf("memory.Store(%#x): %d", out.Addr, why)
	}
}

func (w *twins) ended() bool {
	return w.released == len(w.steps)
}

func quiet(*api.Retired) {}

// W1: what goes out of the gate is what the program means, however far the first one is ahead; with what waits put into it, memory is the first one's at each step.
func TestRun(t *testing.T) {
	image := program(t)
	steps, trace := meant(t, image)
	for _, ahead := range []int{1, 2, 3, 7, api.MaxWait - 1, api.MaxWait} {
		w := newTwins(t, image, steps)
		front, behind := started(t, image), started(t, image)
		for !w.ended() {
			for w.first-w.released < ahead && w.lead(quiet) {
				front.Step()
			}
			if w.released%5 == 0 {
				holdMemory(t, w, front.State().Mem, behind.State().Mem)
			}
			if w.gate.Waits() != w.first-w.released {
				t.Fatalf("W1: %d wait, not %d", w.gate.Waits(), w.first-w.released)
			}
			w.follow(t, quiet)
			behind.Step()
			if !slices.Equal(w.told, behind.Trace()) {
				t.Fatalf("W1: told at step %d: %v", w.released, w.told)
			}
		}
		holdMemory(t, w, front.State().Mem, behind.State().Mem)
		if w.differed != 0 || !slices.Equal(w.told, trace) || len(trace) != 80 {
			t.Errorf("W1: %d ahead: differed %d times, %d words of %d told", ahead, w.differed, len(w.told), len(trace))
		}
	}
}

// holdMemory holds memory against the second one's, and with what waits against the first one's, word by word.
func holdMemory(t *testing.T, w *twins, first, second []uint32) {
	t.Helper()
	words, why := w.mem.Words()
	if why != api.OK || !slices.Equal(words, second) {
		t.Fatalf("W1: memory behind release %d: %d, or another one", w.released, why)
	}
	for i, word := range words {
		if got := w.gate.Forward(4*uint32(i), word); got != first[i] {
			t.Fatalf("W1: Forward(%#x) at step %d: %#x, not %#x", 4*i, w.first, got, first[i])
		}
	}
}

// W2: with a bit turned now and then in what one of the two retires, nothing else goes out: they differ at its place, what waits is cleared, and all goes out behind it, each once.
func TestRunWithTurnedBits(t *testing.T) {
	image := program(t)
	steps, trace := meant(t, image)
	for turn := range 30 {
		w := newTwins(t, image, steps)
		last, turned := -1, 0
		upset := func(is bool, at int) func(*api.Retired) {
			if !is || at <= last || at%30 != turn {
				return quiet
			}
			return func(r *api.Retired) {
				last = at
				turns[(turn+turned)%len(turns)].turn(r)
				turned++
			}
		}
		inFirst := turn%2 == 0
		for !w.ended() {
			for w.lead(upset(inFirst, w.first)) {
			}
			w.follow(t, upset(!inFirst, w.released))
		}
		if turned < 20 || w.differed != turned {
			t.Errorf("W2: turn %d: %d bits turned, differed %d times", turn, turned, w.differed)
		}
		words, why := w.mem.Words()
		if want := ended(t, image); why != api.OK || !slices.Equal(words, want) || !slices.Equal(w.told, trace) {
			t.Errorf("W2: turn %d: %d, memory or what was told is another one", turn, why)
		}
	}
}

// ended is memory as the program leaves it.
func ended(t *testing.T, image []uint32) []uint32 {
	t.Helper()
	m := started(t, image)
	m.Run(10000)
	return m.State().Mem
}
