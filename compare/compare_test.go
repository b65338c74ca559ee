package compare

import (
	"math"
	"slices"
	"testing"

	"dioscuri/api"
	"dioscuri/model"
)

// turns: each changes one field of a Retired alone, to what it is not.
var turns = []struct {
	name string
	turn func(r *api.Retired)
}{
	{"PC", func(r *api.Retired) { r.PC++ }},
	{"PC's highest bit", func(r *api.Retired) { r.PC ^= 1 << 31 }},
	{"Value", func(r *api.Retired) { r.Value++ }},
	{"Value's highest bit", func(r *api.Retired) { r.Value ^= 1 << 31 }},
	{"Rd", func(r *api.Retired) { r.Rd++ }},
	{"Rd's sign", func(r *api.Retired) { r.Rd ^= math.MinInt }},
	{"Rd, beyond five bits", func(r *api.Retired) { r.Rd ^= 32 }},
	{"Store", func(r *api.Retired) { r.Store = !r.Store }},
	{"Addr", func(r *api.Retired) { r.Addr++ }},
	{"Addr's highest bit", func(r *api.Retired) { r.Addr ^= 1 << 31 }},
	{"Data", func(r *api.Retired) { r.Data++ }},
	{"Data's highest bit", func(r *api.Retired) { r.Data ^= 1 << 31 }},
	{"Mask", func(r *api.Retired) { r.Mask++ }},
	{"Mask's sign", func(r *api.Retired) { r.Mask ^= math.MinInt }},
	{"Mask, beyond four bits", func(r *api.Retired) { r.Mask ^= 16 }},
}

// dones: instructions of each kind, those with fields that have no meaning there, and numbers of any size.
func dones() []api.Retired {
	return []api.Retired{
		{},
		{PC: 8},
		{PC: 4, Rd: 3, Value: 7},
		{PC: 4, Store: true, Addr: 16, Data: 9, Mask: 15},
		{PC: 4, Addr: 16, Data: 9, Mask: 15},
		{PC: 4, Value: 5, Rd: 6, Store: true, Addr: 8, Data: 9, Mask: 3},
		{PC: 7, Value: 7, Rd: 7, Addr: 7, Data: 7, Mask: 7},
		{PC: math.MaxUint32, Value: math.MaxUint32, Rd: math.MaxInt, Store: true, Addr: math.MaxUint32, Data: math.MaxUint32, Mask: math.MaxInt},
		{Rd: math.MinInt, Mask: math.MinInt},
	}
}

// done are n instructions, no two of them the same.
func done(n int) []api.Retired {
	out := make([]api.Retired, n)
	for i := range out {
		out[i] = api.Retired{PC: uint32(4 * i), Rd: i % 32, Value: uint32(i * i)}
	}
	return out
}

// words are n words, no two of them the same.
func words(n int) []uint32 {
	out := make([]uint32, n)
	for i := range out {
		out[i] = uint32(i+1) * 0x01010101
	}
	return out
}

// state is one with a number of its own in each place.
func state() api.State {
	s := api.State{PC: 44, Mem: words(api.Words)}
	for i := range s.Regs {
		s.Regs[i] = uint32(1000 + i)
	}
	for i := range s.Csrs {
		s.Csrs[i] = uint32(2000 + i)
	}
	return s
}

// another is s, but for its own memory.
func another(s api.State) api.State {
	s.Mem = slices.Clone(s.Mem)
	return s
}

// changed is a copy of list with the item at a place put in the other's stead.
func changed[T any](list []T, at int, item T) []T {
	out := slices.Clone(list)
	out[at] = item
	return out
}

func holdSame(t *testing.T, what string, a, b api.Retired, want bool) {
	t.Helper()
	if one, two := Same(a, b), Same(b, a); one != want || two != want {
		t.Errorf("P12.1: Same, %s: %v, %v, not %v, of %+v and %+v", what, one, two, want, a, b)
	}
}

func holdStates(t *testing.T, what string, a, b api.State, want bool) {
	t.Helper()
	if one, two := States(a, b), States(b, a); one != want || two != want {
		t.Errorf("P12.1: States, %s: %v, %v, not %v", what, one, two, want)
	}
}

func holdPrefix(t *testing.T, a, b []uint32, want bool) {
	t.Helper()
	if got := Prefix(a, b); got != want {
		t.Errorf("P12.1: Prefix(%v, %v): %v, not %v", a, b, got, want)
	}
}

func holdFirst(t *testing.T, a, b []api.Retired, want int) {
	t.Helper()
	if one, two := First(a, b), First(b, a); one != want || two != want {
		t.Errorf("P12.1: First of %d and %d: %d, %d, not %d", len(a), len(b), one, two, want)
	}
}

// P12.1: the chapter's run and examples.
func TestChapter(t *testing.T) {
	for _, b := range [][]uint32{nil, {}, {0}, {1}, {1, 2, 3}, words(100)} {
		holdPrefix(t, nil, b, true)
		holdPrefix(t, []uint32{}, b, true)
	}
	for _, n := range []int{0, 1, 2, 3, 100} {
		l := done(n)
		holdFirst(t, l, l, -1)
	}
	holdStates(t, "unlike PCs", api.State{PC: 4}, api.State{PC: 8}, false)
}

// P12.1: Same asks every field, whatever the others are.
func TestSame(t *testing.T) {
	all := dones()
	for i, a := range all {
		for k, b := range all {
			holdSame(t, "two of the list", a, b, i == k)
		}
		for _, c := range turns {
			b := a
			c.turn(&b)
			holdSame(t, c.name, a, b, false)
		}
	}
	holdSame(t, "PC and Value the other way round", api.Retired{PC: 1, Value: 2}, api.Retired{PC: 2, Value: 1}, false)
	holdSame(t, "Addr and Data the other way round", api.Retired{Addr: 1, Data: 2}, api.Retired{Addr: 2, Data: 1}, false)
	holdSame(t, "Rd and Mask the other way round", api.Retired{Rd: 1, Mask: 2}, api.Retired{Rd: 2, Mask: 1}, false)
}

// P12.1: States asks PC, each register, x0 too, and each CSR.
func TestStates(t *testing.T) {
	for _, s := range []api.State{state(), {}, {PC: 4}, {Mem: []uint32{0}}} {
		holdStates(t, "a state and itself", s, s, true)
		holdStates(t, "a state and its like", s, another(s), true)
		for _, bit := range []uint32{1, 2, 4, 1 << 16, 1 << 31} {
			x := another(s)
			x.PC ^= bit
			holdStates(t, "PC", s, x, false)
			for i := range s.Regs {
				x = another(s)
				x.Regs[i] ^= bit
				holdStates(t, "a register", s, x, false)
			}
			for i := range s.Csrs {
				x = another(s)
				x.Csrs[i] ^= bit
				holdStates(t, "a CSR", s, x, false)
			}
		}
	}
	s := state()
	x := another(s)
	x.Regs[5], x.Regs[6] = s.Regs[6], s.Regs[5]
	holdStates(t, "two registers the other way round", s, x, false)
}

// P12.1: States asks each word of Mem, and its length.
func TestStatesMemory(t *testing.T) {
	s := state()
	for i, w := range s.Mem {
		x := s
		for _, bit := range []uint32{1, 1 << 31} {
			x.Mem = changed(s.Mem, i, w^bit)
			holdStates(t, "a word of Mem", s, x, false)
		}
		x.Mem = slices.Clone(s.Mem[:i])
		holdStates(t, "Mem that is shorter", s, x, false)
	}
	x := s
	x.Mem = append(slices.Clone(s.Mem), 0)
	holdStates(t, "Mem with a zero more", s, x, false)
	x.Mem = slices.Repeat(s.Mem, 2)
	holdStates(t, "Mem twice", s, x, false)
	holdStates(t, "one zero and none", api.State{}, api.State{Mem: []uint32{0}}, false)
}

// R4, R5: nil and empty Mem are the same, whatever lies behind the length.
func TestStatesNothing(t *testing.T) {
	empty := []api.State{{}, {Mem: []uint32{}}, {Mem: make([]uint32, 0, 8)}, {Mem: words(4)[:0]}}
	for _, a := range empty {
		for _, b := range empty {
			holdStates(t, "no Mem", a, b, true)
		}
		holdStates(t, "no Mem and some", a, api.State{Mem: words(1)}, false)
	}
}

// P12.1: Prefix of a row and itself, of longer and shorter ones, and with each place turned.
func TestPrefix(t *testing.T) {
	const most = 9
	row := words(most)
	for long := range most + 1 {
		b := slices.Clone(row[:long])
		for short := range most + 1 {
			a := slices.Clone(row[:short])
			holdPrefix(t, a, b, short <= long)
			for at, w := range a {
				for _, bit := range []uint32{1, 1 << 31} {
					holdPrefix(t, changed(a, at, w^bit), b, false)
				}
			}
			for at, w := range b {
				holdPrefix(t, a, changed(b, at, w^1), short <= long && at >= short)
			}
		}
	}
}

// P12.1: rows written out by hand: an end or an inner part is no beginning, zeros are words like others.
func TestPrefixByHand(t *testing.T) {
	for _, c := range []struct {
		a, b []uint32
		want bool
	}{
		{nil, nil, true}, {nil, []uint32{}, true}, {[]uint32{}, nil, true}, {[]uint32{}, []uint32{}, true},
		{[]uint32{0}, nil, false}, {[]uint32{0}, []uint32{}, false}, {nil, []uint32{0}, true},
		{[]uint32{0}, []uint32{0, 0}, true}, {[]uint32{0, 0}, []uint32{0}, false},
		{[]uint32{2}, []uint32{1, 2}, false}, {[]uint32{2}, []uint32{1, 2, 3}, false}, {[]uint32{2, 1}, []uint32{1, 2}, false},
		{[]uint32{1, 2, 4}, []uint32{1, 2, 3, 4}, false}, {[]uint32{1, 1, 2}, []uint32{1, 2}, false}, {[]uint32{1, 2}, []uint32{1, 1, 2}, false},
		{[]uint32{math.MaxUint32}, []uint32{math.MaxUint32, 0}, true},
	} {
		holdPrefix(t, c.a, c.b, c.want)
	}
}

// P12.1: First of rows that differ at each place, in each field.
func TestFirstOfOne(t *testing.T) {
	for _, n := range []int{1, 2, 3, 20} {
		row := done(n)
		holdFirst(t, row, slices.Clone(row), -1)
		for at, r := range row {
			for _, c := range turns {
				other := r
				c.turn(&other)
				holdFirst(t, row, changed(row, at, other), at)
			}
		}
	}
}

// P12.1: of rows that differ at two places First answers the first one, of unlike lengths too.
func TestFirstOfTwo(t *testing.T) {
	row := done(8)
	other := api.Retired{PC: 2}
	for one := range row {
		for two := one + 1; two < len(row); two++ {
			b := changed(changed(row, one, other), two, other)
			holdFirst(t, row, b, one)
			holdFirst(t, row[:two], b, one)
			holdFirst(t, row, b[:one+1], one)
			holdFirst(t, row, b[:one], one)
		}
	}
}

// P12.1: of rows of which one is the beginning of the other First answers the shorter one's length.
func TestFirstOfBeginnings(t *testing.T) {
	row := done(10)
	for long := range len(row) + 1 {
		for short := range long {
			holdFirst(t, row[:long], slices.Clone(row[:short]), short)
		}
	}
	for n := range 5 {
		holdFirst(t, make([]api.Retired, n), make([]api.Retired, n+1), n)
	}
}

// R4: nil and empty rows are the same.
func TestFirstOfNothing(t *testing.T) {
	empty := [][]api.Retired{nil, {}, make([]api.Retired, 0, 3), done(3)[:0]}
	for _, a := range empty {
		for _, b := range empty {
			holdFirst(t, a, b, -1)
		}
		holdFirst(t, a, done(2), 0)
	}
}

// R5: what lies behind the length is not read: rows that part there alone are the same.
func TestSpareRoomUnread(t *testing.T) {
	a, b := words(6), changed(words(6), 3, 0)
	holdPrefix(t, a[:3], b[:3], true)
	holdPrefix(t, a[:4], b[:3], false)
	holdPrefix(t, a[:4], a[:3], false)
	holdStates(t, "spare room", api.State{Mem: a[:3]}, api.State{Mem: b[:3]}, true)
	holdStates(t, "a word and spare room", api.State{Mem: a[:4]}, api.State{Mem: a[:3]}, false)
	one := done(6)
	two := changed(one, 3, api.Retired{PC: 2})
	holdFirst(t, one[:3], two[:3], -1)
	holdFirst(t, one[:4], one[:3], 3)
}

// R2, R5: what is handed in is not changed, its spare room included; asked again, the answer is the same.
func TestHandedIn(t *testing.T) {
	ua, ub := words(6), changed(words(6), 1, 0)
	ra := done(6)
	rb := changed(ra, 1, api.Retired{PC: 2})
	wasUA, wasUB, wasRA, wasRB := slices.Clone(ua), slices.Clone(ub), slices.Clone(ra), slices.Clone(rb)
	for range 2 {
		for i := range len(ua) + 1 {
			for k := range len(ub) + 1 {
				holdPrefix(t, ua[:i], ub[:k], i == 0 || i == 1 && k > 0)
				holdStates(t, "rows that part at 1", api.State{Mem: ua[:i]}, api.State{Mem: ub[:k]}, i == k && i < 2)
				want := min(i, k, 1)
				if i == k && i < 2 {
					want = -1
				}
				holdFirst(t, ra[:i], rb[:k], want)
			}
		}
	}
	if !slices.Equal(ua, wasUA) || !slices.Equal(ub, wasUB) {
		t.Error("R2: words that were handed in are changed")
	}
	if !slices.Equal(ra, wasRA) || !slices.Equal(rb, wasRB) {
		t.Error("R2: instructions that were handed in are changed")
	}
}

// ran is what a program did, told and left behind in at most n steps.
func ran(t *testing.T, image []uint32, n int) ([]api.Retired, []uint32, api.State) {
	t.Helper()
	m, why := model.New(image)
	if why != api.OK {
		t.Fatalf("model.New: %d", why)
	}
	var out []api.Retired
	for range n {
		r, ok := m.Step()
		if !ok {
			break
		}
		out = append(out, r)
	}
	return out, m.Trace(), m.State()
}

// W1: a run that was broken off has told a beginning of what the program means; one that halted is the model's, in all; a run of another program is told from it where it parts.
func TestRuns(t *testing.T) {
	image := []uint32{
		0x100000b7, // lui x1 268435456: x1 is Port
		0x02a00113, // addi x2 x0 42
		0x0020a023, // sw x1 x2 0: 42 is told
		0x00210113, // addi x2 x2 2
		0x0020a023, // sw x1 x2 0: 44 is told
		0x0000a223, // sw x1 x0 4: halted
	}
	whole, told, end := ran(t, image, 100)
	if len(whole) != len(image) || !slices.Equal(told, []uint32{42, 44}) {
		t.Fatalf("W1: %d steps, %v", len(whole), told)
	}
	for n := range len(image) {
		part, some, now := ran(t, image, n)
		holdFirst(t, part, whole, n)
		holdPrefix(t, some, told, true)
		holdPrefix(t, told, some, len(some) == len(told))
		holdStates(t, "a run that was broken off", now, end, n == len(image)-1)
	}
	again, same, behind := ran(t, image, 100)
	holdFirst(t, again, whole, -1)
	holdPrefix(t, same, told, true)
	holdStates(t, "a halted run", behind, end, true)
	image[3] = 0x00310113 // addi x2 x2 3
	again, same, behind = ran(t, image, 100)
	holdFirst(t, again, whole, 3)
	holdPrefix(t, same, told, false)
	holdStates(t, "another program", behind, end, false)
}
