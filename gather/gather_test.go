package gather

import (
	"math"
	"math/rand"
	"runtime"
	"slices"
	"testing"
	"time"

	"dioscuri/align"
	"dioscuri/alu"
	"dioscuri/api"
	"dioscuri/decode"
	"dioscuri/encode"
	"dioscuri/file"
	"dioscuri/memory"
	"dioscuri/model"
)

// turns: each changes one field of a Retired alone, to what it is not.
var turns = []struct {
	name string
	turn func(r *api.Retired)
}{
	{"PC", func(r *api.Retired) { r.PC++ }},
	{"PC's highest bit", func(r *api.Retired) { r.PC ^= 1 << 31 }},
	{"Value", func(r *api.Retired) { r.Value++ }},
	{"Value's highest bit", func(r *api.Retired) { r.Value ^= 1 << 31 }},
	{"Rd", func(r *api.Retired) { r.Rd++ }},
	{"Rd's sign", func(r *api.Retired) { r.Rd ^= math.MinInt }},
	{"Store", func(r *api.Retired) { r.Store = !r.Store }},
	{"Addr", func(r *api.Retired) { r.Addr++ }},
	{"Addr's highest bit", func(r *api.Retired) { r.Addr ^= 1 << 31 }},
	{"Data", func(r *api.Retired) { r.Data++ }},
	{"Data's highest bit", func(r *api.Retired) { r.Data ^= 1 << 31 }},
	{"Mask", func(r *api.Retired) { r.Mask++ }},
	{"Mask's sign", func(r *api.Retired) { r.Mask ^= math.MinInt }},
}

// sizes: no, one, few and many, those at which a channel may be full among them.
var sizes = []int{0, 1, 2, 3, 7, ahead - 1, ahead, ahead + 1, ahead + 2, 2 * ahead, 2*ahead + 1, 1000}

// row is n instructions, no two of them the same, told from those of another kind.
func row(kind uint32, n int) []api.Retired {
	var out []api.Retired
	for i := range n {
		out = append(out, api.Retired{PC: 4 * uint32(i), Value: kind, Rd: i, Store: i%3 == 0, Addr: uint32(i) << 16, Data: kind ^ uint32(i), Mask: i % 16})
	}
	return out
}

// of are instructions that are told by their numbers.
func of(numbers ...uint32) []api.Retired {
	var out []api.Retired
	for _, n := range numbers {
		out = append(out, api.Retired{Value: n})
	}
	return out
}

// changed is a copy of list with the item at a place put in the other's stead.
func changed(list []api.Retired, at int, item api.Retired) []api.Retired {
	out := slices.Clone(list)
	out[at] = item
	return out
}

// holdPairs asks Pairs both ways round.
func holdPairs(t *testing.T, a, b []api.Retired) {
	t.Helper()
	both := min(len(a), len(b))
	over := max(len(a), len(b)) - both
	for turn, rows := range [][2][]api.Retired{{a, b}, {b, a}} {
		pairs, left := Pairs(rows[0], rows[1])
		if len(pairs) != both || left != over {
			t.Fatalf("P15.1: Pairs of %d and %d, way %d: %d pairs and %d, not %d and %d", len(rows[0]), len(rows[1]), turn, len(pairs), left, both, over)
		}
		for i, p := range pairs {
			if p != [2]api.Retired{rows[0][i], rows[1][i]} {
				t.Fatalf("P15.1: Pairs of %d and %d, way %d: pair %d is %+v", len(rows[0]), len(rows[1]), turn, i, p)
			}
		}
	}
}

// holdAgree asks Agree both ways round.
func holdAgree(t *testing.T, what string, a, b []api.Retired, same int, all bool) {
	t.Helper()
	one, oneAll := Agree(a, b)
	two, twoAll := Agree(b, a)
	if one != same || oneAll != all || two != same || twoAll != all {
		t.Errorf("P15.1: Agree, %s, of %d and %d: %d, %v and %d, %v, not %d, %v", what, len(a), len(b), one, oneAll, two, twoAll, same, all)
	}
}

// P15.1: the chapter's run and examples.
func TestChapter(t *testing.T) {
	for _, n := range sizes {
		l := row(1, n)
		if same, all := Agree(l, l); same != n || !all {
			t.Errorf("P15.1: Agree(l, l) of %d: %d, %v", n, same, all)
		}
		pairs, left := Pairs(nil, l)
		if len(pairs) != 0 || left != n {
			t.Errorf("P15.1: Pairs(nothing, b) of %d: %d, %d", n, len(pairs), left)
		}
	}
	if same, all := Agree(of(1, 2, 3), of(9, 2, 3)); same != 0 || all {
		t.Errorf("P15.1: Agree of unlike firsts: %d, %v", same, all)
	}
}

// P15.1: answers written out by hand.
func TestByHand(t *testing.T) {
	for _, c := range []struct {
		a, b  []uint32
		pairs [][2]uint32
		left  int
		same  int
		all   bool
	}{
		{nil, nil, nil, 0, 0, true},
		{nil, []uint32{1}, nil, 1, 0, false},
		{[]uint32{1}, nil, nil, 1, 0, false},
		{[]uint32{0}, nil, nil, 1, 0, false},
		{[]uint32{1}, []uint32{1}, [][2]uint32{{1, 1}}, 0, 1, true},
		{[]uint32{1}, []uint32{2}, [][2]uint32{{1, 2}}, 0, 0, false},
		{[]uint32{1, 2}, []uint32{3, 4}, [][2]uint32{{1, 3}, {2, 4}}, 0, 0, false},
		{[]uint32{1, 2}, []uint32{2, 1}, [][2]uint32{{1, 2}, {2, 1}}, 0, 0, false},
		{[]uint32{1, 2, 3}, []uint32{1}, [][2]uint32{{1, 1}}, 2, 1, false},
		{[]uint32{1}, []uint32{1, 2, 3, 4}, [][2]uint32{{1, 1}}, 3, 1, false},
		{[]uint32{2, 3}, []uint32{1, 2, 3}, [][2]uint32{{2, 1}, {3, 2}}, 1, 0, false},
		{[]uint32{1, 2, 3, 4}, []uint32{1, 9, 3, 4}, [][2]uint32{{1, 1}, {2, 9}, {3, 3}, {4, 4}}, 0, 1, false},
		{[]uint32{5, 5, 5}, []uint32{5, 5}, [][2]uint32{{5, 5}, {5, 5}}, 1, 2, false},
		{[]uint32{0, 0}, []uint32{0, 0}, [][2]uint32{{0, 0}, {0, 0}}, 0, 2, true},
	} {
		a, b := of(c.a...), of(c.b...)
		pairs, left := Pairs(a, b)
		var got [][2]uint32
		for _, p := range pairs {
			got = append(got, [2]uint32{p[0].Value, p[1].Value})
		}
		if !slices.Equal(got, c.pairs) || left != c.left {
			t.Errorf("P15.1: Pairs(%v, %v): %v, %d", c.a, c.b, got, left)
		}
		if same, all := Agree(a, b); same != c.same || all != c.all {
			t.Errorf("P15.1: Agree(%v, %v): %d, %v", c.a, c.b, same, all)
		}
	}
}

// P15.1: Pairs of rows of each length, alike and unlike: each pair in its place, first and second not changed about, and those left over counted, whichever row they are of.
func TestPairs(t *testing.T) {
	for _, n := range sizes {
		for _, k := range sizes {
			holdPairs(t, row(1, n), row(2, k))
			holdPairs(t, row(1, n), row(1, k))
		}
	}
}

// P15.1: Agree of rows of which one is the beginning of the other: the shorter one's length, and true only where none is left over.
func TestAgreeOfBeginnings(t *testing.T) {
	for _, n := range sizes {
		for _, k := range sizes {
			holdAgree(t, "beginnings", row(1, n), row(1, k), min(n, k), n == k)
		}
	}
	zeros := make([]api.Retired, 100)
	for n := range 6 {
		holdAgree(t, "zeros", zeros[:n], zeros[:n], n, true)
		holdAgree(t, "zeros and one more", zeros[:n], zeros[:n+1], n, false)
		holdAgree(t, "no zeros and some", nil, zeros[:n], 0, n == 0)
	}
}

// P15.1: rows that are unlike at one place, each of them, in each field alone; the pairs behind it are alike again and don't count.
func TestUnlikeAtOnePlace(t *testing.T) {
	for _, n := range []int{1, 2, 3, 8, ahead + 2} {
		a := row(1, n)
		for at, r := range a {
			for _, c := range turns {
				other := r
				c.turn(&other)
				b := changed(a, at, other)
				holdAgree(t, c.name, a, b, at, false)
				holdAgree(t, c.name+" and some left over", a, append(b, row(3, 3)...), at, false)
				holdAgree(t, c.name+" at the last one that both have", a, b[:at+1], at, false)
				holdAgree(t, c.name+" behind the last one that both have", a, b[:at], at, false)
			}
			holdPairs(t, a, changed(a, at, api.Retired{}))
		}
	}
}

// P15.1: of rows that are unlike at two places Agree tells the first one.
func TestUnlikeAtTwoPlaces(t *testing.T) {
	a := row(1, 9)
	for one := range a {
		for two := one + 1; two < len(a); two++ {
			b := changed(changed(a, one, api.Retired{PC: 2}), two, api.Retired{PC: 2})
			holdAgree(t, "two places", a, b, one, false)
			holdAgree(t, "two places, broken off", a[:two], b, one, false)
		}
	}
}

// P15.1: what lies behind the last one that both have is left over, whatever it is: the pairs ahead of it are alike.
func TestUnlikeBehind(t *testing.T) {
	for _, n := range sizes {
		a := row(1, n)
		for _, k := range []int{1, 2, ahead, ahead + 1, 500} {
			b := append(row(1, n), row(2, k)...)
			holdAgree(t, "unlike behind", a, b, n, false)
			holdPairs(t, a, b)
		}
	}
}

// R4: nil and empty rows are the same.
func TestNothing(t *testing.T) {
	empty := [][]api.Retired{nil, {}, make([]api.Retired, 0, 3), row(1, 3)[:0]}
	for _, a := range empty {
		for _, b := range empty {
			holdPairs(t, a, b)
			holdAgree(t, "nothing", a, b, 0, true)
		}
		for _, n := range sizes {
			holdPairs(t, a, row(1, n))
			holdAgree(t, "nothing and some", a, row(1, n), 0, n == 0)
		}
	}
}

// R5: what lies behind the length is not read: rows that part there alone agree.
func TestSpareRoomUnread(t *testing.T) {
	a := row(1, 200)
	b := changed(a, 70, api.Retired{PC: 2})
	holdAgree(t, "spare room", a[:70], b[:70], 70, true)
	holdAgree(t, "spare room on one side", a[:70], slices.Clone(b[:70]), 70, true)
	holdAgree(t, "one more", a[:71], b[:71], 70, false)
	holdPairs(t, a[:70], b[:70])
	holdPairs(t, a[:0], b[:70])
}

// P15.1, R2: rows that share memory, the same row twice among them.
func TestRowsThatOverlap(t *testing.T) {
	l := row(1, 300)
	holdPairs(t, l, l)
	holdPairs(t, l[:200], l[100:])
	holdPairs(t, l[1:], l)
	holdAgree(t, "the same row twice", l, l, 300, true)
	holdAgree(t, "a row and its end", l, l[1:], 0, false)
	holdAgree(t, "a row and its beginning", l, l[:299], 299, false)
}

// R2, R5: the rows handed in are not changed, nor their spare room.
func TestHandedIn(t *testing.T) {
	a, b := row(1, 200), row(1, 200)
	b[90].Data++
	wasA, wasB := slices.Clone(a), slices.Clone(b)
	for n := 0; n <= len(a); n += 10 {
		for k := 0; k <= len(b); k += 10 {
			Pairs(a[:n], b[:k])
			Agree(a[:n], b[:k])
		}
	}
	if !slices.Equal(a, wasA) || !slices.Equal(b, wasB) {
		t.Error("R2: rows that were handed in are changed")
	}
}

// R2: what Pairs answers is new memory, its spare room too: what is turned in the rows later turns nothing in it, and the other way round, and no answer shares with another one.
func TestAnswerIsNew(t *testing.T) {
	for _, n := range []int{1, 3, 100} {
		a, b := row(1, n), row(2, n+2)
		pairs, _ := Pairs(a, b)
		again, _ := Pairs(a, b)
		wasA, wasB, wasPairs := slices.Clone(a), slices.Clone(b), slices.Clone(pairs)
		spoil(again[:cap(again)])
		if !slices.Equal(a, wasA) || !slices.Equal(b, wasB) || !slices.Equal(pairs, wasPairs) {
			t.Errorf("R2: %d pairs share memory with the rows or with another answer", n)
		}
		for i := range a {
			a[i] = api.Retired{PC: 13}
		}
		for i := range b {
			b[i] = api.Retired{PC: 17}
		}
		if !slices.Equal(pairs, wasPairs) {
			t.Errorf("R2: %d pairs change with the rows", n)
		}
		fresh, _ := Pairs(wasA, wasB)
		if !slices.Equal(fresh, wasPairs) {
			t.Errorf("R2: Pairs answers otherwise once an answer was written over: %d", n)
		}
	}
}

func spoil(pairs [][2]api.Retired) {
	for i := range pairs {
		pairs[i] = [2]api.Retired{{PC: 99}, {PC: 98}}
	}
}

// R4: the same answer each time, however the goroutines run: with one of them at a time, and with several.
func TestSameEachTime(t *testing.T) {
	was := runtime.GOMAXPROCS(0)
	defer runtime.GOMAXPROCS(was)
	a, b := row(1, 400), row(1, 500)
	b[333].Mask++
	for _, procs := range []int{1, 2, 3, was} {
		runtime.GOMAXPROCS(procs)
		for range 50 {
			holdPairs(t, a, b)
			holdPairs(t, a[:20], b)
			holdAgree(t, "again", a, b, 333, false)
			holdAgree(t, "again", a[:333], b[:333], 333, true)
		}
	}
}

// P15.1: scattered rows against the chapter's words once more, by places.
func TestScattered(t *testing.T) {
	source := rand.New(rand.NewSource(15))
	agreed := 0
	for range 3000 {
		a := make([]api.Retired, source.Intn(90))
		for i := range a {
			a[i] = api.Retired{PC: source.Uint32(), Value: source.Uint32(), Rd: source.Intn(32)}
		}
		b := slices.Clone(a)
		switch source.Intn(3) {
		case 0:
			b = b[:source.Intn(len(b)+1)]
		case 1:
			b = append(b, row(1, source.Intn(90))...)
		}
		for range source.Intn(3) * min(len(b), 1) {
			b[source.Intn(len(b))].Value++
		}
		same := 0
		for same < min(len(a), len(b)) && a[same] == b[same] {
			same++
		}
		all := same == len(a) && same == len(b)
		if all {
			agreed++
		}
		holdPairs(t, a, b)
		holdAgree(t, "scattered", a, b, same, all)
	}
	if agreed < 100 || agreed > 2900 {
		t.Errorf("the rows are too tame: %d of them agree", agreed)
	}
}

// holdEnded waits a while for the goroutines of calls to be gone.
func holdEnded(t *testing.T, what string, was int) {
	t.Helper()
	for range 2000 {
		if runtime.NumGoroutine() <= was {
			return
		}
		time.Sleep(time.Millisecond)
	}
	t.Errorf("P15.1: %s: %d goroutines, %d ahead of it", what, runtime.NumGoroutine(), was)
}

// P15.1, R9: no goroutine goes on once a call has answered: rows that agree, that part at the first one, in the middle and at the end, and those of which much is left over.
func TestGoroutinesEnd(t *testing.T) {
	many := row(1, 1000)
	for _, c := range []struct {
		what string
		a, b []api.Retired
	}{
		{"nothing", nil, nil},
		{"nothing and many", nil, many},
		{"many and nothing", many, nil},
		{"one and many", many[:1], many},
		{"many and one", many, many[:1]},
		{"alike", many, many},
		{"unlike firsts", many, changed(many, 0, api.Retired{PC: 2})},
		{"unlike in the middle", many, changed(many, 500, api.Retired{PC: 2})},
		{"unlike lasts", many, changed(many, 999, api.Retired{PC: 2})},
		{"unlike, and some left over", many, row(2, 300)},
	} {
		was := runtime.NumGoroutine()
		for range 10 {
			Pairs(c.a, c.b)
			Agree(c.a, c.b)
		}
		holdEnded(t, c.what, was)
	}
}

// protected is a run whose registers and memory mend themselves; what it retires is to be the model's.
type protected struct {
	pc   uint32
	regs *file.File
	mem  *memory.Memory
}

// step does one instruction; false, if a word is not to be trusted, or once the run has halted.
func (p *protected) step() (api.Retired, bool) {
	w, why := p.mem.Load(p.pc)
	i, ok := decode.Decode(w)
	if why != api.OK || !ok {
		return api.Retired{}, false
	}
	a, one := p.regs.Read(i.Rs1)
	b, two := p.regs.Read(i.Rs2)
	if one == api.Bad || two == api.Bad {
		return api.Retired{}, false
	}
	r := api.Retired{PC: p.pc}
	addr := a + uint32(i.Imm)
	p.pc += 4
	switch i.Op {
	case api.Sw:
		r.Store, r.Addr, r.Data, r.Mask = true, addr, b, 15
		return r, addr >= api.Port || p.mem.Store(addr, b, 15) == api.OK
	case api.Bne:
		if alu.Taken(i.Op, a, b) {
			p.pc = r.PC + uint32(i.Imm)
		}
		return r, true
	case api.Lw:
		n, why := p.mem.Load(addr)
		return p.wrote(r, i.Rd, align.Load(i.Op, addr, n)), why == api.OK
	case api.Lui:
		return p.wrote(r, i.Rd, uint32(i.Imm)), true
	case api.Addi:
		b = uint32(i.Imm)
	}
	return p.wrote(r, i.Rd, alu.Do(i.Op, a, b)), true
}

func (p *protected) wrote(r api.Retired, rd int, n uint32) api.Retired {
	p.regs.Write(rd, n)
	r.Rd, r.Value = rd, n
	return r
}

// flip turns a bit of registers, or of memory.
func (p *protected) flip(bit int) bool {
	if bit < p.regs.Bits() {
		return p.regs.Flip(bit)
	}
	return p.mem.Flip(bit - p.regs.Bits())
}

// program reckons round and round, by loads and stores too, tells a number each time, and halts.
func program(t *testing.T) []uint32 {
	t.Helper()
	var image []uint32
	for _, i := range []api.Inst{
		{Op: api.Lui, Rd: 4, Imm: api.Port},
		{Op: api.Addi, Rd: 1, Imm: 90},
		{Op: api.Addi, Rd: 2, Imm: -77},
		{Op: api.Add, Rd: 3, Rs1: 2, Rs2: 1},
		{Op: api.Mul, Rd: 2, Rs1: 3, Rs2: 2},
		{Op: api.Sw, Rs2: 2, Imm: 1024},
		{Op: api.Xor, Rd: 5, Rs1: 2, Rs2: 3},
		{Op: api.Lw, Rd: 6, Imm: 1024},
		{Op: api.Sub, Rd: 2, Rs1: 5, Rs2: 6},
		{Op: api.Sw, Rs1: 4, Rs2: 2},
		{Op: api.Addi, Rd: 1, Rs1: 1, Imm: -1},
		{Op: api.Bne, Rs1: 1, Imm: -4 * 8},
		{Op: api.Sw, Rs1: 4, Imm: 4},
	} {
		w, ok := encode.Encode(i)
		if !ok {
			t.Fatalf("no word of %v", i)
		}
		image = append(image, w)
	}
	return image
}

// meant is what a program means, one instruction after the other.
func meant(t *testing.T, image []uint32) []api.Retired {
	t.Helper()
	m, why := model.New(image)
	if why != api.OK {
		t.Fatalf("model.New: %d", why)
	}
	var out []api.Retired
	for len(out) < 10000 {
		r, ok := m.Step()
		if !ok {
			return out
		}
		out = append(out, r)
	}
	t.Fatal("the program goes on and on")
	return nil
}

// ran is what a protected run retires in at most n steps; upset comes ahead of each step, and some words are scrubbed then.
func ran(t *testing.T, image []uint32, n int, upset func(p *protected, step int)) []api.Retired {
	t.Helper()
	mem, why := memory.New(image)
	if why != api.OK {
		t.Fatalf("memory.New: %d", why)
	}
	p := &protected{regs: file.New(), mem: mem}
	var out []api.Retired
	for step := range n {
		upset(p, step)
		p.regs.Scrub()
		p.mem.Scrub(16)
		r, ok := p.step()
		if !ok {
			t.Fatalf("W2: step %d can't be done", step)
		}
		out = append(out, r)
	}
	return out
}

func quiet(*protected, int) {}

// W1: without turned bits a run beside the model's agrees in all; one that was broken off is the beginning of it.
func TestRun(t *testing.T) {
	image := program(t)
	want := meant(t, image)
	for _, n := range []int{0, 1, 7, 100, len(want) - 1, len(want)} {
		got := ran(t, image, n, quiet)
		holdAgree(t, "a run", got, want, n, n == len(want))
		holdPairs(t, got, want)
	}
}

// W2: with bits turned one at a time, a round of scrubs or more between them, whichever bits they are, a run whose words mend themselves agrees with the model's likewise.
func TestRunWithTurnedBits(t *testing.T) {
	image := program(t)
	want := meant(t, image)
	every := (31 + 1024) * 39
	for turn := range 40 {
		turned := 0
		got := ran(t, image, len(want), func(p *protected, step int) {
			if step%80 != turn {
				return
			}
			bit := (turn*1013 + turned*7919) % every
			if turned%3 == 0 {
				bit %= 6 * 39 // of registers that the program reads
			}
			if !p.flip(bit) {
				t.Fatalf("no bit %d", bit)
			}
			turned++
		})
		if turned < 8 {
			t.Fatalf("the run is too tame: %d bits turned", turned)
		}
		holdAgree(t, "a run with turned bits", got, want, len(want), true)
	}
}

// W2: a bit that is turned in what was retired is told at its place, whichever bit it is, so that nothing behind it need go out.
func TestTurnedBitIsTold(t *testing.T) {
	want := meant(t, program(t))
	for at := 0; at < len(want); at += 37 {
		for bit := range 32 {
			for field := range 4 {
				r := want[at]
				*[]*uint32{&r.PC, &r.Value, &r.Addr, &r.Data}[field] ^= 1 << bit
				holdAgree(t, "a turned bit", changed(want, at, r), want, at, false)
			}
		}
	}
}
