package alu

import (
	"math"
	"math/big"
	"math/rand"
	"testing"

	"dioscuri/api"
)

const (
	least = 1 << 31
	most  = 1<<31 - 1
	all   = math.MaxUint32
)

// twins: each op with an immediate, and the op of registers that reckons the same.
var twins = [][2]int{
	{api.Addi, api.Add}, {api.Slti, api.Slt}, {api.Sltiu, api.Sltu}, {api.Xori, api.Xor}, {api.Ori, api.Or}, {api.Andi, api.And},
	{api.Slli, api.Sll}, {api.Srli, api.Srl}, {api.Srai, api.Sra},
}

// edges: numbers at which an op may turn, and their neighbours.
func edges() []uint32 {
	out := []uint32{3, 7, 10, 12, 100, 0x12345678, 0x55555555, 0xaaaaaaaa, 0xdeadbeef, all - 6, all - 99}
	for _, n := range []uint32{0, 1 << 15, 1 << 16, least} {
		out = append(out, n-2, n-1, n, n+1, n+2)
	}
	for n := range uint32(5) {
		out = append(out, 30+n, 62+n)
	}
	return out
}

// whole: n as a number without bounds, with a sign or without one.
func whole(n uint32, sign bool) *big.Int {
	out := new(big.Int).SetUint64(uint64(n))
	if sign && n >= least {
		out.Sub(out, new(big.Int).Lsh(big.NewInt(1), 32))
	}
	return out
}

// part: 32 bits of n, with twos' complement, from bit from on.
func part(n *big.Int, from uint) uint32 {
	n = new(big.Int).Rsh(n, from) // goes down, also below 0
	n.And(n, new(big.Int).SetUint64(all))
	return uint32(n.Uint64())
}

func truth(yes bool) uint32 {
	if yes {
		return 1
	}
	return 0
}

// bitwise: the number whose bit i is 1, where f says so of the bits i of a and b.
func bitwise(a, b uint32, f func(x, y bool) bool) uint32 {
	out := uint32(0)
	for i := range 32 {
		if f(a&(1<<i) != 0, b&(1<<i) != 0) {
			out += 1 << i
		}
	}
	return out
}

// plainSimple: an op of registers from Add to And, by numbers without bounds.
func plainSimple(op int, a, b uint32) uint32 {
	two := new(big.Int).Exp(big.NewInt(2), big.NewInt(int64(b%32)), nil)
	switch op {
	case api.Add:
		return part(new(big.Int).Add(whole(a, true), whole(b, true)), 0)
	case api.Sub:
		return part(new(big.Int).Sub(whole(a, true), whole(b, true)), 0)
	case api.Sll:
		return part(new(big.Int).Mul(whole(a, false), two), 0)
	case api.Srl:
		return part(new(big.Int).Div(whole(a, false), two), 0)
	case api.Sra:
		return part(new(big.Int).Div(whole(a, true), two), 0) // big's Div goes down
	case api.Slt:
		return truth(whole(a, true).Cmp(whole(b, true)) < 0)
	case api.Sltu:
		return truth(whole(a, false).Cmp(whole(b, false)) < 0)
	case api.Xor:
		return bitwise(a, b, func(x, y bool) bool { return x != y })
	case api.Or:
		return bitwise(a, b, func(x, y bool) bool { return x || y })
	case api.And:
		return bitwise(a, b, func(x, y bool) bool { return x && y })
	}
	return 0
}

// plainSlow: an op from Mul to Remu, by numbers without bounds.
func plainSlow(op int, a, b uint32) uint32 {
	sign := op == api.Div || op == api.Rem || op == api.Mulh || op == api.Mul
	x, y := whole(a, sign || op == api.Mulhsu), whole(b, sign)
	switch op {
	case api.Mul:
		return part(new(big.Int).Mul(x, y), 0)
	case api.Mulh, api.Mulhsu, api.Mulhu:
		return part(new(big.Int).Mul(x, y), 32)
	case api.Div, api.Divu:
		if b == 0 {
			return all
		}
		return part(new(big.Int).Quo(x, y), 0)
	case api.Rem, api.Remu:
		if b == 0 {
			return a
		}
		return part(new(big.Int).Rem(x, y), 0)
	}
	return 0
}

// plainDo: Do of any op, by numbers without bounds.
func plainDo(op int, a, b uint32) uint32 {
	for _, two := range twins {
		if op == two[0] {
			op = two[1]
		}
	}
	if op >= api.Mul && op <= api.Remu {
		return plainSlow(op, a, b)
	}
	return plainSimple(op, a, b)
}

// plainTaken: Taken of any op, by numbers without bounds.
func plainTaken(op int, a, b uint32) bool {
	signed, plain := whole(a, true).Cmp(whole(b, true)), whole(a, false).Cmp(whole(b, false))
	switch op {
	case api.Beq:
		return plain == 0
	case api.Bne:
		return plain != 0
	case api.Blt:
		return signed < 0
	case api.Bge:
		return signed >= 0
	case api.Bltu:
		return plain < 0
	case api.Bgeu:
		return plain >= 0
	}
	return false
}

// hold: every op that there is, and its neighbours, on a and b.
func hold(t *testing.T, a, b uint32) {
	t.Helper()
	for op := -2; op <= api.Csrrci+2; op++ {
		if got, want := Do(op, a, b), plainDo(op, a, b); got != want {
			t.Fatalf("P7.1: Do(%d, %#x, %#x): %#x, not %#x", op, a, b, got, want)
		}
		if got, want := Taken(op, a, b), plainTaken(op, a, b); got != want {
			t.Fatalf("P7.1: Taken(%d, %#x, %#x): %v", op, a, b, got)
		}
	}
}

type sum struct {
	op         int
	a, b, want uint32
}

func check(t *testing.T, sums []sum) {
	t.Helper()
	for _, c := range sums {
		if got := Do(c.op, c.a, c.b); got != c.want {
			t.Errorf("P7.1: Do(%d, %#x, %#x): %#x, not %#x", c.op, c.a, c.b, got, c.want)
		}
	}
}

// P7.1: the chapter's run and examples.
func TestChapter(t *testing.T) {
	check(t, []sum{{api.Div, 7, 0, 1<<32 - 1}, {api.Sra, 0x80000000, 31, all}})
	for _, a := range edges() {
		for _, b := range edges() {
			if Taken(api.Add, a, b) {
				t.Fatalf("P7.1: Taken(Add, %#x, %#x)", a, b)
			}
		}
	}
}

// P7.1: an ordinary number of every op that reckons.
func TestOrdinary(t *testing.T) {
	sums := []sum{
		{api.Add, 5, 7, 12}, {api.Sub, 7, 5, 2}, {api.Sll, 3, 4, 48}, {api.Slt, 3, 4, 1}, {api.Sltu, 3, 4, 1}, {api.Xor, 12, 10, 6}, {api.Srl, 48, 4, 3}, {api.Sra, 48, 4, 3}, {api.Or, 12, 10, 14}, {api.And, 12, 10, 8},
		{api.Addi, 5, all - 2, 2}, {api.Slti, 3, 4, 1}, {api.Sltiu, 3, 4, 1}, {api.Xori, 12, 10, 6}, {api.Ori, 12, 10, 14}, {api.Andi, 12, 10, 8}, {api.Slli, 3, 4, 48}, {api.Srli, 48, 4, 3}, {api.Srai, all - 47, 4, all - 2},
		{api.Mul, 6, 7, 42}, {api.Mulh, 0x12345678, 0x12345678, 0x014b66dc}, {api.Mulhsu, 0x12345678, 0x9abcdef0, 0x0b00ea4e}, {api.Mulhu, 0x9abcdef0, 0x12345678, 0x0b00ea4e},
		{api.Div, 43, 7, 6}, {api.Divu, 43, 7, 6}, {api.Rem, 43, 7, 1}, {api.Remu, 43, 7, 1},
	}
	seen := map[int]int{}
	for _, c := range sums {
		seen[c.op]++
	}
	for op := api.Addi; op <= api.Remu; op++ {
		if seen[op] != 1 {
			t.Errorf("op %d stands here %d times", op, seen[op])
		}
	}
	check(t, sums)
}

// P7.1: sums and differences that go round, and what is less with a sign and without one.
func TestRound(t *testing.T) {
	check(t, []sum{
		{api.Add, all, 1, 0}, {api.Add, least, least, 0}, {api.Add, most, 1, least}, {api.Addi, 0, all, all}, {api.Addi, least, all, most},
		{api.Sub, 0, 1, all}, {api.Sub, least, 1, most}, {api.Sub, 0, least, least}, {api.Sub, all, all, 0},
		{api.Slt, all, 0, 1}, {api.Slt, 0, all, 0}, {api.Slt, least, most, 1}, {api.Slt, most, least, 0}, {api.Slt, least, least, 0}, {api.Slti, all, 1, 1}, {api.Slti, 0, all, 0},
		{api.Sltu, all, 0, 0}, {api.Sltu, 0, all, 1}, {api.Sltu, least, most, 0}, {api.Sltu, most, least, 1}, {api.Sltu, all, all, 0}, {api.Sltiu, 0, 1, 1}, {api.Sltiu, 1, 1, 0}, {api.Sltiu, 5, all, 1},
		{api.Xori, 0x12345678, all, 0xedcba987}, {api.Ori, 0x12345678, all, all}, {api.Andi, 0x12345678, all, 0x12345678}, {api.And, all, 0, 0},
	})
}

// P7.1: shifts by b's lowest five bits.
func TestShifts(t *testing.T) {
	check(t, []sum{
		{api.Sll, 3, 0, 3}, {api.Sll, 3, 31, least}, {api.Sll, 3, 32, 3}, {api.Sll, 3, 33, 6}, {api.Sll, 3, all, least},
		{api.Srl, all, 0, all}, {api.Srl, all, 31, 1}, {api.Srl, all, 32, all}, {api.Srl, all, 33, most}, {api.Srl, all, all, 1},
		{api.Sra, least, 0, least}, {api.Sra, least, 31, all}, {api.Sra, least, 32, least}, {api.Sra, least, 33, 0xc0000000}, {api.Sra, least, all, all}, {api.Sra, most, 31, 0}, {api.Sra, most, 30, 1},
		{api.Slli, 3, 0, 3}, {api.Slli, 3, 31, least}, {api.Slli, 3, 32, 3}, {api.Slli, 3, all, least},
		{api.Srli, least, 0, least}, {api.Srli, least, 31, 1}, {api.Srli, least, 32, least}, {api.Srli, least, all, 1},
		{api.Srai, least, 0, least}, {api.Srai, least, 31, all}, {api.Srai, least, 32, least}, {api.Srai, least, all, all},
	})
	for _, op := range []int{api.Sll, api.Srl, api.Sra, api.Slli, api.Srli, api.Srai} {
		for _, a := range edges() {
			for b := range uint32(32) {
				for _, more := range []uint32{32, 64, 256, 1 << 16, least, all - 31} {
					if Do(op, a, b) != Do(op, a, b|more) {
						t.Fatalf("P7.1: Do(%d, %#x, %#x) hangs on more than five bits", op, a, b|more)
					}
				}
			}
		}
	}
}

// P7.1: the halves of products, with signs and without.
func TestProducts(t *testing.T) {
	check(t, []sum{
		{api.Mul, all, all, 1}, {api.Mul, least, 2, 0}, {api.Mul, 0x10001, 0x10001, 0x20001}, {api.Mul, all, 5, all - 4},
		{api.Mulh, all, all, 0}, {api.Mulh, least, least, 0x40000000}, {api.Mulh, least, most, 0xc0000000}, {api.Mulh, most, most, 0x3fffffff}, {api.Mulh, all, 1, all}, {api.Mulh, 1, all, all}, {api.Mulh, all, 0, 0},
		{api.Mulhsu, all, all, all}, {api.Mulhsu, least, least, 0xc0000000}, {api.Mulhsu, most, all, most - 1}, {api.Mulhsu, least, all, least}, {api.Mulhsu, all, 1, all}, {api.Mulhsu, 1, all, 0}, {api.Mulhsu, 2, all, 1}, {api.Mulhsu, all, 0, 0},
		{api.Mulhu, all, all, all - 1}, {api.Mulhu, least, least, 0x40000000}, {api.Mulhu, least, 2, 1}, {api.Mulhu, all, 1, 0}, {api.Mulhu, most, most, 0x3fffffff},
	})
}

// P7.1: quotients and rests: towards 0, by 0, and of the least number by -1.
func TestDivisions(t *testing.T) {
	check(t, []sum{
		{api.Div, 7, 2, 3}, {api.Div, all - 6, 2, all - 2}, {api.Div, 7, all - 1, all - 2}, {api.Div, all - 6, all - 1, 3}, {api.Div, least, all, least}, {api.Div, most, all, least + 1}, {api.Div, least, 1, least}, {api.Div, most, least, 0},
		{api.Rem, 7, 2, 1}, {api.Rem, all - 6, 2, all}, {api.Rem, 7, all - 1, 1}, {api.Rem, all - 6, all - 1, all}, {api.Rem, least, all, 0}, {api.Rem, most, all, 0}, {api.Rem, most, least, most}, {api.Rem, least, most, all},
		{api.Divu, all, 2, most}, {api.Divu, least, all, 0}, {api.Divu, all, least, 1}, {api.Divu, all, all, 1}, {api.Divu, all, 1, all},
		{api.Remu, all, 16, 15}, {api.Remu, least, all, least}, {api.Remu, all, least, most}, {api.Remu, all, all, 0}, {api.Remu, all, 1, 0},
	})
	for _, a := range edges() {
		check(t, []sum{{api.Div, a, 0, all}, {api.Divu, a, 0, all}, {api.Rem, a, 0, a}, {api.Remu, a, 0, a}})
	}
}

// P7.1: each branch, taken and not taken.
func TestBranches(t *testing.T) {
	for _, c := range []struct {
		a, b uint32
		want [6]bool // Beq, Bne, Blt, Bge, Bltu, Bgeu
	}{
		{5, 5, [6]bool{true, false, false, true, false, true}}, {0, 0, [6]bool{true, false, false, true, false, true}}, {all, all, [6]bool{true, false, false, true, false, true}}, {least, least, [6]bool{true, false, false, true, false, true}},
		{1, 2, [6]bool{false, true, true, false, true, false}}, {0, most, [6]bool{false, true, true, false, true, false}}, {least, all, [6]bool{false, true, true, false, true, false}},
		{2, 1, [6]bool{false, true, false, true, false, true}}, {most, 0, [6]bool{false, true, false, true, false, true}}, {all, least, [6]bool{false, true, false, true, false, true}},
		{all, 0, [6]bool{false, true, true, false, false, true}}, {least, most, [6]bool{false, true, true, false, false, true}},
		{0, all, [6]bool{false, true, false, true, true, false}}, {most, least, [6]bool{false, true, false, true, true, false}},
	} {
		for k, want := range c.want {
			if got := Taken(api.Beq+k, c.a, c.b); got != want {
				t.Errorf("P7.1: Taken(%d, %#x, %#x): %v", api.Beq+k, c.a, c.b, got)
			}
		}
	}
}

// P7.1: every op on every two of the edges.
func TestEdges(t *testing.T) {
	for _, a := range edges() {
		for _, b := range edges() {
			hold(t, a, b)
		}
	}
}

// P7.1: every op on scattered numbers, of every size.
func TestScattered(t *testing.T) {
	source := rand.New(rand.NewSource(71))
	for range 3000 {
		a, b := source.Uint32()>>source.Intn(32), source.Uint32()>>source.Intn(32)
		for _, x := range []uint32{a, -a} {
			for _, y := range []uint32{b, -b} {
				hold(t, x, y)
			}
		}
	}
}

// P7.1: ops that the package does not reckon, and numbers that are no op, of any size.
func TestOtherOps(t *testing.T) {
	none := []int{math.MinInt, math.MinInt + api.Add, math.MinInt32 - 1, math.MinInt32, -1 << 16, -api.Add, -api.Beq, -2, -1, 0, api.Csrrci + 1, api.Csrrci + 2, 64, 99, 128, 256 + api.Add, 256 + api.Beq, 1<<16 + api.Mul, 1<<32 + api.Add, 1<<32 + api.Beq, math.MaxInt32, math.MaxInt - 1, math.MaxInt}
	for op := api.Lui; op <= api.Csrrci; op++ {
		if op < api.Addi || op > api.Remu {
			none = append(none, op)
		}
	}
	for _, a := range edges() {
		for _, b := range edges() {
			for _, op := range none {
				if got := Do(op, a, b); got != 0 {
					t.Fatalf("P7.1: Do(%d, %#x, %#x): %#x", op, a, b, got)
				}
				if (op < api.Beq || op > api.Bgeu) && Taken(op, a, b) {
					t.Fatalf("P7.1: Taken(%d, %#x, %#x)", op, a, b)
				}
			}
			for op := api.Lb; op <= api.Csrrci; op++ {
				if Taken(op, a, b) {
					t.Fatalf("P7.1: Taken(%d, %#x, %#x)", op, a, b)
				}
			}
		}
	}
}
