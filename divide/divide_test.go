package divide

import (
	"math"
	"math/big"
	"math/rand"
	"testing"

	"dioscuri/alu"
	"dioscuri/api"
)

const (
	least = 1 << 31
	most  = 1<<31 - 1
	all   = math.MaxUint32
)

// edges: numbers at which an op may turn, and their neighbours, beside ordinary ones.
func edges() []uint32 {
	out := []uint32{3, 7, 10, 43, 100, 0x12345678, 0x55555555, 0xaaaaaaaa, 0xdeadbeef, all - 6, all - 99}
	for _, n := range []uint32{0, 1 << 15, 1 << 16, least} {
		out = append(out, n-2, n-1, n, n+1, n+2)
	}
	return out
}

// whole: n as a number without bounds, with a sign or without one.
func whole(n uint32, sign bool) *big.Int {
	out := new(big.Int).SetUint64(uint64(n))
	if sign && n >= least {
		out.Sub(out, new(big.Int).Lsh(big.NewInt(1), 32))
	}
	return out
}

// part: 32 bits of n, with twos' complement, from bit from on.
func part(n *big.Int, from uint) uint32 {
	n = new(big.Int).Rsh(n, from)
	n.And(n, new(big.Int).SetUint64(all))
	return uint32(n.Uint64())
}

// plain: an op from Mul to Remu, by numbers without bounds.
func plain(op int, a, b uint32) uint32 {
	sign := op == api.Mul || op == api.Mulh || op == api.Div || op == api.Rem
	x, y := whole(a, sign || op == api.Mulhsu), whole(b, sign)
	switch op {
	case api.Mul:
		return part(new(big.Int).Mul(x, y), 0)
	case api.Mulh, api.Mulhsu, api.Mulhu:
		return part(new(big.Int).Mul(x, y), 32)
	case api.Div, api.Divu:
		if b == 0 {
			return all
		}
		return part(new(big.Int).Quo(x, y), 0)
	}
	if b == 0 {
		return a
	}
	return part(new(big.Int).Rem(x, y), 0)
}

// finish: steps u to its end, and holds each step ahead of that against the promise.
func finish(t *testing.T, u *Unit) {
	t.Helper()
	for k := 0; ; k++ {
		if k == 34 {
			t.Fatalf("P8.1: not done behind 34 steps")
		}
		if n := u.Steps(); n != k {
			t.Fatalf("P8.1: Steps behind %d: %d", k, n)
		}
		if x, ok := u.Result(); ok || x != 0 {
			t.Fatalf("P8.1: Result behind %d steps, ahead of the end: %#x, %v", k, x, ok)
		}
		if u.Step() {
			if n := u.Steps(); n != k+1 {
				t.Fatalf("P8.1: Steps at the end, behind %d: %d", k+1, n)
			}
			return
		}
	}
}

// hold: one op from its beginning to beyond its end; its answer is want.
func hold(t *testing.T, op int, a, b, want uint32) {
	t.Helper()
	u := New(op, a, b)
	if u == nil {
		t.Fatalf("P8.1: New(%d, %#x, %#x): nil", op, a, b)
	}
	finish(t, u)
	steps := u.Steps()
	if steps < 1 || steps > 34 {
		t.Fatalf("P8.1: Steps at the end of %d, %#x, %#x: %d", op, a, b, steps)
	}
	for k := range 40 {
		if x, ok := u.Result(); !ok || x != want {
			t.Fatalf("P8.1: Result of %d, %#x, %#x, %d steps beyond the end: %#x, %v, not %#x", op, a, b, k, x, ok, want)
		}
		if !u.Step() || u.Steps() != steps {
			t.Fatalf("P8.1: Step beyond the end of %d, %#x, %#x: Steps %d, not %d", op, a, b, u.Steps(), steps)
		}
	}
}

// holdAll: every op on a and b, by alu and by numbers without bounds.
func holdAll(t *testing.T, a, b uint32) {
	t.Helper()
	for op := api.Mul; op <= api.Remu; op++ {
		want := plain(op, a, b)
		if got := alu.Do(op, a, b); got != want {
			t.Fatalf("alu and the plain numbers are at odds: Do(%d, %#x, %#x): %#x, not %#x", op, a, b, got, want)
		}
		hold(t, op, a, b, want)
	}
}

// P8.1: the chapter's run and examples.
func TestChapter(t *testing.T) {
	if New(api.Add, 5, 7) != nil {
		t.Errorf("P8.1: New(Add, ..) is not nil")
	}
	if x, ok := New(api.Mul, 5, 7).Result(); ok || x != 0 {
		t.Errorf("P8.1: Result of a new one: %d, %v", x, ok)
	}
	for _, a := range edges() {
		hold(t, api.Div, a, 0, all)
	}
}

// P8.1: a unit of each op from Mul to Remu, and of no other, whatever its numbers.
func TestNew(t *testing.T) {
	for _, a := range edges() {
		for _, b := range edges() {
			for op := -70; op <= api.Csrrci+70; op++ {
				u, is := New(op, a, b), op >= api.Mul && op <= api.Remu
				if (u != nil) != is {
					t.Fatalf("P8.1: New(%d, %#x, %#x) is nil: %v", op, a, b, u == nil)
				}
				if is && u.Steps() != 0 {
					t.Fatalf("P8.1: Steps of a new one: %d", u.Steps())
				}
			}
		}
	}
}

// P8.1: ops that it does not do, and numbers that are no op, of any size.
func TestOtherOps(t *testing.T) {
	none := []int{
		api.Add, api.And, api.Fence, api.Beq, api.Bgeu, api.Csrrw, api.Csrrci, api.Lui, api.Mul - 1, api.Remu + 1, 0, -1, -api.Mul, -api.Remu,
		api.Csrrci + 1, 64, 99, 128, 256 + api.Mul, 256 + api.Remu, 1<<16 + api.Div, 1<<32 + api.Mul, 1<<32 + api.Remu, 1<<33 + api.Div,
		math.MinInt, math.MinInt + api.Mul, math.MinInt + api.Remu, math.MinInt32 - 1, math.MinInt32, -1 << 16, math.MaxInt32, math.MaxInt32 + 1, math.MaxInt - 1, math.MaxInt,
	}
	for _, op := range none {
		for _, n := range []uint32{0, 1, least, all} {
			if New(op, n, n) != nil {
				t.Errorf("P8.1: New(%d, %#x, %#x) is not nil", op, n, n)
			}
		}
	}
}

// P8.1: answers written out by hand, of each op.
func TestByHand(t *testing.T) {
	for _, c := range []struct {
		op         int
		a, b, want uint32
	}{
		{api.Mul, 6, 7, 42}, {api.Mul, all, all, 1}, {api.Mul, least, 2, 0}, {api.Mul, all, 5, all - 4}, {api.Mul, 0x10001, 0x10001, 0x20001},
		{api.Mulh, all, all, 0}, {api.Mulh, least, least, 0x40000000}, {api.Mulh, least, most, 0xc0000000}, {api.Mulh, all, 1, all}, {api.Mulh, 1, all, all}, {api.Mulh, all, 0, 0},
		{api.Mulhsu, all, all, all}, {api.Mulhsu, least, least, 0xc0000000}, {api.Mulhsu, 1, all, 0}, {api.Mulhsu, 2, all, 1}, {api.Mulhsu, all, 1, all}, {api.Mulhsu, all, 0, 0},
		{api.Mulhu, all, all, all - 1}, {api.Mulhu, least, 2, 1}, {api.Mulhu, all, 1, 0},
		{api.Div, 43, 7, 6}, {api.Div, all - 6, 2, all - 2}, {api.Div, 7, all - 1, all - 2}, {api.Div, all - 6, all - 1, 3}, {api.Div, least, all, least}, {api.Div, most, least, 0}, {api.Div, all, 0, all}, {api.Div, 0, 0, all},
		{api.Divu, 43, 7, 6}, {api.Divu, all, 2, most}, {api.Divu, least, all, 0}, {api.Divu, all, least, 1}, {api.Divu, 7, 0, all}, {api.Divu, least, 0, all},
		{api.Rem, 43, 7, 1}, {api.Rem, all - 6, 2, all}, {api.Rem, 7, all - 1, 1}, {api.Rem, all - 6, all - 1, all}, {api.Rem, least, all, 0}, {api.Rem, least, most, all}, {api.Rem, least, 0, least}, {api.Rem, 7, 0, 7},
		{api.Remu, 43, 7, 1}, {api.Remu, all, 16, 15}, {api.Remu, least, all, least}, {api.Remu, all, least, most}, {api.Remu, all, 0, all}, {api.Remu, 0, 0, 0},
	} {
		hold(t, c.op, c.a, c.b, c.want)
	}
}

// P8.1: every op on every two of the edges.
func TestEdges(t *testing.T) {
	for _, a := range edges() {
		for _, b := range edges() {
			holdAll(t, a, b)
		}
	}
}

// P8.1: every op on scattered numbers, of every size.
func TestScattered(t *testing.T) {
	source := rand.New(rand.NewSource(81))
	for range 1500 {
		a, b := source.Uint32()>>source.Intn(32), source.Uint32()>>source.Intn(32)
		for _, x := range []uint32{a, -a} {
			for _, y := range []uint32{b, -b} {
				holdAll(t, x, y)
			}
		}
	}
}

// P8.1: two units by turns do not touch each other.
func TestTwoUnits(t *testing.T) {
	one, two := New(api.Mul, 6, 7), New(api.Rem, all-6, 4)
	one.Step()
	if two.Steps() != 0 {
		t.Fatalf("P8.1: Steps of the other: %d", two.Steps())
	}
	for range 34 {
		one.Step()
		two.Step()
	}
	x, okX := one.Result()
	y, okY := two.Result()
	if !okX || !okY || x != 42 || y != all-2 {
		t.Errorf("P8.1: by turns: %d, %v and %#x, %v", x, okX, y, okY)
	}
}
