package decode

import (
	"math"
	"math/rand"
	"testing"

	"dioscuri/api"
)

// kind: an instruction as a pattern: which bits of a word it asks for, and the letter of its format.
type kind struct {
	op          int
	mask, match uint32
	format      byte
}

// The letters: R, I, S, B, U, J as RISC-V's, H a shift by a number, C a Csr op, Z a Csr op with five bits, N none.
var kinds = []kind{
	{api.Lui, 0x7f, 0x37, 'U'}, {api.Auipc, 0x7f, 0x17, 'U'}, {api.Jal, 0x7f, 0x6f, 'J'}, {api.Jalr, 0x707f, 0x67, 'I'},
	{api.Beq, 0x707f, 0x63, 'B'}, {api.Bne, 0x707f, 0x1063, 'B'}, {api.Blt, 0x707f, 0x4063, 'B'}, {api.Bge, 0x707f, 0x5063, 'B'}, {api.Bltu, 0x707f, 0x6063, 'B'}, {api.Bgeu, 0x707f, 0x7063, 'B'},
	{api.Lb, 0x707f, 0x3, 'I'}, {api.Lh, 0x707f, 0x1003, 'I'}, {api.Lw, 0x707f, 0x2003, 'I'}, {api.Lbu, 0x707f, 0x4003, 'I'}, {api.Lhu, 0x707f, 0x5003, 'I'},
	{api.Sb, 0x707f, 0x23, 'S'}, {api.Sh, 0x707f, 0x1023, 'S'}, {api.Sw, 0x707f, 0x2023, 'S'},
	{api.Addi, 0x707f, 0x13, 'I'}, {api.Slti, 0x707f, 0x2013, 'I'}, {api.Sltiu, 0x707f, 0x3013, 'I'}, {api.Xori, 0x707f, 0x4013, 'I'}, {api.Ori, 0x707f, 0x6013, 'I'}, {api.Andi, 0x707f, 0x7013, 'I'},
	{api.Slli, 0xfe00707f, 0x1013, 'H'}, {api.Srli, 0xfe00707f, 0x5013, 'H'}, {api.Srai, 0xfe00707f, 0x40005013, 'H'},
	{api.Add, 0xfe00707f, 0x33, 'R'}, {api.Sub, 0xfe00707f, 0x40000033, 'R'}, {api.Sll, 0xfe00707f, 0x1033, 'R'}, {api.Slt, 0xfe00707f, 0x2033, 'R'}, {api.Sltu, 0xfe00707f, 0x3033, 'R'},
	{api.Xor, 0xfe00707f, 0x4033, 'R'}, {api.Srl, 0xfe00707f, 0x5033, 'R'}, {api.Sra, 0xfe00707f, 0x40005033, 'R'}, {api.Or, 0xfe00707f, 0x6033, 'R'}, {api.And, 0xfe00707f, 0x7033, 'R'},
	{api.Mul, 0xfe00707f, 0x2000033, 'R'}, {api.Mulh, 0xfe00707f, 0x2001033, 'R'}, {api.Mulhsu, 0xfe00707f, 0x2002033, 'R'}, {api.Mulhu, 0xfe00707f, 0x2003033, 'R'},
	{api.Div, 0xfe00707f, 0x2004033, 'R'}, {api.Divu, 0xfe00707f, 0x2005033, 'R'}, {api.Rem, 0xfe00707f, 0x2006033, 'R'}, {api.Remu, 0xfe00707f, 0x2007033, 'R'},
	{api.Fence, 0x707f, 0xf, 'N'}, {api.Ecall, 0xffffffff, 0x73, 'N'}, {api.Ebreak, 0xffffffff, 0x100073, 'N'}, {api.Mret, 0xffffffff, 0x30200073, 'N'},
	{api.Csrrw, 0x707f, 0x1073, 'C'}, {api.Csrrs, 0x707f, 0x2073, 'C'}, {api.Csrrc, 0x707f, 0x3073, 'C'}, {api.Csrrwi, 0x707f, 0x5073, 'Z'}, {api.Csrrsi, 0x707f, 0x6073, 'Z'}, {api.Csrrci, 0x707f, 0x7073, 'Z'},
}

// places: of which bits of a word the immediate of a format is made, its lowest first; -1 is a bit that is always 0.
func places(format byte) []int {
	run := func(bits []int, from, to int) []int {
		for i := from; i <= to; i++ {
			bits = append(bits, i)
		}
		return bits
	}
	switch format {
	case 'I', 'C', 'Z':
		return run(nil, 20, 31)
	case 'H':
		return run(nil, 20, 24)
	case 'S':
		return run(run(nil, 7, 11), 25, 31)
	case 'B':
		return append(run(run([]int{-1}, 8, 11), 25, 30), 7, 31)
	case 'U':
		return run([]int{-1, -1, -1, -1, -1, -1, -1, -1, -1, -1, -1, -1}, 12, 31)
	case 'J':
		return append(run(append(run([]int{-1}, 21, 30), 20), 12, 19), 31)
	}
	return nil
}

// signed: has the immediate of the format a sign?
func signed(format byte) bool {
	return format != 'H' && format != 'C' && format != 'Z'
}

// plainImm: the immediate as a sum of what each bit is worth.
func plainImm(format byte, w uint32) int32 {
	bits := places(format)
	sum := int64(0)
	for i, place := range bits {
		worth := int64(1) << i
		if signed(format) && i == len(bits)-1 {
			worth = -worth
		}
		if place >= 0 && w&(1<<place) != 0 {
			sum += worth
		}
	}
	return int32(sum)
}

// has: has the format an rd, an rs1, an rs2?
func has(format byte) (bool, bool, bool) {
	switch format {
	case 'R':
		return true, true, true
	case 'I', 'H', 'C', 'Z':
		return true, true, false
	case 'S', 'B':
		return false, true, true
	case 'U', 'J':
		return true, false, false
	}
	return false, false, false
}

// plainDecode: Decode by going through the patterns.
func plainDecode(w uint32) (api.Inst, bool) {
	for _, k := range kinds {
		if w&k.mask != k.match {
			continue
		}
		i := api.Inst{Op: k.op, Imm: plainImm(k.format, w)}
		rd, rs1, rs2 := has(k.format)
		if rd {
			i.Rd = int(w / (1 << 7) % 32)
		}
		if rs1 {
			i.Rs1 = int(w / (1 << 15) % 32)
		}
		if rs2 {
			i.Rs2 = int(w / (1 << 20) % 32)
		}
		return i, true
	}
	return api.Inst{}, false
}

func hold(t *testing.T, w uint32) {
	t.Helper()
	got, ok := Decode(w)
	want, wantOK := plainDecode(w)
	if got != want || ok != wantOK {
		t.Fatalf("P5.1: Decode(%#08x): %v, %v, not %v, %v", w, got, ok, want, wantOK)
	}
}

// fill: k's word with bits of w where k leaves them open.
func (k kind) fill(w uint32) uint32 {
	return k.match | w&^k.mask
}

// P5.1: the chapter's run and examples.
func TestChapter(t *testing.T) {
	if got, ok := Decode(0x00000013); got != (api.Inst{Op: api.Addi}) || !ok {
		t.Errorf("P5.1: Decode(0x00000013): %v, %v", got, ok)
	}
	if got, ok := Decode(0); got != (api.Inst{}) || ok {
		t.Errorf("P5.1: Decode(0): %v, %v", got, ok)
	}
	if got, ok := Decode(0x40515093 | 1<<25); got != (api.Inst{}) || ok {
		t.Errorf("P5.1: SRAI with bit 25 set: %v, %v", got, ok)
	}
}

// P5.1: some instructions by their numbers, with the edges of registers, immediates and shifts.
func TestByNumber(t *testing.T) {
	for _, c := range []struct {
		w    uint32
		want api.Inst
	}{
		{0x7ff00013, api.Inst{Op: api.Addi, Imm: 2047}}, {0x800f8f93, api.Inst{Op: api.Addi, Rd: 31, Rs1: 31, Imm: -2048}},
		{0x80000067, api.Inst{Op: api.Jalr, Imm: -2048}}, {0x7fff8fe7, api.Inst{Op: api.Jalr, Rd: 31, Rs1: 31, Imm: 2047}},
		{0x7fff8f83, api.Inst{Op: api.Lb, Rd: 31, Rs1: 31, Imm: 2047}}, {0x80002003, api.Inst{Op: api.Lw, Imm: -2048}},
		{0x7fffafa3, api.Inst{Op: api.Sw, Rs1: 31, Rs2: 31, Imm: 2047}}, {0x80000023, api.Inst{Op: api.Sb, Imm: -2048}},
		{0x7fff8fe3, api.Inst{Op: api.Beq, Rs1: 31, Rs2: 31, Imm: 4094}}, {0x80000063, api.Inst{Op: api.Beq, Imm: -4096}},
		{0x7fffffb7, api.Inst{Op: api.Lui, Rd: 31, Imm: 0x7ffff000}}, {0x80000037, api.Inst{Op: api.Lui, Imm: math.MinInt32}}, {0xfffff017, api.Inst{Op: api.Auipc, Imm: -4096}}, {0x00001017, api.Inst{Op: api.Auipc, Imm: 4096}},
		{0x7fffffef, api.Inst{Op: api.Jal, Rd: 31, Imm: 1048574}}, {0x8000006f, api.Inst{Op: api.Jal, Imm: -1048576}}, {0xffffffef, api.Inst{Op: api.Jal, Rd: 31, Imm: -2}},
		{0x00001013, api.Inst{Op: api.Slli}}, {0x01ff9f93, api.Inst{Op: api.Slli, Rd: 31, Rs1: 31, Imm: 31}}, {0x00005013, api.Inst{Op: api.Srli}}, {0x01ffdf93, api.Inst{Op: api.Srli, Rd: 31, Rs1: 31, Imm: 31}},
		{0x40005013, api.Inst{Op: api.Srai}}, {0x41ffdf93, api.Inst{Op: api.Srai, Rd: 31, Rs1: 31, Imm: 31}},
		{0x00000033, api.Inst{Op: api.Add}}, {0x41ff8fb3, api.Inst{Op: api.Sub, Rd: 31, Rs1: 31, Rs2: 31}}, {0x03ffffb3, api.Inst{Op: api.Remu, Rd: 31, Rs1: 31, Rs2: 31}},
		{0x0ff0000f, api.Inst{Op: api.Fence}}, {0x8330000f, api.Inst{Op: api.Fence}}, {0xffff8f8f, api.Inst{Op: api.Fence}},
		{0x00000073, api.Inst{Op: api.Ecall}}, {0x00100073, api.Inst{Op: api.Ebreak}}, {0x30200073, api.Inst{Op: api.Mret}},
		{0x00001073, api.Inst{Op: api.Csrrw}}, {0xffff9ff3, api.Inst{Op: api.Csrrw, Rd: 31, Rs1: 31, Imm: 0xfff}}, {0x7ff02073, api.Inst{Op: api.Csrrs, Imm: 0x7ff}}, {0x80003073, api.Inst{Op: api.Csrrc, Imm: 0x800}},
		{0xffffdff3, api.Inst{Op: api.Csrrwi, Rd: 31, Rs1: 31, Imm: 0xfff}}, {0x34306073, api.Inst{Op: api.Csrrsi, Imm: api.Mtval}}, {0x00007073, api.Inst{Op: api.Csrrci}},
	} {
		if got, ok := Decode(c.w); got != c.want || !ok {
			t.Errorf("P5.1: Decode(%#08x): %v, %v, not %v", c.w, got, ok, c.want)
		}
	}
}

// P5.1: each op there is has a pattern, and its words decode to it: with all open bits 0, 1, each alone, each missing, and scattered ones.
func TestEachOp(t *testing.T) {
	if len(kinds) != api.Csrrci {
		t.Fatalf("%d patterns", len(kinds))
	}
	source := rand.New(rand.NewSource(51))
	for n, k := range kinds {
		if k.op != n+1 {
			t.Fatalf("pattern %d is of op %d", n, k.op)
		}
		open := []uint32{0, math.MaxUint32}
		for bit := range 32 {
			open = append(open, 1<<bit, ^(uint32(1) << bit))
		}
		for range 200 {
			open = append(open, source.Uint32())
		}
		for _, w := range open {
			if got, ok := Decode(k.fill(w)); got.Op != k.op || !ok {
				t.Fatalf("P5.1: Decode(%#08x): %v, %v, not op %d", k.fill(w), got, ok, k.op)
			}
			hold(t, k.fill(w))
		}
	}
}

// P5.1: each opcode with each funct3 and funct7, the other bits 0, 1 and scattered.
func TestEachCode(t *testing.T) {
	source := rand.New(rand.NewSource(52))
	for opcode := range uint32(128) {
		for funct3 := range uint32(8) {
			for funct7 := range uint32(128) {
				w := funct7<<25 | funct3<<12 | opcode
				for _, rest := range []uint32{0, math.MaxUint32, source.Uint32()} {
					hold(t, w|rest&0x01ff8f80)
				}
			}
		}
	}
}

// P5.1: words one and two bits away from those that are instructions as they are, and the neighbours of SYSTEM with funct3 0.
func TestNearBare(t *testing.T) {
	for _, w := range []uint32{0x00000073, 0x00100073, 0x30200073} {
		for a := range 32 {
			for b := range 32 {
				hold(t, w^1<<a)
				hold(t, w^1<<a^1<<b)
			}
		}
	}
	for number := range uint32(4096) {
		w := number<<20 | 0x73
		_, ok := Decode(w)
		if want := number == 0 || number == 1 || number == 0x302; ok != want {
			t.Errorf("P5.1: Decode(%#08x): %v", w, ok)
		}
		hold(t, w|1<<7)
		hold(t, w|1<<15)
	}
}

// P5.1: a Csr op of any number, whether there is such a CSR or not.
func TestEachCsr(t *testing.T) {
	for number := range uint32(4096) {
		for _, funct3 := range []uint32{1, 2, 3, 4, 5, 6, 7} {
			w := number<<20 | 17<<15 | funct3<<12 | 9<<7 | 0x73
			got, ok := Decode(w)
			if ok != (funct3 != 4) || ok && (got.Imm != int32(number) || got.Rs1 != 17 || got.Rd != 9 || got.Rs2 != 0) {
				t.Fatalf("P5.1: Decode(%#08x): %v, %v", w, got, ok)
			}
		}
	}
}

// P5.1: scattered words.
func TestScattered(t *testing.T) {
	source := rand.New(rand.NewSource(53))
	for range 200000 {
		w := source.Uint32()
		hold(t, w)
		hold(t, w|3)
	}
}

// P5.2: every op, with each register's number, 0 among them: what its format says.
func TestJudge(t *testing.T) {
	for _, k := range kinds {
		rd, rs1, rs2 := has(k.format)
		slow := 0
		if k.op >= api.Mul && k.op <= api.Mulhu {
			slow = 1
		}
		if k.op >= api.Div && k.op <= api.Remu {
			slow = 2
		}
		for _, n := range []int{0, 1, 15, 31} {
			for _, m := range []int{0, 1, 31} {
				i := api.Inst{Op: k.op, Rd: n, Rs1: m, Rs2: 31 - m, Imm: int32(m - n)}
				if got := Writes(i); got != (rd && n != 0) {
					t.Errorf("P5.2: Writes(%v): %v", i, got)
				}
				// The five bits of Csrrwi and its like stand where rs1 does, and are no register.
				if a, b := Reads(i); a != (rs1 && k.format != 'Z') || b != rs2 {
					t.Errorf("P5.2: Reads(%v): %v, %v", i, a, b)
				}
				if got := Slow(i); got != slow {
					t.Errorf("P5.2: Slow(%v): %d", i, got)
				}
			}
		}
	}
}

// P5.2: some ops by name, so that the patterns above are not the only word on them.
func TestJudgeByName(t *testing.T) {
	for _, c := range []struct {
		op                int
		writes, one, both bool
		slow              int
	}{
		{api.Lui, true, false, false, 0}, {api.Jal, true, false, false, 0}, {api.Jalr, true, true, false, 0}, {api.Beq, false, true, true, 0}, {api.Bgeu, false, true, true, 0},
		{api.Lb, true, true, false, 0}, {api.Lhu, true, true, false, 0}, {api.Sb, false, true, true, 0}, {api.Sw, false, true, true, 0}, {api.Addi, true, true, false, 0}, {api.Srai, true, true, false, 0},
		{api.Add, true, true, true, 0}, {api.And, true, true, true, 0}, {api.Mul, true, true, true, 1}, {api.Mulhu, true, true, true, 1}, {api.Div, true, true, true, 2}, {api.Remu, true, true, true, 2},
		{api.Fence, false, false, false, 0}, {api.Ecall, false, false, false, 0}, {api.Ebreak, false, false, false, 0}, {api.Mret, false, false, false, 0},
		{api.Csrrw, true, true, false, 0}, {api.Csrrc, true, true, false, 0}, {api.Csrrwi, true, false, false, 0}, {api.Csrrci, true, false, false, 0},
	} {
		i := api.Inst{Op: c.op, Rd: 1}
		if a, b := Reads(i); Writes(i) != c.writes || a != c.one || b != c.both || Slow(i) != c.slow {
			t.Errorf("P5.2: op %d: %v, %v, %v, %d", c.op, Writes(i), a, b, Slow(i))
		}
	}
}

// P5.2: numbers that are no op, of any size, and registers that there are not.
func TestNoOp(t *testing.T) {
	for _, op := range []int{math.MinInt, math.MinInt32 - 1, math.MinInt32, -1 << 16, -56, -38, -2, -1, 0, api.Csrrci + 1, api.Csrrci + 2, 64, 99, 128, 256 + api.Mul, 1<<16 + api.Add, 1<<32 + api.Div, math.MaxInt32, math.MaxInt - 1, math.MaxInt} {
		for _, n := range []int{math.MinInt, -1, 0, 1, 31, 32, math.MaxInt} {
			i := api.Inst{Op: op, Rd: n, Rs1: n, Rs2: n, Imm: int32(n)}
			if a, b := Reads(i); Writes(i) || a || b || Slow(i) != 0 {
				t.Errorf("P5.2: of no op: %v: %v, %v, %v, %d", i, Writes(i), a, b, Slow(i))
			}
		}
	}
	for _, n := range []int{math.MinInt, -1, 32, 64, math.MaxInt} {
		i := api.Inst{Op: api.Add, Rd: n, Rs1: n, Rs2: n}
		if a, b := Reads(i); !Writes(i) || !a || !b {
			t.Errorf("P5.2: %v: %v, %v, %v", i, Writes(i), a, b)
		}
	}
}
