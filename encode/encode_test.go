package encode

import (
	"math"
	"math/rand"
	"strconv"
	"testing"

	"dioscuri/api"
	"dioscuri/decode"
)

func of(op, rd, rs1, rs2 int, imm int32) api.Inst {
	return api.Inst{Op: op, Rd: rd, Rs1: rs1, Rs2: rs2, Imm: imm}
}

// sample: an instruction, its word and its text.
type sample struct {
	i    api.Inst
	w    uint32
	text string
}

// ordinary: an instruction of every op, in the order of the ops.
var ordinary = []sample{
	{of(api.Lui, 5, 0, 0, 0x12345000), 0x123452b7, "lui x5 305418240"}, {of(api.Auipc, 6, 0, 0, -4096), 0xfffff317, "auipc x6 -4096"},
	{of(api.Jal, 1, 0, 0, 2048), 0x001000ef, "jal x1 2048"}, {of(api.Jalr, 1, 2, 0, -4), 0xffc100e7, "jalr x1 x2 -4"},
	{of(api.Beq, 0, 3, 4, 16), 0x00418863, "beq x3 x4 16"}, {of(api.Bne, 0, 5, 6, -16), 0xfe6298e3, "bne x5 x6 -16"}, {of(api.Blt, 0, 7, 8, 2046), 0x7e83cf63, "blt x7 x8 2046"},
	{of(api.Bge, 0, 9, 10, -2048), 0x80a4d0e3, "bge x9 x10 -2048"}, {of(api.Bltu, 0, 11, 12, 32), 0x02c5e063, "bltu x11 x12 32"}, {of(api.Bgeu, 0, 13, 14, -2), 0xfee6ffe3, "bgeu x13 x14 -2"},
	{of(api.Lb, 1, 2, 0, 5), 0x00510083, "lb x1 x2 5"}, {of(api.Lh, 3, 4, 0, -6), 0xffa21183, "lh x3 x4 -6"}, {of(api.Lw, 5, 6, 0, 100), 0x06432283, "lw x5 x6 100"},
	{of(api.Lbu, 7, 8, 0, -100), 0xf9c44383, "lbu x7 x8 -100"}, {of(api.Lhu, 9, 10, 0, 1000), 0x3e855483, "lhu x9 x10 1000"},
	{of(api.Sb, 0, 11, 12, 7), 0x00c583a3, "sb x11 x12 7"}, {of(api.Sh, 0, 13, 14, -8), 0xfee69c23, "sh x13 x14 -8"}, {of(api.Sw, 0, 15, 16, 1023), 0x3f07afa3, "sw x15 x16 1023"},
	{of(api.Addi, 1, 2, 0, -3), 0xffd10093, "addi x1 x2 -3"}, {of(api.Slti, 3, 4, 0, 77), 0x04d22193, "slti x3 x4 77"}, {of(api.Sltiu, 5, 6, 0, -77), 0xfb333293, "sltiu x5 x6 -77"},
	{of(api.Xori, 7, 8, 0, 255), 0x0ff44393, "xori x7 x8 255"}, {of(api.Ori, 9, 10, 0, -256), 0xf0056493, "ori x9 x10 -256"}, {of(api.Andi, 11, 12, 0, 15), 0x00f67593, "andi x11 x12 15"},
	{of(api.Slli, 13, 14, 0, 3), 0x00371693, "slli x13 x14 3"}, {of(api.Srli, 15, 16, 0, 17), 0x01185793, "srli x15 x16 17"}, {of(api.Srai, 17, 18, 0, 30), 0x41e95893, "srai x17 x18 30"},
	{of(api.Add, 1, 2, 3, 0), 0x003100b3, "add x1 x2 x3"}, {of(api.Sub, 4, 5, 6, 0), 0x40628233, "sub x4 x5 x6"}, {of(api.Sll, 7, 8, 9, 0), 0x009413b3, "sll x7 x8 x9"},
	{of(api.Slt, 10, 11, 12, 0), 0x00c5a533, "slt x10 x11 x12"}, {of(api.Sltu, 13, 14, 15, 0), 0x00f736b3, "sltu x13 x14 x15"}, {of(api.Xor, 16, 17, 18, 0), 0x0128c833, "xor x16 x17 x18"},
	{of(api.Srl, 19, 20, 21, 0), 0x015a59b3, "srl x19 x20 x21"}, {of(api.Sra, 22, 23, 24, 0), 0x418bdb33, "sra x22 x23 x24"}, {of(api.Or, 25, 26, 27, 0), 0x01bd6cb3, "or x25 x26 x27"}, {of(api.And, 28, 29, 30, 0), 0x01eefe33, "and x28 x29 x30"},
	{of(api.Mul, 1, 2, 3, 0), 0x023100b3, "mul x1 x2 x3"}, {of(api.Mulh, 4, 5, 6, 0), 0x02629233, "mulh x4 x5 x6"}, {of(api.Mulhsu, 7, 8, 9, 0), 0x029423b3, "mulhsu x7 x8 x9"}, {of(api.Mulhu, 10, 11, 12, 0), 0x02c5b533, "mulhu x10 x11 x12"},
	{of(api.Div, 13, 14, 15, 0), 0x02f746b3, "div x13 x14 x15"}, {of(api.Divu, 16, 17, 18, 0), 0x0328d833, "divu x16 x17 x18"}, {of(api.Rem, 19, 20, 21, 0), 0x035a69b3, "rem x19 x20 x21"}, {of(api.Remu, 22, 23, 24, 0), 0x038bfb33, "remu x22 x23 x24"},
	{of(api.Fence, 0, 0, 0, 0), 0x0000000f, "fence"}, {of(api.Ecall, 0, 0, 0, 0), 0x00000073, "ecall"}, {of(api.Ebreak, 0, 0, 0, 0), 0x00100073, "ebreak"}, {of(api.Mret, 0, 0, 0, 0), 0x30200073, "mret"},
	{of(api.Csrrw, 1, 2, 0, api.Mtvec), 0x305110f3, "csrrw x1 x2 773"}, {of(api.Csrrs, 3, 4, 0, api.Mscratch), 0x340221f3, "csrrs x3 x4 832"}, {of(api.Csrrc, 5, 6, 0, api.Mepc), 0x341332f3, "csrrc x5 x6 833"},
	{of(api.Csrrwi, 7, 8, 0, api.Mcause), 0x342453f3, "csrrwi x7 8 834"}, {of(api.Csrrsi, 9, 10, 0, api.Mtval), 0x343564f3, "csrrsi x9 10 835"}, {of(api.Csrrci, 11, 12, 0, 3072), 0xc00675f3, "csrrci x11 12 3072"},
}

// names: by op, "" where there is none.
var names = []string{"",
	"lui", "auipc", "jal", "jalr", "beq", "bne", "blt", "bge", "bltu", "bgeu", "lb", "lh", "lw", "lbu", "lhu", "sb", "sh", "sw",
	"addi", "slti", "sltiu", "xori", "ori", "andi", "slli", "srli", "srai", "add", "sub", "sll", "slt", "sltu", "xor", "srl", "sra", "or", "and",
	"mul", "mulh", "mulhsu", "mulhu", "div", "divu", "rem", "remu", "fence", "ecall", "ebreak", "mret", "csrrw", "csrrs", "csrrc", "csrrwi", "csrrsi", "csrrci",
}

// formats: by op, the letter of its format: R, I, S, B, U, J as RISC-V's, H a shift by a number, C a Csr op, Z a Csr op with five bits, N none.
const formats = " UUJIBBBBBBIIIIISSSIIIIIIHHHRRRRRRRRRRRRRRRRRRNNNNCCCZZZ"

// noOps: numbers that are no op, of any size; some have the low bits of one.
var noOps = []int{math.MinInt, math.MinInt + api.Add, math.MinInt32 - 1, math.MinInt32, -1 << 16, -256 + api.Addi, -56, -55, -19, -2, -1, 0, api.Csrrci + 1, api.Csrrci + 2, 64, 64 + api.Add, 128, 256 + api.Mul, 1<<16 + api.Add, 1<<32 + api.Addi, math.MaxInt32, math.MaxInt - 1, math.MaxInt}

// noRegisters: numbers that are none of a register, of any size; some have the low bits of one.
var noRegisters = []int{math.MinInt, math.MinInt32, -33, -32, -31, -2, -1, 32, 33, 63, 64, 256, 1 << 16, 1<<32 + 1, math.MaxInt32, math.MaxInt - 1, math.MaxInt}

// has: has the format an rd, an rs1, an rs2?
func has(format byte) (bool, bool, bool) {
	switch format {
	case 'R':
		return true, true, true
	case 'I', 'H', 'C', 'Z':
		return true, true, false
	case 'S', 'B':
		return false, true, true
	case 'U', 'J':
		return true, false, false
	}
	return false, false, false
}

// limits: the lowest and the highest immediate of the format, and how far apart two are.
func limits(format byte) (int64, int64, int64) {
	switch format {
	case 'I', 'S':
		return -2048, 2047, 1
	case 'B':
		return -4096, 4094, 2
	case 'U':
		return math.MinInt32, 0x7ffff000, 4096
	case 'J':
		return -1048576, 1048574, 2
	case 'H':
		return 0, 31, 1
	case 'C', 'Z':
		return 0, 4095, 1
	}
	return 0, 0, 1
}

// fits: may n stand where the format has a register (or has none)?
func fits(there bool, n int) bool {
	return n == 0 || there && n > 0 && n < 32
}

// encodable: is there a word for i?
func encodable(i api.Inst) bool {
	if i.Op < 1 || i.Op >= len(formats) {
		return false
	}
	rd, rs1, rs2 := has(formats[i.Op])
	low, high, step := limits(formats[i.Op])
	imm := int64(i.Imm)
	return fits(rd, i.Rd) && fits(rs1, i.Rs1) && fits(rs2, i.Rs2) && imm >= low && imm <= high && imm%step == 0
}

// plainText: Text, by the format's letter.
func plainText(i api.Inst) string {
	if i.Op < 1 || i.Op >= len(names) {
		return ""
	}
	text, format := names[i.Op], formats[i.Op]
	if !encodable(i) {
		return text
	}
	rd, rs1, rs2 := has(format)
	if rd {
		text += " x" + strconv.Itoa(i.Rd)
	}
	if rs1 && format == 'Z' {
		text += " " + strconv.Itoa(i.Rs1)
	} else if rs1 {
		text += " x" + strconv.Itoa(i.Rs1)
	}
	if rs2 {
		text += " x" + strconv.Itoa(i.Rs2)
	}
	if format != 'R' && format != 'N' {
		text += " " + strconv.FormatInt(int64(i.Imm), 10)
	}
	return text
}

// hold: i has a word just if it may, the word decodes to i, and the text is as it should be.
func hold(t *testing.T, i api.Inst) {
	t.Helper()
	w, ok := Encode(i)
	if ok != encodable(i) || !ok && w != 0 {
		t.Fatalf("P6.1: Encode(%v): %#08x, %v", i, w, ok)
	}
	if got, want := Text(i), plainText(i); got != want {
		t.Fatalf("P6.1: Text(%v): %q, not %q", i, got, want)
	}
	if !ok {
		return
	}
	if back, is := decode.Decode(w); !is || back != i {
		t.Fatalf("P6.2: %v is %#08x, and that is %v, %v", i, w, back, is)
	}
}

// refused: there is no word for i, and its text is its name.
func refused(t *testing.T, i api.Inst, name string) {
	t.Helper()
	if w, ok := Encode(i); w != 0 || ok {
		t.Errorf("P6.1: Encode(%v): %#08x, %v", i, w, ok)
	}
	if got := Text(i); got != name {
		t.Errorf("P6.1: Text(%v): %q", i, got)
	}
}

// written: the sample's instruction has its word and its text, and the word is the instruction again.
func written(t *testing.T, s sample) {
	t.Helper()
	if w, ok := Encode(s.i); w != s.w || !ok {
		t.Errorf("P6.1: Encode(%v): %#08x, %v, not %#08x", s.i, w, ok, s.w)
	}
	if got := Text(s.i); got != s.text {
		t.Errorf("P6.1: Text(%v): %q, not %q", s.i, got, s.text)
	}
	if back, ok := decode.Decode(s.w); back != s.i || !ok {
		t.Errorf("P6.2: Decode(%#08x): %v, %v, not %v", s.w, back, ok, s.i)
	}
}

// P6.1: the chapter's run and examples, and its word of Fence.
func TestChapter(t *testing.T) {
	if got := Text(of(api.Addi, 1, 2, 0, -3)); got != "addi x1 x2 -3" {
		t.Errorf("P6.1: Text(Addi 1, 2, -3): %q", got)
	}
	if w, ok := Encode(api.Inst{Op: api.Addi, Imm: 2048}); w != 0 || ok {
		t.Errorf("P6.1: Encode(Addi, Imm 2048): %#08x, %v", w, ok)
	}
	if got := Name(0); got != "" {
		t.Errorf("P6.1: Name(0): %q", got)
	}
	if w, ok := Encode(api.Inst{Op: api.Fence}); w != 0x0000000f || !ok {
		t.Errorf("P6.1: Encode(Fence): %#08x, %v", w, ok)
	}
}

// P6.1: an instruction of every op there is: its word, its name, its text.
func TestEachOp(t *testing.T) {
	if len(ordinary) != api.Csrrci || len(names) != api.Csrrci+1 || len(formats) != api.Csrrci+1 {
		t.Fatalf("%d samples, %d names, %d formats", len(ordinary), len(names), len(formats))
	}
	for n, s := range ordinary {
		if s.i.Op != n+1 {
			t.Fatalf("sample %d is of op %d", n, s.i.Op)
		}
		written(t, s)
		if got := Name(s.i.Op); got != names[s.i.Op] {
			t.Errorf("P6.1: Name(%d): %q, not %q", s.i.Op, got, names[s.i.Op])
		}
	}
}

// P6.1: words at the edges of registers, immediates, shifts and CSRs.
func TestEdgesByNumber(t *testing.T) {
	for _, s := range []sample{
		{of(api.Lui, 31, 0, 0, 0x7ffff000), 0x7fffffb7, "lui x31 2147479552"}, {of(api.Lui, 0, 0, 0, math.MinInt32), 0x80000037, "lui x0 -2147483648"}, {of(api.Auipc, 31, 0, 0, 0), 0x00000f97, "auipc x31 0"},
		{of(api.Jal, 0, 0, 0, -1048576), 0x8000006f, "jal x0 -1048576"}, {of(api.Jal, 31, 0, 0, 1048574), 0x7fffffef, "jal x31 1048574"}, {of(api.Jal, 31, 0, 0, -2), 0xffffffef, "jal x31 -2"}, {of(api.Jal, 0, 0, 0, 2048), 0x0010006f, "jal x0 2048"},
		{of(api.Jalr, 0, 0, 0, -2048), 0x80000067, "jalr x0 x0 -2048"}, {of(api.Jalr, 31, 31, 0, 2047), 0x7fff8fe7, "jalr x31 x31 2047"},
		{of(api.Beq, 0, 0, 0, -4096), 0x80000063, "beq x0 x0 -4096"}, {of(api.Bgeu, 0, 31, 31, 4094), 0x7fffffe3, "bgeu x31 x31 4094"}, {of(api.Bne, 0, 31, 0, -2), 0xfe0f9fe3, "bne x31 x0 -2"}, {of(api.Blt, 0, 0, 31, 2048), 0x01f040e3, "blt x0 x31 2048"},
		{of(api.Lb, 0, 0, 0, -2048), 0x80000003, "lb x0 x0 -2048"}, {of(api.Lhu, 31, 31, 0, 2047), 0x7fffdf83, "lhu x31 x31 2047"},
		{of(api.Sb, 0, 0, 0, -2048), 0x80000023, "sb x0 x0 -2048"}, {of(api.Sw, 0, 31, 31, 2047), 0x7fffafa3, "sw x31 x31 2047"}, {of(api.Sh, 0, 0, 31, 32), 0x03f01023, "sh x0 x31 32"}, {of(api.Sh, 0, 31, 0, 31), 0x000f9fa3, "sh x31 x0 31"},
		{of(api.Addi, 0, 0, 0, 0), 0x00000013, "addi x0 x0 0"}, {of(api.Addi, 31, 31, 0, 2047), 0x7fff8f93, "addi x31 x31 2047"}, {of(api.Andi, 0, 31, 0, -2048), 0x800ff013, "andi x0 x31 -2048"}, {of(api.Ori, 31, 0, 0, -1), 0xfff06f93, "ori x31 x0 -1"},
		{of(api.Slli, 0, 0, 0, 0), 0x00001013, "slli x0 x0 0"}, {of(api.Slli, 31, 31, 0, 31), 0x01ff9f93, "slli x31 x31 31"}, {of(api.Srli, 0, 31, 0, 0), 0x000fd013, "srli x0 x31 0"}, {of(api.Srli, 31, 0, 0, 31), 0x01f05f93, "srli x31 x0 31"},
		{of(api.Srai, 0, 0, 0, 0), 0x40005013, "srai x0 x0 0"}, {of(api.Srai, 31, 31, 0, 31), 0x41ffdf93, "srai x31 x31 31"},
		{of(api.Add, 0, 0, 0, 0), 0x00000033, "add x0 x0 x0"}, {of(api.Sub, 31, 31, 31, 0), 0x41ff8fb3, "sub x31 x31 x31"},
		{of(api.Remu, 31, 0, 0, 0), 0x02007fb3, "remu x31 x0 x0"}, {of(api.Remu, 0, 31, 0, 0), 0x020ff033, "remu x0 x31 x0"}, {of(api.Remu, 0, 0, 31, 0), 0x03f07033, "remu x0 x0 x31"},
		{of(api.Csrrw, 0, 0, 0, 0), 0x00001073, "csrrw x0 x0 0"}, {of(api.Csrrc, 31, 31, 0, 4095), 0xffffbff3, "csrrc x31 x31 4095"}, {of(api.Csrrs, 0, 31, 0, 2048), 0x800fa073, "csrrs x0 x31 2048"},
		{of(api.Csrrwi, 0, 0, 0, 0), 0x00005073, "csrrwi x0 0 0"}, {of(api.Csrrci, 31, 31, 0, 4095), 0xfffffff3, "csrrci x31 31 4095"}, {of(api.Csrrsi, 31, 0, 0, 2047), 0x7ff06ff3, "csrrsi x31 0 2047"},
	} {
		written(t, s)
	}
}

// P6.1: instructions by number that are just beyond what there is.
func TestBeyondByNumber(t *testing.T) {
	for _, i := range []api.Inst{
		of(api.Addi, 0, 0, 0, 2048), of(api.Addi, 0, 0, 0, -2049), of(api.Jalr, 0, 0, 0, 2048), of(api.Jalr, 0, 0, 0, -2049), of(api.Lw, 0, 0, 0, 2048), of(api.Lw, 0, 0, 0, -2049), of(api.Sw, 0, 0, 0, 2048), of(api.Sw, 0, 0, 0, -2049),
		of(api.Beq, 0, 0, 0, 4095), of(api.Beq, 0, 0, 0, 4096), of(api.Beq, 0, 0, 0, -4097), of(api.Beq, 0, 0, 0, -4098), of(api.Bne, 0, 0, 0, 1), of(api.Bne, 0, 0, 0, -1), of(api.Bgeu, 0, 0, 0, 17),
		of(api.Jal, 0, 0, 0, 1048575), of(api.Jal, 0, 0, 0, 1048576), of(api.Jal, 0, 0, 0, -1048577), of(api.Jal, 0, 0, 0, -1048578), of(api.Jal, 0, 0, 0, 1), of(api.Jal, 0, 0, 0, -1),
		of(api.Lui, 0, 0, 0, 1), of(api.Lui, 0, 0, 0, 2048), of(api.Lui, 0, 0, 0, -1), of(api.Lui, 0, 0, 0, math.MaxInt32), of(api.Auipc, 0, 0, 0, 4097), of(api.Auipc, 0, 0, 0, math.MinInt32+1),
		of(api.Slli, 0, 0, 0, 32), of(api.Slli, 0, 0, 0, -1), of(api.Srli, 0, 0, 0, 32), of(api.Srli, 0, 0, 0, -1), of(api.Srli, 0, 0, 0, 1024), of(api.Srli, 0, 0, 0, 1055), of(api.Srai, 0, 0, 0, 32), of(api.Srai, 0, 0, 0, -1), of(api.Srai, 0, 0, 0, 1024),
		of(api.Csrrw, 0, 0, 0, -1), of(api.Csrrw, 0, 0, 0, 4096), of(api.Csrrci, 0, 0, 0, -1), of(api.Csrrci, 0, 0, 0, 4096), of(api.Csrrwi, 0, 32, 0, 0), of(api.Csrrsi, 0, -1, 0, 0),
		of(api.Add, 0, 0, 0, 1), of(api.Mul, 0, 0, 0, -1), of(api.Fence, 0, 0, 0, 255), of(api.Fence, 1, 0, 0, 0), of(api.Fence, 0, 1, 0, 0), of(api.Ecall, 0, 0, 0, 1), of(api.Ecall, 0, 0, 1, 0), of(api.Ebreak, 0, 0, 0, 1), of(api.Mret, 0, 0, 2, 0), of(api.Mret, 0, 0, 0, 770),
	} {
		refused(t, i, names[i.Op])
	}
}

// P6.1: of every op the highest and the lowest immediate, the first beyond each, and those between two steps.
func TestImmediates(t *testing.T) {
	for op := api.Lui; op <= api.Csrrci; op++ {
		low, high, step := limits(formats[op])
		for _, imm := range []int64{low, low + step, 0, high - step, high} {
			if imm >= low && imm <= high {
				hold(t, of(op, 0, 0, 0, int32(imm)))
			}
		}
		if _, ok := Encode(of(op, 0, 0, 0, int32(low))); !ok {
			t.Errorf("P6.1: op %d has no immediate %d", op, low)
		}
		if _, ok := Encode(of(op, 0, 0, 0, int32(high))); !ok {
			t.Errorf("P6.1: op %d has no immediate %d", op, high)
		}
		for _, imm := range []int64{low - 2*step, low - step, low - 1, high + 1, high + step, high + 2*step, 8192, 1 << 21, math.MinInt32 + 1, math.MaxInt32} {
			if imm >= math.MinInt32 && imm <= math.MaxInt32 && (imm < low || imm > high || imm%step != 0) {
				refused(t, of(op, 0, 0, 0, int32(imm)), names[op])
			}
		}
		for between := int64(1); between < step; between++ {
			refused(t, of(op, 0, 0, 0, int32(between)), names[op])
			refused(t, of(op, 0, 0, 0, int32(-between)), names[op])
		}
	}
}

// P6.1, P6.2: of every op every immediate from far below to far above its limits.
func TestEachImmediate(t *testing.T) {
	for op := api.Lui; op <= api.Csrrci; op++ {
		for imm := int32(-9000); imm <= 9000; imm++ {
			hold(t, of(op, 0, 0, 0, imm))
		}
	}
	for imm := int32(-1<<20 - 10); imm <= 1<<20+10; imm++ {
		hold(t, of(api.Jal, 1, 0, 0, imm))
		hold(t, of(api.Lui, 1, 0, 0, imm<<12))
	}
}

// P6.1: of every op each register in each place, those that there are not, and an operand that the format has not.
func TestRegisters(t *testing.T) {
	for op := api.Lui; op <= api.Csrrci; op++ {
		rd, rs1, rs2 := has(formats[op])
		for n := range 32 {
			hold(t, of(op, n, 0, 0, 0))
			hold(t, of(op, 0, n, 0, 0))
			hold(t, of(op, 0, 0, n, 0))
			if n == 0 {
				continue
			}
			if _, ok := Encode(of(op, n, 0, 0, 0)); ok != rd {
				t.Errorf("P6.1: op %d, Rd %d: %v", op, n, ok)
			}
			if _, ok := Encode(of(op, 0, n, 0, 0)); ok != rs1 {
				t.Errorf("P6.1: op %d, Rs1 %d: %v", op, n, ok)
			}
			if _, ok := Encode(of(op, 0, 0, n, 0)); ok != rs2 {
				t.Errorf("P6.1: op %d, Rs2 %d: %v", op, n, ok)
			}
		}
		for _, n := range noRegisters {
			refused(t, of(op, n, 0, 0, 0), names[op])
			refused(t, of(op, 0, n, 0, 0), names[op])
			refused(t, of(op, 0, 0, n, 0), names[op])
			refused(t, of(op, n, n, n, 0), names[op])
		}
	}
}

// P6.1: numbers that are no op have no word, no name and no text, whatever stands beside them.
func TestNoOp(t *testing.T) {
	for _, op := range noOps {
		if got := Name(op); got != "" {
			t.Errorf("P6.1: Name(%d): %q", op, got)
		}
		for _, n := range []int{math.MinInt, -1, 0, 1, 19, 31, 32, math.MaxInt} {
			refused(t, of(op, n, n, n, int32(n)), "")
			refused(t, of(op, n, 0, 0, 0), "")
			refused(t, of(op, 0, 0, 0, int32(n)), "")
		}
	}
	for op := -5000; op <= 5000; op++ {
		if op < api.Lui || op > api.Csrrci {
			if got := Name(op); got != "" {
				t.Errorf("P6.1: Name(%d): %q", op, got)
			}
			refused(t, of(op, 0, 0, 0, 0), "")
		}
	}
}

// P6.1, P6.2: scattered instructions, most of them with parts that their format may have.
func TestScatteredInstructions(t *testing.T) {
	source := rand.New(rand.NewSource(61))
	number := func(there bool) int {
		if !there && source.Intn(32) != 0 {
			return 0
		}
		return source.Intn(33)
	}
	kept := 0
	for range 200000 {
		op := source.Intn(api.Csrrci+3) - 1
		format := byte('N')
		if op >= 1 && op < len(formats) {
			format = formats[op]
		}
		rd, rs1, rs2 := has(format)
		low, high, step := limits(format)
		imm := low + source.Int63n((high-low)/step+1)*step
		if source.Intn(16) == 0 {
			imm = int64(int32(source.Uint32()) >> source.Intn(32))
		}
		i := of(op, number(rd), number(rs1), number(rs2), int32(imm))
		hold(t, i)
		if encodable(i) {
			kept++
		}
	}
	if kept < 100000 {
		t.Errorf("only %d of the instructions have a word", kept)
	}
}

// P6.2: of whatever word Decode has, Encode's is a word that decodes to the same; and the same word, but of Fence.
func TestScatteredWords(t *testing.T) {
	source := rand.New(rand.NewSource(62))
	opcodes := []uint32{0x03, 0x0f, 0x13, 0x17, 0x23, 0x33, 0x37, 0x63, 0x67, 0x6f, 0x73}
	seen := make([]int, len(formats))
	words := []uint32{0x00000073, 0x00100073, 0x30200073, 0x0ff0000f, 0xffff8f8f, 0x8330000f}
	for range 100000 {
		w := source.Uint32()
		code := opcodes[source.Intn(len(opcodes))]
		words = append(words, w, w&^0x7f|code, w&^0xfe00007f|code, w&^0xfe00007f|0x40000000|code, w&^0xfe00007f|0x02000000|code)
	}
	for _, w := range words {
		i, ok := decode.Decode(w)
		if !ok {
			continue
		}
		seen[i.Op]++
		again, is := Encode(i)
		if back, in := decode.Decode(again); !is || !in || back != i {
			t.Fatalf("P6.2: %#08x is %v, and that %#08x, %v", w, i, again, is)
		}
		if i.Op == api.Fence && again != 0x0000000f || i.Op != api.Fence && again != w {
			t.Fatalf("P6.1: %#08x is %v, and that %#08x", w, i, again)
		}
		if got := Text(i); got != plainText(i) {
			t.Fatalf("P6.1: Text(%v): %q", i, got)
		}
	}
	for op, n := range seen {
		if op > 0 && n == 0 {
			t.Errorf("no word of op %d was tried", op)
		}
	}
}
