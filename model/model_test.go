package model

import (
	"math"
	"math/rand"
	"slices"
	"testing"

	"dioscuri/api"
	"dioscuri/encode"
)

const (
	past = 4096 // the first address behind memory: 4 times Words is written out here
	port = 0x10000000
	halt = 0x10000004
	all  = math.MaxUint32
	data = 2048       // where the tests' data lie
	vec  = 28         // where their traps go
	here = 4 * 11     // where hold lays an instruction that follows two set registers
	mark = 0x8493a2b1 // a word whose bytes and halves all have a sign
)

// in is an instruction's word.
func in(t *testing.T, op, rd, a, b int, n int32) uint32 {
	t.Helper()
	w, ok := encode.Encode(api.Inst{Op: op, Rd: rd, Rs1: a, Rs2: b, Imm: n})
	if !ok {
		t.Fatalf("no instruction: %d %d %d %d %d", op, rd, a, b, n)
	}
	return w
}

// set are two instructions by which a register is a number.
func set(t *testing.T, rd int, n uint32) []uint32 {
	t.Helper()
	low := int32(n<<20) >> 20
	return []uint32{in(t, api.Lui, rd, 0, 0, int32(n-uint32(low))), in(t, api.Addi, rd, rd, 0, low)}
}

func begun(t *testing.T, image ...uint32) *Machine {
	t.Helper()
	m, why := New(image)
	if m == nil || why != api.OK {
		t.Fatalf("P11.1: New of %d words: %d", len(image), why)
	}
	return m
}

func same(a, b api.State) bool {
	return a.PC == b.PC && a.Regs == b.Regs && a.Csrs == b.Csrs && slices.Equal(a.Mem, b.Mem)
}

// change makes of the state ahead of a step the one behind it, and answers what is retired.
type change func(s *api.State) api.Retired

// nothing but that PC goes on.
func nothing(s *api.State) api.Retired {
	r := api.Retired{PC: s.PC}
	s.PC += 4
	return r
}

func goes(target uint32) change {
	return func(s *api.State) api.Retired {
		r := api.Retired{PC: s.PC}
		s.PC = target
		return r
	}
}

func writes(rd int, value uint32) change {
	return func(s *api.State) api.Retired {
		r := api.Retired{PC: s.PC, Rd: rd, Value: value}
		s.Regs[rd] = value
		s.PC += 4
		return r
	}
}

func links(rd int, target uint32) change {
	return func(s *api.State) api.Retired {
		r := api.Retired{PC: s.PC, Rd: rd, Value: s.PC + 4}
		s.Regs[rd] = s.PC + 4
		s.PC = target
		return r
	}
}

func traps(cause int, value uint32) change {
	return func(s *api.State) api.Retired {
		r := api.Retired{PC: s.PC}
		s.Csrs[2], s.Csrs[3], s.Csrs[4] = s.PC, uint32(cause), value
		s.PC = s.Csrs[0]
		return r
	}
}

// stores: of a store to memory, word is what lies at addr then.
func stores(addr, data uint32, mask int, word uint32) change {
	return func(s *api.State) api.Retired {
		r := api.Retired{PC: s.PC, Store: true, Addr: addr, Data: data, Mask: mask}
		s.Mem[addr/4] = word
		s.PC += 4
		return r
	}
}

// tells: of a store to a device memory is as it was.
func tells(addr, word uint32, on uint32) change {
	return func(s *api.State) api.Retired {
		r := api.Retired{PC: s.PC, Store: true, Addr: addr, Data: word, Mask: 15}
		s.PC += on
		return r
	}
}

// stage lays w at here, behind instructions that give each CSR a number of its own, and x1 and x2 the numbers a and b; it answers a machine that stands on w.
func stage(t *testing.T, a, b, w uint32) *Machine {
	t.Helper()
	head := []uint32{
		in(t, api.Csrrwi, 0, vec, 0, api.Mtvec),
		in(t, api.Csrrwi, 0, 11, 0, api.Mscratch),
		in(t, api.Csrrwi, 0, 20, 0, api.Mepc),
		in(t, api.Csrrwi, 0, 29, 0, api.Mcause),
		in(t, api.Csrrwi, 0, 17, 0, api.Mtval),
		in(t, api.Addi, 30, 0, 0, -77),
		in(t, api.Addi, 31, 0, 0, 1234),
	}
	head = slices.Concat(head, set(t, 1, a), set(t, 2, b), []uint32{w})
	image := make([]uint32, api.Words)
	copy(image, head)
	image[data/4-1], image[data/4], image[data/4+1] = 0x1a2b3c4d, mark, 0x55667788
	image[api.Words-1] = 0xf0e1d2c3
	m := begun(t, image...)
	if n := m.Run(len(head) - 1); n != len(head)-1 || m.State().PC != here {
		t.Fatalf("P11.1: Run: %d, PC %d", n, m.State().PC)
	}
	return m
}

// hold does w with x1 and x2, and holds all that there is behind it against what must be.
func hold(t *testing.T, what string, a, b, w uint32, must change) *Machine {
	t.Helper()
	m := stage(t, a, b, w)
	want, steps := m.State(), m.Steps()
	wantRetired := must(&want)
	got, ok := m.Step()
	if got != wantRetired || !ok {
		t.Errorf("P11.2: %s (%#x, %#x): %+v, %v, not %+v", what, a, b, got, ok, wantRetired)
	}
	if now := m.State(); !same(now, want) {
		t.Errorf("P11.1: %s (%#x, %#x): PC %#x, %x, %x, not %#x, %x, %x", what, a, b, now.PC, now.Regs, now.Csrs, want.PC, want.Regs, want.Csrs)
	}
	if m.Steps() != steps+1 {
		t.Errorf("P11.2: %s: %d steps, not %d", what, m.Steps(), steps+1)
	}
	return m
}

// P11.1: the chapter's run and examples.
func TestChapter(t *testing.T) {
	m := begun(t)
	if r, ok := m.Step(); r != (api.Retired{}) || !ok {
		t.Errorf("P11.1: New(nothing), Step: %+v, %v", r, ok)
	}
	if s := m.State(); s.Csrs != [5]uint32{0, 0, 0, api.BadInst, 0} || s.PC != 0 {
		t.Errorf("P11.1: New(nothing), Step: PC %d, %v", s.PC, s.Csrs)
	}
	m = begun(t, append(set(t, 1, halt), in(t, api.Sw, 0, 1, 0, 0))...)
	m.Run(3)
	if code, ok := m.Halted(); code != 0 || !ok {
		t.Errorf("P11.1: Sw to Halt: %d, %v", code, ok)
	}
	m = begun(t, in(t, api.Jalr, 1, 0, 0, 2))
	m.Step()
	if s := m.State(); s.Csrs != [5]uint32{0, 0, 0, api.BadFetch, 2} || s.Regs[1] != 0 {
		t.Errorf("P11.1: Jalr to 2: %v, %v", s.Csrs, s.Regs[1])
	}
}

// P11.1: New at and above Words words.
func TestNew(t *testing.T) {
	for _, n := range []int{api.Words + 1, api.Words + 2, 2 * api.Words, 1 << 20} {
		if m, why := New(make([]uint32, n)); m != nil || why != api.ErrLong {
			t.Errorf("P11.1: New of %d words: %v, %d", n, m, why)
		}
	}
	for _, n := range []int{0, 1, 2, 1000, api.Words - 1, api.Words} {
		image := make([]uint32, n)
		for k := range image {
			image[k] = uint32(k+1) * 0x01010101
		}
		m := begun(t, image...)
		s := m.State()
		want := append(slices.Clone(image), make([]uint32, api.Words-n)...)
		if !slices.Equal(s.Mem, want) {
			t.Errorf("P11.1: memory behind New of %d words", n)
		}
		if s.PC != 0 || s.Regs != [32]uint32{} || s.Csrs != [5]uint32{} {
			t.Errorf("P11.1: New of %d words: PC %d, %v, %v", n, s.PC, s.Regs, s.Csrs)
		}
		code, halted := m.Halted()
		if code != 0 || halted || m.Steps() != 0 || len(m.Trace()) != 0 {
			t.Errorf("P11.1: New of %d words: %d, %v, %d, %v", n, code, halted, m.Steps(), m.Trace())
		}
	}
}

// R2, R4, R5: the image is neither changed nor kept, its spare room neither; nil and empty mean the same.
func TestImage(t *testing.T) {
	room := []uint32{in(t, api.Addi, 1, 0, 0, 5), in(t, api.Sw, 0, 0, 1, 0), in(t, api.Sw, 0, 0, 1, 8), 99, 98}
	was := slices.Clone(room)
	m := begun(t, room[:2]...)
	if s := m.State(); s.Mem[2] != 0 || s.Mem[3] != 0 {
		t.Error("R5: what lies behind the image")
	}
	m, _ = New(room[:3])
	m.Run(3)
	if !slices.Equal(room, was) {
		t.Errorf("R2: the image is changed: %v", room)
	}
	if s := m.State(); s.Mem[0] != 5 || s.Mem[2] != 5 {
		t.Errorf("P11.1: %v", s.Mem[:4])
	}
	m, _ = New(room[:3])
	room[0] = 0
	if s := m.State(); s.Mem[0] != was[0] {
		t.Error("R2: the image is kept")
	}
	one, _ := New(nil)
	two, _ := New([]uint32{})
	one.Run(3)
	two.Run(3)
	if !same(one.State(), two.State()) {
		t.Error("R4: nil and empty")
	}
}

// P11.1: what registers and immediates make, each op once at least; to x0 nothing is written.
func TestReckoning(t *testing.T) {
	for _, c := range []struct {
		op   int
		a, b uint32
		imm  int32
		want uint32
	}{
		{api.Lui, 0, 0, 0x12345000, 0x12345000}, {api.Lui, 0, 0, -4096, 0xfffff000}, {api.Lui, 0, 0, 0, 0},
		{api.Auipc, 0, 0, 0x12345000, 0x12345000 + here}, {api.Auipc, 0, 0, -4096, 0xfffff000 + here}, {api.Auipc, 0, 0, 0, here},
		{api.Addi, 5, 0, -7, all - 1}, {api.Addi, all, 0, 1, 0}, {api.Addi, 5, 0, 2047, 2052}, {api.Addi, 0, 0, -2048, all - 2047},
		{api.Slti, 5, 0, -1, 0}, {api.Slti, all - 1, 0, -1, 1}, {api.Slti, 1 << 31, 0, 0, 1}, {api.Slti, 7, 0, 7, 0},
		{api.Sltiu, 5, 0, -1, 1}, {api.Sltiu, all, 0, -1, 0}, {api.Sltiu, 0, 0, 1, 1}, {api.Sltiu, 1 << 31, 0, 5, 0},
		{api.Xori, 0x0ff0, 0, -1, 0xfffff00f}, {api.Ori, 0x0ff0, 0, -2048, 0xfffffff0}, {api.Andi, mark, 0, -16, 0x8493a2b0}, {api.Andi, mark, 0, 255, 0xb1},
		{api.Slli, 0x40000003, 0, 1, 0x80000006}, {api.Slli, 3, 0, 31, 1 << 31}, {api.Slli, mark, 0, 0, mark},
		{api.Srli, mark, 0, 4, 0x08493a2b}, {api.Srli, mark, 0, 31, 1}, {api.Srai, mark, 0, 4, 0xf8493a2b}, {api.Srai, mark, 0, 31, all}, {api.Srai, 0x7fffffff, 0, 30, 1},
		{api.Add, all, 3, 0, 2}, {api.Sub, 3, 5, 0, all - 1}, {api.Sll, 3, 33, 0, 6}, {api.Slt, all, 1, 0, 1}, {api.Slt, 1, all, 0, 0},
		{api.Sltu, all, 1, 0, 0}, {api.Sltu, 1, all, 0, 1}, {api.Xor, 0xff, 0x0f, 0, 0xf0}, {api.Srl, mark, 36, 0, 0x08493a2b}, {api.Sra, mark, 36, 0, 0xf8493a2b},
		{api.Or, 0xf0, 0x3c, 0, 0xfc}, {api.And, 0xf0, 0x3c, 0, 0x30},
		{api.Mul, all, 7, 0, all - 6}, {api.Mulh, all, all, 0, 0}, {api.Mulhsu, all, all, 0, all}, {api.Mulhu, all, all, 0, all - 1},
		{api.Div, all - 6, 2, 0, all - 2}, {api.Div, 7, 0, 0, all}, {api.Div, 1 << 31, all, 0, 1 << 31}, {api.Divu, all, 2, 0, 0x7fffffff}, {api.Divu, 7, 0, 0, all},
		{api.Rem, all - 6, 2, 0, all}, {api.Rem, 7, 0, 0, 7}, {api.Rem, 1 << 31, all, 0, 0}, {api.Remu, all, 16, 0, 15}, {api.Remu, 7, 0, 0, 7},
	} {
		rs1, rs2 := 1, 2
		if c.op == api.Lui || c.op == api.Auipc {
			rs1 = 0
		}
		if c.op < api.Add {
			rs2 = 0
		}
		name := encode.Name(c.op)
		for _, rd := range []int{1, 2, 3, 15, 16, 31} {
			hold(t, name, c.a, c.b, in(t, c.op, rd, rs1, rs2, c.imm), writes(rd, c.want))
		}
		hold(t, name+" to x0", c.a, c.b, in(t, c.op, 0, rs1, rs2, c.imm), nothing)
	}
	hold(t, "fence", 3, 4, in(t, api.Fence, 0, 0, 0, 0), nothing)
	hold(t, "a fence with all other bits", 3, 4, 0xffff8f8f, nothing)
	hold(t, "add of x0", 3, 4, in(t, api.Add, 5, 0, 0, 0), writes(5, 0))
	hold(t, "sub of x31 and x30", 3, 4, in(t, api.Sub, 5, 31, 30, 0), writes(5, 1311))
}

// P11.1: branches, taken and not, forward and back; a target between words is asked of the taken ones alone.
func TestBranches(t *testing.T) {
	for _, c := range []struct {
		op   int
		a, b uint32
		yes  bool
	}{
		{api.Beq, 5, 5, true}, {api.Beq, 5, 6, false}, {api.Bne, 5, 5, false}, {api.Bne, 5, 6, true},
		{api.Blt, all, 1, true}, {api.Blt, 1, all, false}, {api.Blt, 7, 7, false}, {api.Bge, all, 1, false}, {api.Bge, 1, all, true}, {api.Bge, 7, 7, true},
		{api.Bltu, all, 1, false}, {api.Bltu, 1, all, true}, {api.Bltu, 7, 7, false}, {api.Bgeu, all, 1, true}, {api.Bgeu, 1, all, false}, {api.Bgeu, 7, 7, true},
	} {
		for _, by := range []int32{0, 4, 8, 12, -4, -8, -here, 2048, -4096, 4092} {
			must := goes(here + uint32(by))
			if !c.yes {
				must = nothing
			}
			hold(t, encode.Name(c.op), c.a, c.b, in(t, c.op, 0, 1, 2, by), must)
		}
		for _, by := range []int32{2, 6, -2, -6, 4094, -4094} {
			must := traps(api.BadFetch, here+uint32(by))
			if !c.yes {
				must = nothing
			}
			hold(t, encode.Name(c.op)+" between words", c.a, c.b, in(t, c.op, 0, 1, 2, by), must)
		}
	}
}

// P11.1: jumps forward and back; one that traps writes nothing.
func TestJumps(t *testing.T) {
	for _, by := range []int32{0, 4, 8, 64, -4, -here, 2048, 1<<20 - 4, -1 << 20} {
		hold(t, "jal", 0, 0, in(t, api.Jal, 5, 0, 0, by), links(5, here+uint32(by)))
		hold(t, "jal to x0", 0, 0, in(t, api.Jal, 0, 0, 0, by), goes(here+uint32(by)))
	}
	for _, by := range []int32{2, 6, -2, 1<<20 - 2, -1<<20 + 2} {
		hold(t, "jal between words", 0, 0, in(t, api.Jal, 5, 0, 0, by), traps(api.BadFetch, here+uint32(by)))
		hold(t, "jal to x0 between words", 0, 0, in(t, api.Jal, 0, 0, 0, by), traps(api.BadFetch, here+uint32(by)))
	}
	for _, c := range []struct {
		a      uint32
		imm    int32
		target uint32
	}{
		{100, 0, 100}, {100, 4, 104}, {100, 1, 100}, {101, 0, 100}, {101, 3, 104}, {101, 4, 104}, {99, 1, 100}, {99, 2, 100}, {4, -4, 0}, {4, -3, 0},
		{0, -4, all - 3}, {0, -3, all - 3}, {all, 1, 0}, {all, 2, 0}, {past, 0, past}, {0x80000000, 2047 - 3, 0x800007fc}, {port, 0, port}, {here, 0, here},
	} {
		for _, rd := range []int{1, 5} {
			hold(t, "jalr", c.a, 0, in(t, api.Jalr, rd, 1, 0, c.imm), links(rd, c.target))
		}
		hold(t, "jalr to x0", c.a, 0, in(t, api.Jalr, 0, 1, 0, c.imm), goes(c.target))
	}
	for _, c := range []struct {
		a      uint32
		imm    int32
		target uint32
	}{
		{100, 2, 102}, {100, 3, 102}, {101, 1, 102}, {101, 2, 102}, {102, 0, 102}, {103, 0, 102}, {0, -1, all - 1}, {0, -2, all - 1}, {all, 0, all - 1}, {all, 3, 2}, {past, 2, past + 2},
	} {
		for _, rd := range []int{0, 1, 5} {
			hold(t, "jalr between words", c.a, 0, in(t, api.Jalr, rd, 1, 0, c.imm), traps(api.BadFetch, c.target))
		}
	}
	hold(t, "jalr from x0", 100, 0, in(t, api.Jalr, 5, 0, 0, 2), traps(api.BadFetch, 2))
}

// P11.1, P11.2: loads of each size at each place of a word, at the end of memory, and where there is nothing to load.
func TestLoads(t *testing.T) {
	for _, c := range []struct {
		op   int
		addr uint32
		want uint32
	}{
		{api.Lb, data, 0xffffffb1}, {api.Lb, data + 1, 0xffffffa2}, {api.Lb, data + 2, 0xffffff93}, {api.Lb, data + 3, 0xffffff84}, {api.Lb, data + 4, 0x88 - 0x100 + 1<<32}, {api.Lb, data + 5, 0x77}, {api.Lb, data - 1, 0x1a},
		{api.Lbu, data, 0xb1}, {api.Lbu, data + 1, 0xa2}, {api.Lbu, data + 2, 0x93}, {api.Lbu, data + 3, 0x84}, {api.Lbu, data + 4, 0x88},
		{api.Lh, data, 0xffffa2b1}, {api.Lh, data + 2, 0xffff8493}, {api.Lh, data + 4, 0x7788}, {api.Lh, data - 2, 0x1a2b},
		{api.Lhu, data, 0xa2b1}, {api.Lhu, data + 2, 0x8493}, {api.Lhu, data + 6, 0x5566}, {api.Lw, data, mark}, {api.Lw, data + 4, 0x55667788}, {api.Lw, data + 8, 0},
		{api.Lb, past - 1, 0xfffffff0}, {api.Lbu, past - 1, 0xf0}, {api.Lh, past - 2, 0xfffff0e1}, {api.Lhu, past - 2, 0xf0e1}, {api.Lw, past - 4, 0xf0e1d2c3}, {api.Lbu, past - 4, 0xc3},
	} {
		for _, imm := range []int32{0, 1, -1, 2047, -2048} {
			base := c.addr - uint32(imm)
			hold(t, encode.Name(c.op), base, 0, in(t, c.op, 3, 1, 0, imm), writes(3, c.want))
			hold(t, encode.Name(c.op)+" over its base", base, 0, in(t, c.op, 1, 1, 0, imm), writes(1, c.want))
			hold(t, encode.Name(c.op)+" to x0", base, 0, in(t, c.op, 0, 1, 0, imm), nothing)
		}
	}
	for _, c := range []struct {
		op    int
		addr  uint32
		cause int
	}{
		{api.Lh, data + 1, api.BadLoad}, {api.Lh, data + 3, api.BadLoad}, {api.Lhu, data + 1, api.BadLoad}, {api.Lw, data + 1, api.BadLoad}, {api.Lw, data + 2, api.BadLoad}, {api.Lw, data + 3, api.BadLoad},
		{api.Lw, past - 2, api.BadLoad}, {api.Lw, past + 2, api.BadLoad}, {api.Lh, past + 1, api.BadLoad}, {api.Lh, past - 1, api.BadLoad},
		{api.Lb, past, api.NoLoad}, {api.Lbu, past + 1, api.NoLoad}, {api.Lh, past, api.NoLoad}, {api.Lhu, past + 2, api.NoLoad}, {api.Lw, past, api.NoLoad}, {api.Lw, all - 3, api.NoLoad}, {api.Lb, all, api.NoLoad},
		{api.Lw, port, api.NoLoad}, {api.Lb, port, api.NoLoad}, {api.Lw, halt, api.NoLoad}, {api.Lhu, halt, api.NoLoad}, {api.Lw, port - 4, api.NoLoad}, {api.Lw, halt + 4, api.NoLoad}, {api.Lw, port + 1, api.BadLoad},
	} {
		for _, rd := range []int{0, 1, 3} {
			hold(t, encode.Name(c.op)+" that traps", c.addr, 0, in(t, c.op, rd, 1, 0, 0), traps(c.cause, c.addr))
			hold(t, encode.Name(c.op)+" that traps", c.addr-5, 0, in(t, c.op, rd, 1, 0, 5), traps(c.cause, c.addr))
		}
	}
}

// P11.1, P11.2: stores of each size at each place of a word, at the end of memory, and where nothing may be stored.
func TestStores(t *testing.T) {
	const n = 0xc1d2e3f4
	for _, c := range []struct {
		op    int
		addr  uint32
		data  uint32
		mask  int
		after uint32
	}{
		{api.Sb, data, 0xf4, 1, 0x8493a2f4}, {api.Sb, data + 1, 0xf400, 2, 0x8493f4b1}, {api.Sb, data + 2, 0xf40000, 4, 0x84f4a2b1}, {api.Sb, data + 3, 0xf4000000, 8, 0xf493a2b1},
		{api.Sh, data, 0xe3f4, 3, 0x8493e3f4}, {api.Sh, data + 2, 0xe3f40000, 12, 0xe3f4a2b1}, {api.Sw, data, n, 15, n},
		{api.Sb, past - 1, 0xf4000000, 8, 0xf4e1d2c3}, {api.Sh, past - 2, 0xe3f40000, 12, 0xe3f4d2c3}, {api.Sw, past - 4, n, 15, n}, {api.Sb, past - 4, 0xf4, 1, 0xf0e1d2f4},
		{api.Sw, data - 4, n, 15, n}, {api.Sb, data - 1, 0xf4000000, 8, 0xf42b3c4d}, {api.Sh, data + 6, 0xe3f40000, 12, 0xe3f47788},
	} {
		for _, imm := range []int32{0, 1, -1, 2047, -2048} {
			hold(t, encode.Name(c.op), c.addr-uint32(imm), n, in(t, c.op, 0, 1, 2, imm), stores(c.addr&^3, c.data, c.mask, c.after))
		}
	}
	hold(t, "sw of x0", data, 0, in(t, api.Sw, 0, 1, 0, 0), stores(data, 0, 15, 0))
	hold(t, "sb of x0", data, 0, in(t, api.Sb, 0, 1, 0, 2), stores(data, 0, 4, 0x8400a2b1))
	for _, c := range []struct {
		op    int
		addr  uint32
		cause int
	}{
		{api.Sh, data + 1, api.BadStore}, {api.Sh, data + 3, api.BadStore}, {api.Sw, data + 1, api.BadStore}, {api.Sw, data + 2, api.BadStore}, {api.Sw, data + 3, api.BadStore},
		{api.Sw, past - 2, api.BadStore}, {api.Sw, past + 2, api.BadStore}, {api.Sh, past - 1, api.BadStore}, {api.Sb, past, api.NoStore}, {api.Sh, past, api.NoStore}, {api.Sw, past, api.NoStore}, {api.Sb, all, api.NoStore}, {api.Sw, all - 3, api.NoStore},
		{api.Sb, port, api.NoStore}, {api.Sb, port + 3, api.NoStore}, {api.Sh, port, api.NoStore}, {api.Sh, port + 2, api.NoStore}, {api.Sw, port + 1, api.BadStore}, {api.Sw, port + 2, api.BadStore}, {api.Sw, port - 4, api.NoStore},
		{api.Sb, halt, api.NoStore}, {api.Sh, halt, api.NoStore}, {api.Sh, halt + 1, api.BadStore}, {api.Sw, halt + 2, api.BadStore}, {api.Sw, halt + 4, api.NoStore}, {api.Sb, port - 1, api.NoStore}, {api.Sb, halt + 4, api.NoStore},
	} {
		m := hold(t, encode.Name(c.op)+" that traps", c.addr, n, in(t, c.op, 0, 1, 2, 0), traps(c.cause, c.addr))
		if code, ok := m.Halted(); code != 0 || ok || len(m.Trace()) != 0 {
			t.Errorf("P11.1: %s at %#x that traps: %d, %v, %x", encode.Name(c.op), c.addr, code, ok, m.Trace())
		}
		hold(t, encode.Name(c.op)+" that traps", c.addr+9, n, in(t, c.op, 0, 1, 2, -9), traps(c.cause, c.addr))
	}
}

// P11.1: words for the devices.
func TestDevices(t *testing.T) {
	for _, n := range []uint32{0, 1, mark, all} {
		m := hold(t, "sw to Port", port, n, in(t, api.Sw, 0, 1, 2, 0), tells(port, n, 4))
		if code, ok := m.Halted(); code != 0 || ok || !slices.Equal(m.Trace(), []uint32{n}) {
			t.Errorf("P11.1: sw to Port: %d, %v, %x", code, ok, m.Trace())
		}
		for _, imm := range []int32{0, 4, -8} {
			m = hold(t, "sw to Halt", halt-uint32(imm), n, in(t, api.Sw, 0, 1, 2, imm), tells(halt, n, 0))
			if code, ok := m.Halted(); code != n || !ok || len(m.Trace()) != 0 {
				t.Errorf("P11.1: sw to Halt: %x, %v, %x", code, ok, m.Trace())
			}
		}
	}
}

// P11.1: a fetch out of memory: a jump there is done, and the next step traps.
func TestFetch(t *testing.T) {
	for _, pc := range []uint32{past, past + 4, 1 << 16, port, halt, 1 << 31, all - 3} {
		m := hold(t, "jalr out of memory", pc, 0, in(t, api.Jalr, 5, 1, 0, 0), links(5, pc))
		want := m.State()
		wantRetired := traps(api.NoFetch, pc)(&want)
		if r, ok := m.Step(); r != wantRetired || !ok || !same(m.State(), want) {
			t.Errorf("P11.1: a fetch from %#x: %+v, %v, %v", pc, r, ok, m.State().Csrs)
		}
	}
	image := make([]uint32, api.Words)
	image[0] = in(t, api.Jal, 0, 0, 0, past-4)
	image[api.Words-1] = in(t, api.Addi, 7, 7, 0, 1)
	m := begun(t, image...)
	if m.Run(2) != 2 || m.State().PC != past || m.State().Regs[7] != 1 {
		t.Errorf("P11.1: the last word of memory: PC %#x", m.State().PC)
	}
	if r, ok := m.Step(); r != (api.Retired{PC: past}) || !ok || m.State().Csrs != [5]uint32{0, 0, past, api.NoFetch, past} || m.State().PC != 0 || m.Steps() != 3 {
		t.Errorf("P11.1: behind the last word of memory: %+v, %v, %v", r, ok, m.State().Csrs)
	}
}

// P11.1: words that are no instruction, and the calls.
func TestNoInstruction(t *testing.T) {
	for _, w := range []uint32{0, all, 1, 2, 0x7f, 0x0000100f, 0x00001067, 0x00002063, 0x00003003, 0x00003023, 0x02001013, 0x42005013, 0x02005013 | 1<<30, 0x40001033, 0x04000033, 0x00200073, 0x00004073, 0x000000f3, 0x10500073, 0x10200073, 0x80000073, 0x302000f3} {
		hold(t, "no instruction", 3, 4, w, traps(api.BadInst, w))
	}
	hold(t, "ecall", 3, 4, in(t, api.Ecall, 0, 0, 0, 0), traps(api.EnvironCall, 0))
	hold(t, "ebreak", 3, 4, in(t, api.Ebreak, 0, 0, 0, 0), traps(api.Break, 0))
	hold(t, "mret", 3, 4, in(t, api.Mret, 0, 0, 0, 0), goes(20))
}

// swapped: a CSR that has another value then, and a register the old one.
func swapped(rd, at int, value uint32) change {
	return func(s *api.State) api.Retired {
		r := api.Retired{PC: s.PC}
		if rd != 0 {
			r.Rd, r.Value = rd, s.Csrs[at]
			s.Regs[rd] = s.Csrs[at]
		}
		s.Csrs[at] = value
		s.PC += 4
		return r
	}
}

// P11.1: each Csr op on each CSR, with registers of all kinds; the lowest two bits of Mtvec and Mepc.
func TestCsrs(t *testing.T) {
	olds := []uint32{vec, 11, 20, 29, 17} // as stage gives them
	for at, number := range []int32{api.Mtvec, api.Mscratch, api.Mepc, api.Mcause, api.Mtval} {
		keep := uint32(all)
		if number == api.Mtvec || number == api.Mepc {
			keep = all - 3
		}
		old := olds[at]
		for _, rd := range []int{0, 1, 3} {
			for _, a := range []uint32{0, 1, 2, 3, 4, 0x55, mark, 1 << 31, all} {
				hold(t, "csrrw", a, 0, in(t, api.Csrrw, rd, 1, 0, number), swapped(rd, at, a&keep))
				hold(t, "csrrs", a, 0, in(t, api.Csrrs, rd, 1, 0, number), swapped(rd, at, (old|a)&keep))
				hold(t, "csrrc", a, 0, in(t, api.Csrrc, rd, 1, 0, number), swapped(rd, at, old&^a))
			}
			for _, five := range []int{0, 1, 2, 3, 4, 9, 16, 30, 31} {
				n := uint32(five)
				hold(t, "csrrwi", 77, 88, in(t, api.Csrrwi, rd, five, 0, number), swapped(rd, at, n&keep))
				hold(t, "csrrsi", 77, 88, in(t, api.Csrrsi, rd, five, 0, number), swapped(rd, at, (old|n)&keep))
				hold(t, "csrrci", 77, 88, in(t, api.Csrrci, rd, five, 0, number), swapped(rd, at, old&^n))
			}
			hold(t, "csrrw of x0", 77, 88, in(t, api.Csrrw, rd, 0, 0, number), swapped(rd, at, 0))
			hold(t, "csrrs of x0", 77, 88, in(t, api.Csrrs, rd, 0, 0, number), swapped(rd, at, old))
			hold(t, "csrrc of x0", 77, 88, in(t, api.Csrrc, rd, 0, 0, number), swapped(rd, at, old))
		}
	}
}

// P11.1: CSRs that are not there: neither read nor written, by no op, Rs1 0 or not.
func TestNoCsr(t *testing.T) {
	for _, number := range []int32{0, 1, 0x300, 0x304, 0x306, 0x33f, 0x344, 0x7ff, 0x800, 0xb00, 0xc00, 0xf14, 0xfff} {
		for op := api.Csrrw; op <= api.Csrrci; op++ {
			for _, rs1 := range []int{0, 1, 31} {
				for _, rd := range []int{0, 1, 3} {
					w := in(t, op, rd, rs1, 0, number)
					hold(t, encode.Name(op)+" of no CSR", 3, 4, w, traps(api.BadInst, w))
				}
			}
		}
	}
}

// P11.1: a trap goes to Mtvec, its handler sees Mepc, Mcause, Mtval, and Mret goes back; the words told go out in their order.
func TestHandler(t *testing.T) {
	image := slices.Concat(
		[]uint32{in(t, api.Csrrwi, 0, 24, 0, api.Mtvec)},
		set(t, 1, port),
		[]uint32{
			in(t, api.Ecall, 0, 0, 0, 0), // at 12
			in(t, api.Lw, 3, 1, 0, 0),    // at 16: no load from Port
			in(t, api.Sw, 0, 1, 1, 4),    // at 20: the end
			in(t, api.Csrrs, 5, 0, 0, api.Mcause),
			in(t, api.Sw, 0, 1, 5, 0),
			in(t, api.Csrrs, 5, 0, 0, api.Mtval),
			in(t, api.Sw, 0, 1, 5, 0),
			in(t, api.Csrrs, 5, 0, 0, api.Mepc),
			in(t, api.Sw, 0, 1, 5, 0),
			in(t, api.Addi, 5, 5, 0, 4),
			in(t, api.Csrrw, 0, 5, 0, api.Mepc),
			in(t, api.Mret, 0, 0, 0, 0),
		})
	m := begun(t, image...)
	if n := m.Run(1000); n != 3+1+9+1+9+1 || m.Steps() != n {
		t.Errorf("P11.2: Run: %d, Steps %d", n, m.Steps())
	}
	if want := []uint32{api.EnvironCall, 0, 12, api.NoLoad, port, 16}; !slices.Equal(m.Trace(), want) {
		t.Errorf("P11.1: told: %x", m.Trace())
	}
	if code, ok := m.Halted(); code != port || !ok || m.State().PC != 20 || m.State().Regs[3] != 0 {
		t.Errorf("P11.1: the end: %x, %v, PC %d", code, ok, m.State().PC)
	}
}

// P11.1: what is stored is fetched then, a word, a half or a byte of an instruction.
func TestOwnCode(t *testing.T) {
	w := in(t, api.Addi, 5, 5, 0, 9)
	at := uint32(here + 4)
	m := stage(t, at, w, in(t, api.Sw, 0, 1, 2, 0))
	if m.Run(2) != 2 || m.State().Regs[5] != 9 || m.State().Mem[at/4] != w {
		t.Errorf("P11.1: a stored word is fetched: %d", m.State().Regs[5])
	}
	m = stage(t, at, 0x93, in(t, api.Sb, 0, 1, 2, 0)) // with the zeros beside it: addi x1, x0, 0
	m.Step()
	if r, ok := m.Step(); r != (api.Retired{PC: at, Rd: 1}) || !ok || m.State().Regs[1] != 0 {
		t.Errorf("P11.1: a stored byte is fetched: %+v, %v", r, ok)
	}
	m = stage(t, here, w, in(t, api.Sw, 0, 1, 2, 0))
	m.Step()
	if s := m.State(); s.PC != here+4 || s.Mem[here/4] != w {
		t.Errorf("P11.1: a store over itself: PC %d", s.PC)
	}
}

// P11.1, P11.2: behind the end nothing is done, and nothing counted.
func TestEnd(t *testing.T) {
	image := slices.Concat(set(t, 1, port), set(t, 2, 55), []uint32{in(t, api.Sw, 0, 1, 2, 0), in(t, api.Sw, 0, 1, 1, 0), in(t, api.Sw, 0, 1, 2, 0), in(t, api.Sw, 0, 1, 2, 4), in(t, api.Sw, 0, 1, 1, 0)})
	for _, more := range []int{0, 1, 100, math.MaxInt} {
		m := begun(t, image...)
		if code, ok := m.Halted(); code != 0 || ok {
			t.Errorf("P11.1: Halted at the beginning: %d, %v", code, ok)
		}
		if n := m.Run(7); n != 7 || m.Steps() != 7 || m.State().PC != 28 {
			t.Errorf("P11.2: Run(7): %d, Steps %d, PC %d", n, m.Steps(), m.State().PC)
		}
		if code, ok := m.Halted(); code != 0 || ok {
			t.Errorf("P11.1: Halted ahead of the end: %d, %v", code, ok)
		}
		if r, ok := m.Step(); !ok || r != (api.Retired{PC: 28, Store: true, Addr: halt, Data: 55, Mask: 15}) {
			t.Errorf("P11.2: the last step: %+v, %v", r, ok)
		}
		was := m.State()
		if n := m.Run(more); n != 0 {
			t.Errorf("P11.2: Run(%d) behind the end: %d", more, n)
		}
		for range 3 {
			if r, ok := m.Step(); ok || r != (api.Retired{}) {
				t.Errorf("P11.1: Step behind the end: %+v, %v", r, ok)
			}
		}
		code, ok := m.Halted()
		if code != 55 || !ok || m.Steps() != 8 || !same(m.State(), was) || was.PC != 28 || !slices.Equal(m.Trace(), []uint32{55, port, 55}) {
			t.Errorf("P11.1: behind the end: %d, %v, %d, PC %d, %v", code, ok, m.Steps(), m.State().PC, m.Trace())
		}
	}
}

// P11.2: Run of any number.
func TestRun(t *testing.T) {
	m := begun(t, in(t, api.Addi, 1, 1, 0, 1), in(t, api.Jal, 0, 0, 0, -4))
	steps := 0
	for _, c := range [][2]int{{0, 0}, {1, 1}, {-1, 0}, {math.MinInt, 0}, {2, 2}, {7, 7}, {0, 0}, {1000, 1000}, {-5, 0}, {1, 1}} {
		was := m.State()
		n := m.Run(c[0])
		steps += c[1]
		if n != c[1] || m.Steps() != steps {
			t.Errorf("P11.2: Run(%d): %d, Steps %d", c[0], n, m.Steps())
		}
		if n == 0 && !same(m.State(), was) {
			t.Errorf("P11.2: Run(%d) changed something", c[0])
		}
	}
	if got := m.State().Regs[1]; got != uint32(steps+1)/2 {
		t.Errorf("P11.2: %d steps: x1 is %d", steps, got)
	}
	m = begun(t)
	if m.Run(5) != 5 || m.Steps() != 5 {
		t.Errorf("P11.1: traps are steps: %d", m.Steps())
	}
	m = begun(t, append(set(t, 1, halt), in(t, api.Sw, 0, 1, 1, 0))...)
	if n := m.Run(math.MaxInt); n != 3 || m.Steps() != 3 {
		t.Errorf("P11.2: Run of more than there are: %d, Steps %d", n, m.Steps())
	}
}

// spoil writes over a list and its spare room.
func spoil(list []uint32) {
	list = list[:cap(list)]
	for k := range list {
		list[k] = all
	}
}

// R2: State and Trace answer new memory each time, their spare room too.
func TestAnswers(t *testing.T) {
	image := slices.Concat(set(t, 1, port), []uint32{in(t, api.Sw, 0, 1, 1, 0), in(t, api.Sw, 0, 1, 0, 0), in(t, api.Sw, 0, 1, 1, 0), in(t, api.Sw, 0, 1, 0, 0), in(t, api.Sw, 0, 1, 1, 4)})
	m := begun(t, image...)
	m.Run(4)
	s, told := m.State(), m.Trace()
	if len(s.Mem) != api.Words || len(told) != 2 {
		t.Fatalf("P11.1: %d words, %d told", len(s.Mem), len(told))
	}
	spoil(told)
	spoil(s.Mem)
	if again := m.Trace(); !slices.Equal(again, []uint32{port, 0}) {
		t.Errorf("R2: Trace: %v", again)
	}
	if again := m.State(); !slices.Equal(again.Mem[:len(image)], image) || again.Mem[api.Words-1] != 0 {
		t.Error("R2: State")
	}
	old := m.Trace()
	was := m.State()
	m.Run(100)
	if !slices.Equal(old, []uint32{port, 0}) || was.PC != 16 || !slices.Equal(m.Trace(), []uint32{port, 0, port, 0}) {
		t.Errorf("R2: an answer changed later: %v, %v", old, m.Trace())
	}
	other := begun(t, image...)
	other.Run(3)
	if !slices.Equal(other.Trace(), []uint32{port}) || len(m.Trace()) != 4 {
		t.Error("R4: two machines are one")
	}
}

// scattered is an image of instructions with any operands, some of them likelier than others, so that loops, traps and stores to all places come about.
// They seldom write x7, which may be Port.
func scattered(random *rand.Rand) []uint32 {
	size := 8 + random.Intn(api.Words-7)
	if random.Intn(4) == 0 {
		size = 8 + random.Intn(60)
	}
	image := make([]uint32, size)
	for k := range image {
		image[k] = scatteredWord(random)
	}
	return image
}

func scatteredWord(random *rand.Rand) uint32 {
	numbers := []int32{api.Mtvec, api.Mscratch, api.Mepc, api.Mcause, api.Mtval, 0x300}
	for {
		i := api.Inst{Op: api.Lui + random.Intn(api.Csrrci), Rd: random.Intn(7), Rs1: random.Intn(8), Rs2: random.Intn(8)}
		switch i.Op {
		case api.Lui, api.Auipc:
			i.Imm = []int32{0, 4096, port, math.MinInt32, -4096}[random.Intn(5)]
		case api.Jal, api.Beq, api.Bne, api.Blt, api.Bge, api.Bltu, api.Bgeu:
			i.Imm = int32(random.Intn(40)-16) * 2
		case api.Csrrw, api.Csrrs, api.Csrrc, api.Csrrwi, api.Csrrsi, api.Csrrci:
			i.Imm = numbers[random.Intn(6)]
			i.Rs1 = random.Intn(32)
		case api.Slli, api.Srli, api.Srai:
			i.Imm = int32(random.Intn(32))
		case api.Sb, api.Sh, api.Sw:
			i.Imm = []int32{0, 0, 4, 4, 4, 1, 2, 8}[random.Intn(8)]
			i.Rs1 = []int{random.Intn(8), 7}[random.Intn(2)]
		default:
			i.Imm = []int32{0, 1, 2, 4, int32(random.Intn(4096)) - 2048}[random.Intn(5)]
		}
		if i.Op == api.Lui || i.Op == api.Auipc || i.Op == api.Jal {
			i.Rs1 = 0
		}
		if random.Intn(60) == 0 {
			return random.Uint32()
		}
		for _, rd := range []int{i.Rd, 0} {
			for _, rs2 := range []int{i.Rs2, 0} {
				for _, imm := range []int32{i.Imm, 0} {
					if w, ok := encode.Encode(api.Inst{Op: i.Op, Rd: rd, Rs1: i.Rs1, Rs2: rs2, Imm: imm}); ok {
						return w
					}
				}
			}
		}
	}
}

// P11.1, P11.2: scattered programs, step by step against the second reckoning.
func TestScattered(t *testing.T) {
	random := rand.New(rand.NewSource(11))
	halts, told := 0, 0
	causes := map[uint32]int{}
	for range 4000 {
		image := scattered(random)
		if random.Intn(2) == 0 {
			copy(image, slices.Concat(set(t, 7, port), set(t, 2, uint32(random.Intn(past))&^3), []uint32{in(t, api.Csrrw, 0, 2, 0, api.Mtvec)}))
		}
		m, p := begun(t, image...), newPlain(image)
		for range 150 {
			at := p.pc
			want, wantIs := p.step()
			got, is := m.Step()
			code, halted := m.Halted()
			if got != want || is != wantIs || halted != p.over || code != p.code || m.Steps() != p.steps || m.pc != p.pc || m.regs != p.x {
				t.Fatalf("P11.2: at %#x: %+v, %v, %v, %x, not %+v, %v, %v, %x", at, got, is, halted, m.State().Regs, want, wantIs, p.over, p.x)
			}
		}
		if !same(m.State(), p.state()) || !slices.Equal(m.Trace(), p.told) {
			t.Fatalf("P11.1: %x, %x, not %x, %x", m.State().Csrs, m.Trace(), p.state().Csrs, p.told)
		}
		told += len(p.told)
		for cause, n := range p.traps {
			causes[cause] += n
		}
		if p.over {
			halts++
		}
	}
	for _, cause := range []uint32{api.BadFetch, api.NoFetch, api.BadInst, api.Break, api.BadLoad, api.NoLoad, api.BadStore, api.NoStore, api.EnvironCall} {
		if causes[cause] < 100 {
			t.Errorf("the scattered programs are too tame: cause %d %d times", cause, causes[cause])
		}
	}
	if halts < 50 || told < 50 {
		t.Errorf("the scattered programs are too tame: %d halts, %d words told", halts, told)
	}
}

// R4: one image, one course.
func TestAgain(t *testing.T) {
	random := rand.New(rand.NewSource(12))
	for range 50 {
		image := scattered(random)
		one, two := begun(t, image...), begun(t, image...)
		for range 100 {
			two.Step()
		}
		one.Run(100)
		if !same(one.State(), two.State()) || !slices.Equal(one.Trace(), two.Trace()) || one.Steps() != two.Steps() {
			t.Fatal("R4: one image, two courses")
		}
	}
}
