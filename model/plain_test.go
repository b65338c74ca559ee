package model

import (
	"math/bits"
	"slices"

	"dioscuri/api"
)

// plain is a second reckoning of what a program means: from the bits of a word at once, with memory as bytes, and with nothing of the other packages.
type plain struct {
	pc    uint32
	x     [32]uint32
	csr   map[uint32]uint32
	bytes [4096]byte
	told  []uint32
	over  bool
	code  uint32
	steps int
	traps map[uint32]int // how many of each cause: whether the tests' programs are wild enough
}

func newPlain(image []uint32) *plain {
	p := &plain{csr: map[uint32]uint32{0x305: 0, 0x340: 0, 0x341: 0, 0x342: 0, 0x343: 0}, traps: map[uint32]int{}}
	for k, w := range image {
		for b := range 4 {
			p.bytes[4*k+b] = byte(w >> (8 * b))
		}
	}
	return p
}

func (p *plain) state() api.State {
	s := api.State{PC: p.pc, Regs: p.x, Mem: make([]uint32, 1024)}
	for k, n := range []uint32{0x305, 0x340, 0x341, 0x342, 0x343} {
		s.Csrs[k] = p.csr[n]
	}
	for at := range s.Mem {
		s.Mem[at] = p.read(uint32(4*at), 4)
	}
	return s
}

func (p *plain) read(addr, size uint32) uint32 {
	var n uint32
	for b := range size {
		n |= uint32(p.bytes[addr+b]) << (8 * b)
	}
	return n
}

func (p *plain) trap(cause, value uint32) api.Retired {
	r := api.Retired{PC: p.pc}
	p.csr[0x341], p.csr[0x342], p.csr[0x343] = p.pc, cause, value
	p.pc = p.csr[0x305]
	p.traps[cause]++
	return r
}

func (p *plain) write(rd, value, next uint32) api.Retired {
	r := api.Retired{PC: p.pc}
	p.pc = next
	if rd != 0 {
		p.x[rd] = value
		r.Rd, r.Value = int(rd), value
	}
	return r
}

func (p *plain) jump(rd, target uint32) api.Retired {
	if target%4 != 0 {
		return p.trap(0, target)
	}
	return p.write(rd, p.pc+4, target)
}

func (p *plain) step() (api.Retired, bool) {
	if p.over {
		return api.Retired{}, false
	}
	p.steps++
	if p.pc >= 4096 {
		return p.trap(1, p.pc), true
	}
	return p.do(p.read(p.pc, 4)), true
}

// cut answers w's bits from low to high.
func cut(w uint32, high, low int) uint32 {
	return w << (31 - high) >> (31 - high + low)
}

func (p *plain) do(w uint32) api.Retired {
	rd, f3, f7 := cut(w, 11, 7), cut(w, 14, 12), cut(w, 31, 25)
	a, b := p.x[cut(w, 19, 15)], p.x[cut(w, 24, 20)]
	immI := uint32(int32(w) >> 20)
	immS := immI&^31 | rd
	immB := immI&^0x81f | rd&^1 | cut(w, 7, 7)<<11
	immJ := immI&^0xff801 | cut(w, 20, 20)<<11 | cut(w, 19, 12)<<12
	opcode := w & 127
	switch {
	case opcode == 0x37:
		return p.write(rd, w&^4095, p.pc+4)
	case opcode == 0x17:
		return p.write(rd, p.pc+w&^4095, p.pc+4)
	case opcode == 0x6f:
		return p.jump(rd, p.pc+immJ)
	case opcode == 0x67 && f3 == 0:
		return p.jump(rd, (a+immI)>>1<<1)
	case opcode == 0x63 && f3 != 2 && f3 != 3:
		if p.met(f3, a, b) {
			return p.jump(0, p.pc+immB)
		}
		return p.write(0, 0, p.pc+4)
	case opcode == 0x03 && f3 != 3 && f3 < 6:
		return p.load(rd, f3, a+immI)
	case opcode == 0x23 && f3 < 3:
		return p.store(1<<f3, a+immS, b)
	case opcode == 0x13 && (f3 != 1 || f7 == 0) && (f3 != 5 || f7 == 0 || f7 == 32):
		other := f3 == 5 && f7 == 32
		return p.write(rd, p.simple(f3, other, a, immI), p.pc+4)
	case opcode == 0x33 && (f7 == 0 || f7 == 32 && (f3 == 0 || f3 == 5)):
		return p.write(rd, p.simple(f3, f7 == 32, a, b), p.pc+4)
	case opcode == 0x33 && f7 == 1:
		return p.write(rd, p.product(f3, a, b), p.pc+4)
	case opcode == 0x0f && f3 == 0:
		return p.write(0, 0, p.pc+4)
	case w == 0x00000073:
		return p.trap(11, 0)
	case w == 0x00100073:
		return p.trap(3, 0)
	case w == 0x30200073:
		return p.write(0, 0, p.csr[0x341])
	case opcode == 0x73 && f3&3 != 0:
		return p.swap(w, rd, f3, a)
	}
	return p.trap(2, w)
}

func (p *plain) met(f3, a, b uint32) bool {
	is := a == b
	if f3 >= 6 {
		is = a < b
	} else if f3 >= 4 {
		is = a^1<<31 < b^1<<31
	}
	return is != (f3&1 == 1)
}

func (p *plain) load(rd, f3, addr uint32) api.Retired {
	size := uint32(1) << (f3 & 3)
	if addr%size != 0 {
		return p.trap(4, addr)
	}
	if addr >= 4096 {
		return p.trap(5, addr)
	}
	n := p.read(addr, size)
	if f3 == 0 && n > 127 {
		n -= 256
	}
	if f3 == 1 && n > 32767 {
		n -= 65536
	}
	return p.write(rd, n, p.pc+4)
}

func (p *plain) store(size, addr, n uint32) api.Retired {
	device := size == 4 && (addr == 0x10000000 || addr == 0x10000004)
	if addr%size != 0 {
		return p.trap(6, addr)
	}
	if addr >= 4096 && !device {
		return p.trap(7, addr)
	}
	r := api.Retired{PC: p.pc, Store: true, Addr: addr - addr%4}
	for b := range size {
		if !device {
			p.bytes[addr+b] = byte(n >> (8 * b))
		}
		at := addr%4 + b
		r.Mask += 1 << at
		r.Data += uint32(byte(n>>(8*b))) << (8 * at)
	}
	switch {
	case device && addr == 0x10000000:
		p.told = append(p.told, n)
	case device:
		p.over, p.code = true, n
		return r
	}
	p.pc += 4
	return r
}

func (p *plain) simple(f3 uint32, other bool, a, b uint32) uint32 {
	bit := map[bool]uint32{true: 1}
	switch f3 {
	case 0:
		if other {
			b = -b
		}
		return a + b
	case 1:
		return a << (b % 32)
	case 2:
		return bit[int32(a) < int32(b)]
	case 3:
		return bit[a < b]
	case 4:
		return a ^ b
	case 5:
		n := uint64(a)
		if other && a>>31 == 1 {
			n |= 0xffffffff << 32
		}
		return uint32(n >> (b % 32))
	case 6:
		return a | b
	}
	return a & b
}

func (p *plain) product(f3, a, b uint32) uint32 {
	high, low := bits.Mul32(a, b)
	highSigned := high
	if int32(a) < 0 {
		highSigned -= b
	}
	least := a == 1<<31 && b == 0xffffffff
	switch f3 {
	case 0:
		return low
	case 1:
		if int32(b) < 0 {
			highSigned -= a
		}
		return highSigned
	case 2:
		return highSigned
	case 3:
		return high
	}
	switch {
	case b == 0 && f3 < 6:
		return 0xffffffff
	case b == 0:
		return a
	case f3 == 4 && least:
		return a
	case f3 == 4:
		return uint32(int32(a) / int32(b))
	case f3 == 5:
		return a / b
	case f3 == 6 && least:
		return 0
	case f3 == 6:
		return uint32(int32(a) % int32(b))
	}
	return a % b
}

func (p *plain) swap(w, rd, f3, a uint32) api.Retired {
	number, field := w>>20, cut(w, 19, 15)
	old, there := p.csr[number]
	if !there {
		return p.trap(2, w)
	}
	if f3 >= 4 {
		a = field
	}
	switch f3 & 3 {
	case 1:
		p.csr[number] = a
	case 2:
		if field != 0 {
			p.csr[number] = old | a
		}
	case 3:
		if field != 0 {
			p.csr[number] = old &^ a
		}
	}
	if slices.Contains([]uint32{0x305, 0x341}, number) {
		p.csr[number] -= p.csr[number] % 4
	}
	return p.write(rd, old, p.pc+4)
}
