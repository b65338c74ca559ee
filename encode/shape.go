package encode

import "dioscuri/api"

// Opcodes: the lowest seven bits of a word.
const (
	load   = 0x03
	fence  = 0x0f
	opImm  = 0x13
	auipc  = 0x17
	store  = 0x23
	opReg  = 0x33
	lui    = 0x37
	branch = 0x63
	jalr   = 0x67
	jal    = 0x6f
	system = 0x73
)

// Where the numbers stand that part the instructions of one opcode.
const (
	funct3 = 12
	funct7 = 25
)

// Words of opReg and opImm with a funct7 that is not 0.
const (
	otherReg = opReg | 0x20<<funct7
	otherImm = opImm | 0x20<<funct7
	mulReg   = opReg | 0x01<<funct7
)

// Words that are instructions as they are.
const (
	ecall  = 0x00000073
	ebreak = 0x00100073
	mret   = 0x30200073
)

// shapeOf goes through the ops by their order in api, where those of one kind stand together.
func shapeOf(op int) shape {
	switch {
	case op <= api.Jalr:
		return jumpShape(op)
	case op <= api.Bgeu:
		return branchShape(op)
	case op <= api.Lhu:
		return loadShape(op)
	case op <= api.Sw:
		return storeShape(op)
	case op <= api.Srai:
		return immShape(op)
	case op <= api.And:
		return regShape(op)
	case op <= api.Remu:
		return mulShape(op)
	case op <= api.Mret:
		return bareShape(op)
	}
	return csrShape(op)
}

// jumpShape has Lui and Auipc too: like each jump they have an opcode of their own.
func jumpShape(op int) shape {
	switch op {
	case api.Lui:
		return shape{"lui", formatU, lui}
	case api.Auipc:
		return shape{"auipc", formatU, auipc}
	case api.Jal:
		return shape{"jal", formatJ, jal}
	case api.Jalr:
		return shape{"jalr", formatI, jalr}
	}
	return shape{}
}

func branchShape(op int) shape {
	switch op {
	case api.Beq:
		return shape{"beq", formatB, branch}
	case api.Bne:
		return shape{"bne", formatB, branch | 1<<funct3}
	case api.Blt:
		return shape{"blt", formatB, branch | 4<<funct3}
	case api.Bge:
		return shape{"bge", formatB, branch | 5<<funct3}
	case api.Bltu:
		return shape{"bltu", formatB, branch | 6<<funct3}
	case api.Bgeu:
		return shape{"bgeu", formatB, branch | 7<<funct3}
	}
	return shape{}
}

func loadShape(op int) shape {
	switch op {
	case api.Lb:
		return shape{"lb", formatI, load}
	case api.Lh:
		return shape{"lh", formatI, load | 1<<funct3}
	case api.Lw:
		return shape{"lw", formatI, load | 2<<funct3}
	case api.Lbu:
		return shape{"lbu", formatI, load | 4<<funct3}
	case api.Lhu:
		return shape{"lhu", formatI, load | 5<<funct3}
	}
	return shape{}
}

func storeShape(op int) shape {
	switch op {
	case api.Sb:
		return shape{"sb", formatS, store}
	case api.Sh:
		return shape{"sh", formatS, store | 1<<funct3}
	case api.Sw:
		return shape{"sw", formatS, store | 2<<funct3}
	}
	return shape{}
}

func immShape(op int) shape {
	switch op {
	case api.Addi:
		return shape{"addi", formatI, opImm}
	case api.Slti:
		return shape{"slti", formatI, opImm | 2<<funct3}
	case api.Sltiu:
		return shape{"sltiu", formatI, opImm | 3<<funct3}
	case api.Xori:
		return shape{"xori", formatI, opImm | 4<<funct3}
	case api.Ori:
		return shape{"ori", formatI, opImm | 6<<funct3}
	case api.Andi:
		return shape{"andi", formatI, opImm | 7<<funct3}
	case api.Slli:
		return shape{"slli", formatShift, opImm | 1<<funct3}
	case api.Srli:
		return shape{"srli", formatShift, opImm | 5<<funct3}
	case api.Srai:
		return shape{"srai", formatShift, otherImm | 5<<funct3}
	}
	return shape{}
}

func regShape(op int) shape {
	switch op {
	case api.Add:
		return shape{"add", formatR, opReg}
	case api.Sub:
		return shape{"sub", formatR, otherReg}
	case api.Sll:
		return shape{"sll", formatR, opReg | 1<<funct3}
	case api.Slt:
		return shape{"slt", formatR, opReg | 2<<funct3}
	case api.Sltu:
		return shape{"sltu", formatR, opReg | 3<<funct3}
	case api.Xor:
		return shape{"xor", formatR, opReg | 4<<funct3}
	case api.Srl:
		return shape{"srl", formatR, opReg | 5<<funct3}
	case api.Sra:
		return shape{"sra", formatR, otherReg | 5<<funct3}
	case api.Or:
		return shape{"or", formatR, opReg | 6<<funct3}
	case api.And:
		return shape{"and", formatR, opReg | 7<<funct3}
	}
	return shape{}
}

func mulShape(op int) shape {
	switch op {
	case api.Mul:
		return shape{"mul", formatR, mulReg}
	case api.Mulh:
		return shape{"mulh", formatR, mulReg | 1<<funct3}
	case api.Mulhsu:
		return shape{"mulhsu", formatR, mulReg | 2<<funct3}
	case api.Mulhu:
		return shape{"mulhu", formatR, mulReg | 3<<funct3}
	case api.Div:
		return shape{"div", formatR, mulReg | 4<<funct3}
	case api.Divu:
		return shape{"divu", formatR, mulReg | 5<<funct3}
	case api.Rem:
		return shape{"rem", formatR, mulReg | 6<<funct3}
	case api.Remu:
		return shape{"remu", formatR, mulReg | 7<<funct3}
	}
	return shape{}
}

func bareShape(op int) shape {
	switch op {
	case api.Fence:
		return shape{"fence", bare, fence}
	case api.Ecall:
		return shape{"ecall", bare, ecall}
	case api.Ebreak:
		return shape{"ebreak", bare, ebreak}
	case api.Mret:
		return shape{"mret", bare, mret}
	}
	return shape{}
}

func csrShape(op int) shape {
	switch op {
	case api.Csrrw:
		return shape{"csrrw", formatCsr, system | 1<<funct3}
	case api.Csrrs:
		return shape{"csrrs", formatCsr, system | 2<<funct3}
	case api.Csrrc:
		return shape{"csrrc", formatCsr, system | 3<<funct3}
	case api.Csrrwi:
		return shape{"csrrwi", formatCsrBits, system | 5<<funct3}
	case api.Csrrsi:
		return shape{"csrrsi", formatCsrBits, system | 6<<funct3}
	case api.Csrrci:
		return shape{"csrrci", formatCsrBits, system | 7<<funct3}
	}
	return shape{}
}
