// Package decode takes instruction words apart (P3).
package decode

import "hart/api"

// The instruction that F3 chooses within an opcode; None is 0, so what a table
// leaves out is None.
var (
	jumps    = [8]int{api.Jalr}
	branches = [8]int{api.Beq, api.Bne, api.None, api.None, api.Blt, api.Bge, api.Bltu, api.Bgeu}
	loads    = [8]int{api.Lb, api.Lh, api.Lw, api.None, api.Lbu, api.Lhu}
	stores   = [8]int{api.Sb, api.Sh, api.Sw}
	fences   = [8]int{api.Fence}
	controls = [8]int{api.None, api.Csrrw, api.Csrrs, api.Csrrc, api.None, api.Csrrwi, api.Csrrsi, api.Csrrci}
)

// The same within opcodes 0x13 and 0x33; a number behind a name is the F7 that
// the table is for.
var (
	immediates  = [8]int{api.Addi, api.None, api.Slti, api.Sltiu, api.Xori, api.None, api.Ori, api.Andi}
	shifts0     = [8]int{api.None, api.Slli, api.None, api.None, api.None, api.Srli}
	shifts20    = [8]int{api.None, api.None, api.None, api.None, api.None, api.Srai}
	registers0  = [8]int{api.Add, api.Sll, api.Slt, api.Sltu, api.Xor, api.Srl, api.Or, api.And}
	registers20 = [8]int{api.Sub, api.None, api.None, api.None, api.None, api.Sra}
)

// Word tells the instruction that the word w is.
func Word(w uint32) api.Instr {
	d := apart(w)
	if d.Op == api.None {
		// The fields were cut out before it was known that there is nothing to tell.
		return api.Instr{}
	}
	return d
}

// apart cuts w by its opcode; where Op is None the other fields mean nothing.
func apart(w uint32) api.Instr {
	f3 := w >> 12 & 7
	switch bits(w, 6, 0) {
	case 0x37:
		return withImmU(api.Lui, w)
	case 0x17:
		return withImmU(api.Auipc, w)
	case 0x6F:
		return api.Instr{Op: api.Jal, Rd: rd(w), Imm: immJ(w)}
	case 0x67:
		return withImmI(jumps[f3], w)
	case 0x63:
		return api.Instr{Op: branches[f3], Rs1: rs1(w), Rs2: rs2(w), Imm: immB(w)}
	case 0x03:
		return withImmI(loads[f3], w)
	case 0x23:
		return api.Instr{Op: stores[f3], Rs1: rs1(w), Rs2: rs2(w), Imm: immS(w)}
	case 0x13:
		return onImmediate(w)
	case 0x33:
		return onRegisters(w)
	case 0x0F:
		return api.Instr{Op: fences[f3]}
	case 0x73:
		return system(w)
	}
	return api.Instr{}
}

// withImmU cuts an instruction with Rd and Imm U.
func withImmU(op int, w uint32) api.Instr {
	return api.Instr{Op: op, Rd: rd(w), Imm: immU(w)}
}

// withImmI cuts an instruction with Rd, Rs1 and Imm I.
func withImmI(op int, w uint32) api.Instr {
	return api.Instr{Op: op, Rd: rd(w), Rs1: rs1(w), Imm: immI(w)}
}

// onImmediate cuts the words of opcode 0x13: a shift keeps F7 apart from its
// immediate, all others take it in.
func onImmediate(w uint32) api.Instr {
	f3 := w >> 12 & 7
	op := immediates[f3]
	if op != api.None {
		return withImmI(op, w)
	}
	op = byF7(w, shifts0[f3], shifts20[f3])
	return api.Instr{Op: op, Rd: rd(w), Rs1: rs1(w), Imm: bits(w, 24, 20)}
}

// onRegisters cuts the words of opcode 0x33.
func onRegisters(w uint32) api.Instr {
	f3 := w >> 12 & 7
	op := byF7(w, registers0[f3], registers20[f3])
	return api.Instr{Op: op, Rd: rd(w), Rs1: rs1(w), Rs2: rs2(w)}
}

// byF7 chooses between the instructions for F7 0 and for F7 0x20.
func byF7(w uint32, op0, op20 int) int {
	switch bits(w, 31, 25) {
	case 0:
		return op0
	case 0x20:
		return op20
	}
	return api.None
}

// system cuts the words of opcode 0x73: five of them are instructions whole,
// the others name a control register, whose number has no sign.
func system(w uint32) api.Instr {
	switch w {
	case 0x73:
		return api.Instr{Op: api.Ecall}
	case 0x100073:
		return api.Instr{Op: api.Ebreak}
	case 0x10200073:
		return api.Instr{Op: api.Sret}
	case 0x10500073:
		return api.Instr{Op: api.Wfi}
	case 0x30200073:
		return api.Instr{Op: api.Mret}
	}
	return api.Instr{Op: controls[w>>12&7], Rd: rd(w), Rs1: rs1(w), Imm: bits(w, 31, 20)}
}
