package hart

import (
	"hart/api"
	"hart/decode"
	"hart/reckon"
)

// Step does one step (P6 to P16).
func (m *Hart) Step() {
	if !m.rouse() {
		return
	}
	if m.interrupt() {
		return
	}
	m.next()
}

// next fetches the instruction at pc and does it.
func (m *Hart) next() {
	pc := m.pc
	w, there := m.loadRam(pc, 4)
	if !there {
		m.exception(api.FetchFault, pc)
		return
	}
	d := decode.Word(w)
	if d.Op == api.None {
		m.exception(api.Illegal, w)
		return
	}
	m.do(d, w)
}

// rouse wakes the processor, if it is asleep and there is something that mie
// lets through, whether that is taken as an interrupt or not; it tells whether
// the processor is awake now.
func (m *Hart) rouse() bool {
	if m.asleep && m.mip()&m.csr.mie != 0 {
		m.asleep = false
	}
	return !m.asleep
}

// do carries out the instruction d at pc; w is its word.
func (m *Hart) do(d api.Instr, w uint32) {
	pc := m.pc
	a := m.register(d.Rs1)
	b := m.register(d.Rs2)
	switch d.Op {
	case api.Lui:
		m.result(d.Rd, d.Imm)
	case api.Auipc:
		m.result(d.Rd, pc+d.Imm)
	case api.Jal:
		m.jump(d.Rd, pc+d.Imm)
	case api.Jalr:
		m.jump(d.Rd, (a+d.Imm)&^1)
	case api.Beq, api.Bne, api.Blt, api.Bge, api.Bltu, api.Bgeu:
		m.branch(reckon.Taken(d.Op, a, b), pc+d.Imm)
	case api.Lb, api.Lh, api.Lw, api.Lbu, api.Lhu:
		m.load(d, a+d.Imm)
	case api.Sb, api.Sh, api.Sw:
		m.store(d.Op, a+d.Imm, b)
	case api.Addi, api.Slti, api.Sltiu, api.Xori, api.Ori, api.Andi, api.Slli, api.Srli, api.Srai:
		m.result(d.Rd, reckon.Result(d.Op, a, d.Imm))
	case api.Add, api.Sub, api.Sll, api.Slt, api.Sltu, api.Xor, api.Srl, api.Sra, api.Or, api.And:
		m.result(d.Rd, reckon.Result(d.Op, a, b))
	case api.Fence:
		m.pc += 4
	default:
		m.system(d, w)
	}
}

// register gives what register r holds.
func (m *Hart) register(r int) uint32 {
	if r <= 0 || r >= api.Regs {
		return 0
	}
	return m.regs[r]
}

// setRegister lets register r hold v; what is written to x0 is lost.
func (m *Hart) setRegister(r int, v uint32) {
	if r <= 0 || r >= api.Regs {
		return
	}
	m.regs[r] = v
}

// result ends an instruction that does nothing but give register rd a value.
func (m *Hart) result(rd int, v uint32) {
	m.setRegister(rd, v)
	m.pc += 4
}

// jump goes on at target and lays in register rd where to come back to; rd is
// written only when it is sure that the jump can be done.
func (m *Hart) jump(rd int, target uint32) {
	back := m.pc + 4
	if m.goTo(target) {
		m.setRegister(rd, back)
	}
}

// branch goes on at target, if the branch is taken; the target of one that is
// not taken does not matter.
func (m *Hart) branch(taken bool, target uint32) {
	if !taken {
		target = m.pc + 4
	}
	m.goTo(target)
}

// goTo lets pc become target; false, if that was an exception instead.
func (m *Hart) goTo(target uint32) bool {
	if target%4 != 0 {
		m.exception(api.FetchAlign, target)
		return false
	}
	m.pc = target
	return true
}

// load reads for the instruction d from address a.
func (m *Hart) load(d api.Instr, a uint32) {
	v, there := m.Read(a, width(d.Op))
	if !there {
		m.exception(api.LoadFault, a)
		return
	}
	m.result(d.Rd, widen(d.Op, v))
}

// store writes v for the instruction op to address a.
func (m *Hart) store(op int, a, v uint32) {
	if !m.Write(a, width(op), v) {
		m.exception(api.StoreFault, a)
		return
	}
	m.pc += 4
}

// width tells how many bytes the load or store op moves.
func width(op int) int {
	switch op {
	case api.Lb, api.Lbu, api.Sb:
		return 1
	case api.Lh, api.Lhu, api.Sh:
		return 2
	}
	return 4
}

// widen makes a word of the bytes v that the load op has read: two of the loads
// fill it with copies of the highest bit that was read.
func widen(op int, v uint32) uint32 {
	switch op {
	case api.Lb:
		return uint32(int8(v))
	case api.Lh:
		return uint32(int16(v))
	}
	return v
}
