package hart

import "hart/api"

// access does one of the instructions on control registers (P10); w is its word.
func (m *Hart) access(d api.Instr, w uint32) {
	held, there := m.control(d.Imm)
	if !there || m.forbidden(d) {
		m.exception(api.Illegal, w)
		return
	}
	// Read now, for Rd may be the same register.
	v := m.operand(d)
	m.result(d.Rd, held)
	if writes(d) {
		m.csr.set(d.Imm, altered(d.Op, held, v))
	}
}

// forbidden tells whether d may not do at this level what it does: the number
// of a control register says who may read it, and whether anyone may write it.
func (m *Hart) forbidden(d api.Instr) bool {
	if uint32(m.level) < d.Imm>>8&3 {
		return true
	}
	return writes(d) && d.Imm>>10&3 == 3
}

// writes tells whether d writes the control register: by the number Rs1, not by
// what that register holds.
func writes(d api.Instr) bool {
	return d.Op == api.Csrrw || d.Op == api.Csrrwi || d.Rs1 != 0
}

// operand gives the value with which d alters the control register.
func (m *Hart) operand(d api.Instr) uint32 {
	switch d.Op {
	case api.Csrrwi, api.Csrrsi, api.Csrrci:
		return uint32(d.Rs1)
	}
	return m.register(d.Rs1)
}

// altered gives what the instruction op writes to a control register that holds
// held.
func altered(op int, held, v uint32) uint32 {
	switch op {
	case api.Csrrs, api.Csrrsi:
		return held | v
	case api.Csrrc, api.Csrrci:
		return held &^ v
	}
	return v
}
