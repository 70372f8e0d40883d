package hart

import "hart/api"

// controls holds the control registers that are kept; the others are views of
// these and of the devices.
type controls struct {
	mstatus, medeleg, mideleg, mie       uint32
	mtvec, mscratch, mepc, mcause, mtval uint32
	stvec, sscratch, sepc, scause, stval uint32
	written                              uint32 // of mip the bits SSI and STI
}

// superStatus: the bits of mstatus that sstatus shows: SIE, SPIE, SPP.
const superStatus = 1<<1 | 1<<5 | 1<<8

// controlWords gives what the control registers hold, in a fresh list, in the
// order of P9's table.
func (m *Hart) controlWords() []uint32 {
	c := m.csr
	mip := m.mip()
	return []uint32{
		c.mstatus & superStatus, // sstatus
		c.mie & c.mideleg,       // sie
		c.stvec,
		c.sscratch,
		c.sepc,
		c.scause,
		c.stval,
		mip & c.mideleg, // sip
		c.mstatus,
		c.medeleg,
		c.mideleg,
		c.mie,
		c.mtvec,
		c.mscratch,
		c.mepc,
		c.mcause,
		c.mtval,
		mip,
		0, // mhartid
	}
}

// mip tells which interrupts are pending: those of the devices are not kept,
// but stand as the devices stand now.
func (m *Hart) mip() uint32 {
	p := m.csr.written
	if m.clock.Msip&1 == 1 {
		p |= 1 << api.MSI
	}
	if m.clock.Due() {
		p |= 1 << api.MTI
	}
	if m.lines.Asks(0) {
		p |= 1 << api.MEI
	}
	if m.lines.Asks(1) {
		p |= 1 << api.SEI
	}
	return p
}
