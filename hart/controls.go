package hart

import "hart/api"

// controls holds the control registers that are kept; the others are views of
// these and of the devices.
type controls struct {
	mstatus, medeleg, mideleg, mie uint32
	written                        uint32 // of mip the bits SSI and STI
	super, machine                 side
}

// side: the control registers that Supervisor and Machine have each for itself.
type side struct {
	tvec, scratch, epc, cause, tval uint32
}

// The numbers of the control registers.
const (
	numSstatus  = 0x100
	numSie      = 0x104
	numStvec    = 0x105
	numSscratch = 0x140
	numSepc     = 0x141
	numScause   = 0x142
	numStval    = 0x143
	numSip      = 0x144
	numMstatus  = 0x300
	numMedeleg  = 0x302
	numMideleg  = 0x303
	numMie      = 0x304
	numMtvec    = 0x305
	numMscratch = 0x340
	numMepc     = 0x341
	numMcause   = 0x342
	numMtval    = 0x343
	numMip      = 0x344
	numMhartid  = 0xF14
)

// controlNumbers: in the order of P9's table, and so of State.
var controlNumbers = [19]uint32{
	numSstatus, numSie, numStvec, numSscratch, numSepc, numScause, numStval, numSip,
	numMstatus, numMedeleg, numMideleg, numMie, numMtvec, numMscratch, numMepc, numMcause, numMtval, numMip,
	numMhartid,
}

// The bits of mstatus.
const (
	statusSIE  = 1 << 1
	statusMIE  = 1 << 3
	statusSPIE = 1 << 5
	statusMPIE = 1 << 7
	statusSPP  = 1 << placeSPP
	statusMPP  = 3 << placeMPP
	statusTW   = 1 << 21
	statusTSR  = 1 << 22

	placeSPP = 8
	placeMPP = 11
)

// What the control registers hold, of which not all bits are kept.
const (
	superStatus   = statusSIE | statusSPIE | statusSPP // what sstatus shows of mstatus
	machineStatus = superStatus | statusMIE | statusMPIE | statusMPP | statusTW | statusTSR

	superInterrupts = 1<<api.SSI | 1<<api.STI | 1<<api.SEI
	allInterrupts   = superInterrupts | 1<<api.MSI | 1<<api.MTI | 1<<api.MEI
	softInterrupts  = 1<<api.SSI | 1<<api.STI // of mip those that no device tells

	// CallMach is not among them: it comes from Machine alone, whence nothing
	// goes to Supervisor.
	delegable = 1<<api.FetchAlign | 1<<api.FetchFault | 1<<api.Illegal | 1<<api.Breakpoint |
		1<<api.LoadFault | 1<<api.StoreFault | 1<<api.CallUser | 1<<api.CallSuper

	vectorBits  = 0xFFFFFFFF &^ (1 << 1)
	addressBits = 0xFFFFFFFF &^ 3
	causeBits   = 1<<31 | 15
)

// controlWords gives what the control registers hold, in a fresh list, in the
// order of controlNumbers.
func (m *Hart) controlWords() []uint32 {
	c := m.csr
	mip := m.mip()
	return []uint32{
		c.mstatus & superStatus, // sstatus
		c.mie & c.mideleg,       // sie
		c.super.tvec,
		c.super.scratch,
		c.super.epc,
		c.super.cause,
		c.super.tval,
		mip & c.mideleg, // sip
		c.mstatus,
		c.medeleg,
		c.mideleg,
		c.mie,
		c.machine.tvec,
		c.machine.scratch,
		c.machine.epc,
		c.machine.cause,
		c.machine.tval,
		mip,
		0, // mhartid
	}
}

// mip tells which interrupts are pending: those of the devices are not kept,
// but stand as the devices stand now.
func (m *Hart) mip() uint32 {
	p := m.csr.written
	if m.clock.Msip&1 == 1 {
		p |= 1 << api.MSI
	}
	if m.clock.Due() {
		p |= 1 << api.MTI
	}
	if m.lines.Asks(0) {
		p |= 1 << api.MEI
	}
	if m.lines.Asks(1) {
		p |= 1 << api.SEI
	}
	return p
}

// control gives what the control register with the number n holds; false, if
// there is none.
func (m *Hart) control(n uint32) (uint32, bool) {
	words := m.controlWords()
	for i, number := range controlNumbers {
		if number == n && i < len(words) {
			return words[i], true
		}
	}
	return 0, false
}

// set writes v to the control register with the number n; of v that is kept
// which the register holds.
func (c *controls) set(n, v uint32) {
	switch n {
	case numSstatus:
		c.mstatus = mix(c.mstatus, v, superStatus)
	case numSie:
		c.mie = mix(c.mie, v, c.mideleg)
	case numSip:
		c.written = mix(c.written, v, c.mideleg&(1<<api.SSI))
	case numStvec, numSscratch, numSepc, numScause, numStval:
		c.super.set(n, v)
	case numMstatus:
		c.setStatus(v)
	case numMedeleg:
		c.medeleg = v & delegable
	case numMideleg:
		c.mideleg = v & superInterrupts
	case numMie:
		c.mie = v & allInterrupts
	case numMip:
		c.written = v & softInterrupts
	case numMtvec, numMscratch, numMepc, numMcause, numMtval:
		c.machine.set(n, v)
	}
}

// set does for the control registers of one side what set does for all.
func (s *side) set(n, v uint32) {
	switch n {
	case numStvec, numMtvec:
		s.tvec = v & vectorBits
	case numSscratch, numMscratch:
		s.scratch = v
	case numSepc, numMepc:
		s.epc = v & addressBits
	case numScause, numMcause:
		s.cause = v & causeBits
	case numStval, numMtval:
		s.tval = v
	}
}

// setStatus writes to mstatus: there is no level 2, so that MPP never becomes
// that.
func (c *controls) setStatus(v uint32) {
	kept := uint32(machineStatus)
	if v&statusMPP == 2<<placeMPP {
		kept &^= statusMPP
	}
	c.mstatus = mix(c.mstatus, v, kept)
}

// mix takes from v the bits that are set in mask, and the others from old.
func mix(old, v, mask uint32) uint32 {
	return old&^mask | v&mask
}
