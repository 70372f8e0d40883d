package hart

import "hart/api"

// causeInterrupt: the bit of mcause and scause that tells an interrupt from an
// exception.
const causeInterrupt = 1 << 31

// precedence: which of several interrupts that go to the same level is taken.
var precedence = [6]uint32{api.MEI, api.MSI, api.MTI, api.SEI, api.SSI, api.STI}

// interrupt takes one interrupt, if any is enabled (P16), and tells whether it
// did. What goes to Machine comes ahead of all that goes to Supervisor.
func (m *Hart) interrupt() bool {
	to := api.Machine
	enabled := m.enabledFor(to)
	if enabled == 0 {
		to = api.Supervisor
		enabled = m.enabledFor(to)
	}
	if enabled == 0 {
		return false
	}
	i := foremost(enabled)
	m.enter(to, causeInterrupt|i, 0)
	if m.vectored(to) {
		m.pc += 4 * i
	}
	return true
}

// enabledFor gives the interrupts that are enabled and go to the level to, which
// is Supervisor or Machine.
func (m *Hart) enabledFor(to int) uint32 {
	if !m.interruptible(to) {
		return 0
	}
	wanted := m.mip() & m.csr.mie
	if to == api.Supervisor {
		return wanted & m.csr.mideleg
	}
	return wanted &^ m.csr.mideleg
}

// interruptible tells whether an interrupt that goes to the level to may come
// now: a lesser level can't keep it off, a greater one is not disturbed by it,
// and the level itself decides by its bit of mstatus.
func (m *Hart) interruptible(to int) bool {
	if m.level == to {
		t := trailOf(to)
		return m.csr.mstatus&t.enable != 0
	}
	return m.level < to
}

// foremost gives the number of that of the interrupts which is taken; they are
// at least one.
func foremost(interrupts uint32) uint32 {
	for _, i := range precedence {
		if interrupts>>i&1 == 1 {
			return i
		}
	}
	return 0
}

// vectored tells whether each interrupt that goes to the level to has a place of
// its own there.
func (m *Hart) vectored(to int) bool {
	s := m.csr.sideOf(to)
	return s.tvec&1 == 1
}
