package hart

import "hart/api"

// exception ends a step whose instruction can't be done (P11).
func (m *Hart) exception(cause, tval uint32) {
	if m.level != api.Machine && m.csr.medeleg>>cause&1 == 1 {
		m.enter(api.Supervisor, cause, tval)
		return
	}
	m.enter(api.Machine, cause, tval)
}

// enter lays by where the processor stands, and goes on at the level to, which
// is Supervisor or Machine.
func (m *Hart) enter(to int, cause, tval uint32) {
	s := m.csr.sideOf(to)
	s.epc = m.pc
	s.cause = cause
	s.tval = tval
	m.csr.layBy(to, m.level)
	m.level = to
	m.pc = s.tvec & addressBits
}

// leave takes back what enter has laid by for the level from.
func (m *Hart) leave(from int) {
	s := m.csr.sideOf(from)
	m.pc = s.epc
	m.level = m.csr.takeBack(from)
}

// sideOf gives the control registers of one level.
func (c *controls) sideOf(level int) *side {
	if level == api.Supervisor {
		return &c.super
	}
	return &c.machine
}

// trail: the bits of mstatus in which a level keeps what was ahead of it:
// whether interrupts are let in, whether they were, and the level that was.
type trail struct {
	enable, earlier, was, place uint32
}

func trailOf(level int) trail {
	if level == api.Supervisor {
		return trail{statusSIE, statusSPIE, statusSPP, placeSPP}
	}
	return trail{statusMIE, statusMPIE, statusMPP, placeMPP}
}

// layBy lets mstatus tell that the level to was entered from the level was.
func (c *controls) layBy(to, was int) {
	t := trailOf(to)
	earlier := c.mstatus&t.enable != 0
	c.mstatus &^= t.enable | t.earlier
	if earlier {
		c.mstatus |= t.earlier
	}
	c.mstatus = mix(c.mstatus, uint32(was)<<t.place, t.was)
}

// takeBack undoes in mstatus what layBy did, and gives the level that was.
func (c *controls) takeBack(from int) int {
	t := trailOf(from)
	was := int((c.mstatus & t.was) >> t.place)
	earlier := c.mstatus&t.earlier != 0
	c.mstatus &^= t.enable | t.was
	if earlier {
		c.mstatus |= t.enable
	}
	c.mstatus |= t.earlier
	return was
}

// system does one of the instructions of P10 and P12; w is its word.
func (m *Hart) system(d api.Instr, w uint32) {
	switch d.Op {
	case api.Ecall:
		m.call()
	case api.Ebreak:
		pc := m.pc
		m.exception(api.Breakpoint, pc)
	case api.Mret:
		m.machineReturn(w)
	case api.Sret:
		m.superReturn(w)
	case api.Wfi:
		m.fallAsleep(w)
	default:
		m.access(d, w)
	}
}

// call does Ecall: the cause tells who calls.
func (m *Hart) call() {
	switch m.level {
	case api.User:
		m.exception(api.CallUser, 0)
	case api.Supervisor:
		m.exception(api.CallSuper, 0)
	default:
		m.exception(api.CallMach, 0)
	}
}

// machineReturn does Mret.
func (m *Hart) machineReturn(w uint32) {
	if m.level != api.Machine {
		m.exception(api.Illegal, w)
		return
	}
	m.leave(api.Machine)
}

// superReturn does Sret, in Machine too: it goes back from Supervisor all the same.
func (m *Hart) superReturn(w uint32) {
	if m.withheld(statusTSR) {
		m.exception(api.Illegal, w)
		return
	}
	m.leave(api.Supervisor)
}

// fallAsleep does Wfi, whatever is pending: it is for the next step to wake.
func (m *Hart) fallAsleep(w uint32) {
	if m.withheld(statusTW) {
		m.exception(api.Illegal, w)
		return
	}
	m.pc += 4
	m.asleep = true
}

// withheld tells whether the level may not do what is never User's, and not
// Supervisor's where the bit guard of mstatus is set.
func (m *Hart) withheld(guard uint32) bool {
	if m.level == api.Supervisor {
		return m.csr.mstatus&guard != 0
	}
	return m.level == api.User
}
