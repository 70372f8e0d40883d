package hart

import (
	"fmt"
	"testing"

	"hart/api"
)

// dozing gives a computer like that of facing, with a Wfi at 8 and an Addi at
// 12, behind the step in which it fell asleep; nothing was pending then.
func dozing(t *testing.T, level int, status, mie, mideleg uint32) *Hart {
	t.Helper()
	m := facing(t, level, status, 0, mie, mideleg)
	place(m, 12, addi(1, 1, 1))
	dozes(t, "P12: Wfi", m)
	return m
}

// dozes does one step, of a Wfi that stands at 8, of which the processor falls
// asleep and nothing else.
func dozes(t *testing.T, what string, m *Hart) {
	t.Helper()
	place(m, 8, wordWfi)
	want := m.Look()
	want.Pc = 12
	want.Asleep = true
	steps(t, what, m, want)
}

// goesOn does one step in which the processor wakes and does the Addi at 12, and
// a second one, in which it is awake still, though nothing is pending any more.
func goesOn(t *testing.T, what string, m *Hart) {
	t.Helper()
	want := m.Look()
	want.Asleep = false
	want.Pc = 16
	want.Regs[1]++
	steps(t, what, m, want)
	raise(t, m, 0)
	place(m, 16, addi(1, 1, 1))
	does(t, what+", the next step", m)
}

// sleepers: the levels at which Wfi can be done, with MIE and SIE in every way.
var sleepers = []struct {
	level  int
	status uint32
}{
	{api.Machine, 0}, {api.Machine, bitSIE}, {api.Machine, bitMIE}, {api.Machine, bitSIE | bitMIE},
	{api.Supervisor, 0}, {api.Supervisor, bitSIE}, {api.Supervisor, bitMIE}, {api.Supervisor, bitSIE | bitMIE},
}

// P6: no bit in both mip and mie: nothing at all is another, however often.
func TestSleepsOn(t *testing.T) {
	for _, c := range sleepers {
		for _, set := range sets() {
			for _, deleg := range []uint32{0, 0x222} {
				m := dozing(t, c.level, c.status, set, deleg)
				what := fmt.Sprintf("P6: %+v, mie %#x, mideleg %#x", c, set, deleg)
				rests(t, what, m, 2)
				raise(t, m, 0xAAA-set)
				rests(t, what+", the others pending", m, 2)
			}
		}
	}
	m := dozing(t, api.Machine, bitMIE, 0x0AA, 0)
	raise(t, m, 0xA00)
	rests(t, "P6: for long", m, 1000)
}

// P6: one that sleeps behind the memory's end, or ahead of a word that is no
// instruction, sleeps on; it ends in the exception when it wakes.
func TestSleepsAheadOfAnException(t *testing.T) {
	m := busy(t, 64, 60, wordWfi)
	m.csr.mie = 0x008
	raise(t, m, 0)
	want := m.Look()
	want.Pc = 64
	want.Asleep = true
	steps(t, "P12: Wfi in the last word", m, want)
	rests(t, "P6: behind the memory's end", m, 3)
	raise(t, m, 0x008)
	want = m.Look()
	want.Asleep = false
	trapped(&want, api.FetchFault, 64)
	steps(t, "P6: awake behind the memory's end", m, want)
	for _, w := range []uint32{0, none} {
		m = dozing(t, api.Supervisor, bitMIE, 0x002, 0x002)
		place(m, 12, w)
		rests(t, "P6: ahead of no instruction", m, 3)
		raise(t, m, 0x002)
		want = m.Look()
		want.Asleep = false
		trapped(&want, api.Illegal, w)
		steps(t, "P6: awake ahead of no instruction", m, want)
	}
}

// P6: a bit in both, but not enabled: it wakes, and the instruction at pc is
// done in the same step.
func TestWakesAndGoesOn(t *testing.T) {
	for _, i := range order {
		for _, mie := range []uint32{1 << i, 0xAAA} {
			for _, status := range []uint32{0, bitSIE, 0x6019AA - bitMIE} {
				m := dozing(t, api.Machine, status, mie, 0)
				raise(t, m, 1<<i)
				goesOn(t, fmt.Sprintf("P6: %s with MIE 0, mie %#x, mstatus %#x", names[i], mie, status), m)
			}
		}
	}
	for _, i := range []int{api.SEI, api.SSI, api.STI} {
		for _, c := range sleepers {
			if c.level == api.Supervisor && c.status&bitSIE != 0 {
				continue
			}
			m := dozing(t, c.level, c.status, 1<<i, 0x222)
			raise(t, m, 1<<i)
			goesOn(t, fmt.Sprintf("P6: %s in mideleg, %+v", names[i], c), m)
		}
	}
}

// P6: a bit in both, and enabled: it wakes, and the interrupt is taken in the
// same step; mepc or sepc is the pc behind the Wfi.
func TestWakesAndTakes(t *testing.T) {
	for _, i := range order {
		for _, c := range sleepers {
			for _, deleg := range []uint32{0, 0x222 & (1 << i)} {
				m := dozing(t, c.level, c.status, 0xAAA, deleg)
				raise(t, m, 1<<i)
				s := m.Look()
				if !enabled(&s, i) {
					continue
				}
				what := fmt.Sprintf("P6: %s, %+v, mideleg %#x", names[i], c, deleg)
				takes(t, what, m, i)
				side := m.csr.machine
				if deleg != 0 {
					side = m.csr.super
				}
				if m.asleep || side.epc != 12 || side.cause != 0x80000000+uint32(i) || side.tval != 0 || m.regs[1] != 0x80000001 {
					t.Errorf("%s: asleep %v, epc %#x, cause %#x, tval %#x, x1 %#x", what, m.asleep, side.epc, side.cause, side.tval, m.regs[1])
				}
			}
		}
	}
}

// P6, P16: the same in numbers.
func TestWakesAndTakesInNumbers(t *testing.T) {
	for _, c := range []struct {
		level              int
		status, bit, deleg uint32
		mode               int
		pc, is             uint32
	}{
		{3, bitMIE, 0x800, 0, 3, 0x100 + 44, 0x1880},
		{3, bitMIE | bitSIE, 0x002, 0, 3, 0x100 + 4, 0x1882},
		{1, 0, 0x080, 0x222, 3, 0x100 + 28, 0x0800},
		{1, bitMIE, 0x200, 0, 3, 0x100 + 36, 0x0880},
		{1, bitSIE, 0x200, 0x200, 1, 0x200 + 36, 0x0120},
		{1, bitSIE | bitMIE, 0x020, 0x222, 1, 0x200 + 20, 0x0128},
	} {
		m := dozing(t, c.level, c.status, c.bit, c.deleg)
		raise(t, m, c.bit)
		m.Step()
		s := m.Look()
		if s.Asleep || s.Mode != c.mode || s.Pc != c.pc || s.Csrs[8] != c.is || s.Regs[1] != 0x80000001 {
			t.Errorf("P6: %+v: asleep %v, the level %d, pc %#x, mstatus %#x, x1 %#x", c, s.Asleep, s.Mode, s.Pc, s.Csrs[8], s.Regs[1])
		}
		if epc := s.Csrs[map[int]int{1: 4, 3: 14}[c.mode]]; epc != 12 {
			t.Errorf("P6: %+v: epc is %#x, want 12", c, epc)
		}
	}
}

// P6: which interrupt is taken, if any, of each set of them that wakes it.
func TestWakesWithEverySet(t *testing.T) {
	for _, c := range sleepers {
		for _, set := range sets() {
			for _, deleg := range delegations {
				m := dozing(t, c.level, c.status, 0xAAA, deleg)
				raise(t, m, set)
				want := m.Look()
				if begun(&want) {
					want.Pc = 16
					want.Regs[1]++
				}
				steps(t, fmt.Sprintf("P6: %+v, mip %#x, mideleg %#x", c, set, deleg), m, want)
			}
		}
	}
}

// P12: Wfi falls asleep with whatever is pending, if only it is not taken ahead
// of it; the next step wakes.
func TestFallsAsleepWithWhateverIsPending(t *testing.T) {
	for _, c := range []struct {
		level                   int
		status, mip, mie, deleg uint32
		wakes                   bool
	}{
		{3, 0, 0xAAA, 0xAAA, 0, true},
		{3, bitSIE, 0xAAA, 0xAAA, 0x222, true},
		{3, bitMIE, 0x222, 0xAAA, 0x222, true},
		{3, bitMIE | bitSIE, 0xAAA, 0x222, 0x222, true},
		{1, bitMIE, 0x222, 0xAAA, 0x222, true},
		{1, 0, 0xAAA, 0x222, 0x222, true},
		{3, bitMIE, 0xAAA, 0, 0, false},
		{3, bitMIE, 0x222, 0x888, 0x222, false},
		{1, bitMIE | bitSIE, 0xAAA, 0, 0x222, false},
		{1, bitMIE | bitSIE, 0x888, 0x222, 0, false},
	} {
		m := facing(t, c.level, c.status, c.mip, c.mie, c.deleg)
		place(m, 12, addi(1, 1, 1))
		what := fmt.Sprintf("P12: %+v", c)
		dozes(t, what, m)
		if c.wakes {
			goesOn(t, what, m)
		} else {
			rests(t, what, m, 3)
		}
	}
	m := facing(t, api.Machine, 0, 0x008, 0x008, 0)
	for at := uint32(12); at < 64; at += 4 {
		place(m, at, wordWfi)
	}
	dozes(t, "P12: Wfi behind Wfi", m)
	for at := uint32(16); at <= 64; at += 4 {
		want := m.Look()
		want.Pc = at
		steps(t, "P6: awake and asleep again in one step", m, want)
	}
}

// P6, P16: an interrupt that is enabled is ahead of a Wfi: it does not fall
// asleep at all.
func TestInterruptAheadOfWfi(t *testing.T) {
	m := facing(t, api.Machine, bitMIE, 0x080, 0x080, 0)
	place(m, 8, wordWfi)
	takes(t, "P16: ahead of Wfi", m, api.MTI)
	if m.asleep || m.csr.machine.epc != 8 {
		t.Errorf("P16: ahead of Wfi: asleep %v, mepc %#x", m.asleep, m.csr.machine.epc)
	}
}

// numberOf: that of the interrupt with this bit.
func numberOf(bit uint32) int {
	for i := range names {
		if bit == 1<<i {
			return i
		}
	}
	return -1
}

// P6: woken by lines, by ticks and by writes from outside; none of these does
// more than to let the next step wake.
func TestWokenFromOutside(t *testing.T) {
	for _, c := range told {
		i := numberOf(c.bit)
		for _, s := range sleepers {
			for _, deleg := range []uint32{0, 0x222 & c.bit} {
				what := fmt.Sprintf("P6: %s, %+v, mideleg %#x", c.name, s, deleg)
				m := dozing(t, s.level, s.status, c.bit, deleg)
				m.lines.Pend = 0
				rests(t, what+", ahead of it", m, 1)
				c.set(m)
				c.clear(m)
				rests(t, what+", gone again", m, 1)
				c.set(m)
				if !m.asleep || m.pc != 12 {
					t.Errorf("%s: asleep %v, pc %#x ahead of the step", what, m.asleep, m.pc)
				}
				if now := m.Look(); enabled(&now, i) {
					takes(t, what, m, i)
				} else {
					goesOn(t, what, m)
				}
			}
		}
	}
}

// P6: a line, a tick and a write in numbers: the step in which it wakes.
func TestWokenInNumbers(t *testing.T) {
	for _, c := range []struct {
		name string
		mie  uint32
		wake func(m *Hart)
		pc   uint32
	}{
		{"a line", 0x800, func(m *Hart) { m.Line(2, true) }, 0x40 + 44},
		{"a line that is low again", 0x800, func(m *Hart) { m.Line(2, true); m.Line(2, false) }, 0x40 + 44},
		{"a tick", 0x080, func(m *Hart) { m.Tick(); m.Tick(); m.Tick() }, 0x40 + 28},
		{"a write to msip", 0x008, func(m *Hart) { m.Write(0x1000, 4, 1) }, 0x40 + 12},
		{"a write to mtime", 0x080, func(m *Hart) { m.Write(0x1008, 4, 3) }, 0x40 + 28},
		{"a write to mtimecmp", 0x080, func(m *Hart) { m.Write(0x1004, 4, 0) }, 0x40 + 28},
		{"too few ticks", 0x080, func(m *Hart) { m.Tick(); m.Tick() }, 0},
		{"a line that is not enabled", 0x800, func(m *Hart) { m.Line(3, true) }, 0},
		{"a line that is claimed", 0x800, func(m *Hart) { m.Line(2, true); m.Read(0x2034, 4) }, 0},
		{"a write to the memory", 0xAAA, func(m *Hart) { m.Write(12, 4, 0) }, 0},
	} {
		m := must(t, 64, image(
			wordI(0x37, 0, 1, 0, 0)|0x1000, addi(1, 1, 0xFFF), // 0x00: x1 is 0xFFF, all that mie holds
			csr(1, 0, 1, 0x304), addi(1, 0, 0x41), csr(1, 0, 1, 0x305), // 0x08: mie, mtvec
			csr(6, 0, 8, 0x300), wordWfi, addi(2, 2, 1), // 0x14: MIE, and asleep
		))
		send(t, m, 0x1004, 3)
		send(t, m, 0x2008, 1)
		send(t, m, 0x2024, 4)
		for range 7 {
			m.Step()
		}
		m.csr.mie = c.mie
		if s := m.Look(); !s.Asleep || s.Pc != 28 {
			t.Fatalf("P12: %s: asleep %v, pc %d", c.name, s.Asleep, s.Pc)
		}
		c.wake(m)
		m.Step()
		s := m.Look()
		if c.pc == 0 {
			if !s.Asleep || s.Pc != 28 || s.Csrs[15] != 0 {
				t.Errorf("P6: %s: asleep %v, pc %#x, mcause %#x", c.name, s.Asleep, s.Pc, s.Csrs[15])
			}
			continue
		}
		if s.Asleep || s.Pc != c.pc || s.Csrs[14] != 28 || s.Csrs[15] != 0x80000000+(c.pc-0x40)/4 || s.Regs[2] != 0 {
			t.Errorf("P6: %s: asleep %v, pc %#x, mepc %#x, mcause %#x, x2 %d", c.name, s.Asleep, s.Pc, s.Csrs[14], s.Csrs[15], s.Regs[2])
		}
	}
}
