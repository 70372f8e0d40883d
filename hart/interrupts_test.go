package hart

import (
	"fmt"
	"slices"
	"testing"

	"hart/api"
)

const (
	bitSIE = 0x2
	bitMIE = 0x8
)

// P16, P11: each interrupt that is not in mideleg goes to Machine, from each
// level, with mstatus in every way that lets it in; medeleg does not matter.
func TestEachInterruptToMachine(t *testing.T) {
	for _, i := range order {
		for _, level := range levels {
			for _, status := range statuses() {
				if level == api.Machine && status&bitMIE == 0 {
					continue
				}
				for _, medeleg := range []uint32{0, 0x3AF} {
					m := facing(t, level, status, 1<<i, 1<<i, 0x222&^(1<<i))
					m.csr.medeleg = medeleg
					takes(t, fmt.Sprintf("P16: %s to Machine from level %d, mstatus %#x, medeleg %#x", names[i], level, status, medeleg), m, i)
				}
			}
		}
	}
}

// P16, P11: each interrupt that can be in mideleg goes to Supervisor, from User
// and from Supervisor, with mstatus in every way that lets it in.
func TestEachInterruptToSupervisor(t *testing.T) {
	for _, i := range []int{api.SEI, api.SSI, api.STI} {
		for _, level := range []int{api.User, api.Supervisor} {
			for _, status := range statuses() {
				if level == api.Supervisor && status&bitSIE == 0 {
					continue
				}
				for _, medeleg := range []uint32{0, 0x3AF} {
					m := facing(t, level, status, 1<<i, 1<<i, 1<<i)
					m.csr.medeleg = medeleg
					takes(t, fmt.Sprintf("P16: %s to Supervisor from level %d, mstatus %#x, medeleg %#x", names[i], level, status, medeleg), m, i)
				}
			}
		}
	}
}

// P16: the same in numbers. The vectors of Machine and Supervisor are 0x101 and
// 0x201; the registers of the other level stay as they were.
func TestInterruptsInNumbers(t *testing.T) {
	for _, c := range []struct {
		i       int
		level   int
		deleg   uint32
		was, is uint32
		mode    int
		pc      uint32
		cause   uint32
	}{
		{api.MEI, 3, 0x000, 0x000008, 0x001880, 3, 0x100 + 44, 0x8000000B},
		{api.MSI, 3, 0x222, 0x601988, 0x601980, 3, 0x100 + 12, 0x80000003},
		{api.MTI, 3, 0x000, 0x000128, 0x0019A0, 3, 0x100 + 28, 0x80000007},
		{api.SEI, 3, 0x022, 0x00000A, 0x001882, 3, 0x100 + 36, 0x80000009},
		{api.SSI, 3, 0x220, 0x001808, 0x001880, 3, 0x100 + 4, 0x80000001},
		{api.STI, 3, 0x202, 0x000008, 0x001880, 3, 0x100 + 20, 0x80000005},
		{api.MEI, 1, 0x222, 0x000000, 0x000800, 3, 0x100 + 44, 0x8000000B},
		{api.MSI, 1, 0x000, 0x001808, 0x000880, 3, 0x100 + 12, 0x80000003},
		{api.MTI, 0, 0x000, 0x001880, 0x000000, 3, 0x100 + 28, 0x80000007},
		{api.SEI, 0, 0x000, 0x0019AA, 0x0001A2, 3, 0x100 + 36, 0x80000009},
		{api.SSI, 1, 0x000, 0x000002, 0x000802, 3, 0x100 + 4, 0x80000001},
		{api.STI, 0, 0x000, 0x000000, 0x000000, 3, 0x100 + 20, 0x80000005},
		{api.SEI, 1, 0x200, 0x000002, 0x000120, 1, 0x200 + 36, 0x80000009},
		{api.SSI, 1, 0x222, 0x60188A, 0x6019A8, 1, 0x200 + 4, 0x80000001},
		{api.STI, 1, 0x020, 0x000022, 0x000120, 1, 0x200 + 20, 0x80000005},
		{api.SEI, 0, 0x222, 0x000000, 0x000000, 1, 0x200 + 36, 0x80000009},
		{api.SSI, 0, 0x002, 0x000102, 0x000020, 1, 0x200 + 4, 0x80000001},
		{api.STI, 0, 0x222, 0x0019A8, 0x001888, 1, 0x200 + 20, 0x80000005},
	} {
		m := facing(t, c.level, c.was, 1<<c.i, 1<<c.i, c.deleg)
		m.Step()
		s := m.Look()
		if s.Csrs[8] != c.is || s.Mode != c.mode || s.Pc != c.pc || s.Regs[1] != 0x80000001 {
			t.Errorf("P16: %+v: mstatus is %#x, the level %d, pc %#x, x1 %#x", c, s.Csrs[8], s.Mode, s.Pc, s.Regs[1])
		}
		mine, others := s.Csrs[14:17], s.Csrs[4:7]
		kept := []uint32{0x204, 0x80000005, 0x205}
		if c.mode == api.Supervisor {
			mine, others = others, mine
			kept = []uint32{0x104, 0x80000003, 0x105}
		}
		if !slices.Equal(mine, []uint32{8, c.cause, 0}) || !slices.Equal(others, kept) {
			t.Errorf("P16: %+v: epc, cause and tval are %#x, those of the other level %#x", c, mine, others)
		}
	}
}

// P16: 4 times the number is added to the new pc, if bit 0 of the vector is 1,
// over the highest address too; the vector of the other level does not matter.
func TestVectorsOfInterrupts(t *testing.T) {
	for _, i := range order {
		for _, vector := range []uint32{0, 4, 0x30, 0x80000000, 0xFFFFFFD0, 0xFFFFFFF8, 0xFFFFFFFC} {
			for _, low := range []uint32{0, 1} {
				for _, deleg := range []uint32{0, 0x222 & (1 << i)} {
					m := facing(t, api.User, 0, 1<<i, 1<<i, deleg)
					m.csr.machine.tvec = vector | low
					m.csr.super.tvec = 0x40 | (1 - low)
					if deleg != 0 {
						m.csr.machine.tvec, m.csr.super.tvec = m.csr.super.tvec, m.csr.machine.tvec
					}
					what := fmt.Sprintf("P16: %s, mideleg %#x, the vector %#x", names[i], deleg, vector|low)
					takes(t, what, m, i)
					want := vector
					for range 4 * int(low) * i {
						want++
					}
					if m.pc != want {
						t.Errorf("%s: pc is %#x, want %#x", what, m.pc, want)
					}
				}
			}
		}
	}
}

// P16: over the highest address in numbers.
func TestVectorsOverTheHighestAddress(t *testing.T) {
	for _, c := range []struct {
		i      int
		deleg  uint32
		vector uint32
		pc     uint32
	}{
		{api.MEI, 0, 0xFFFFFFFD, 0x28}, {api.MEI, 0, 0xFFFFFFD5, 0}, {api.MEI, 0, 0xFFFFFFD1, 0xFFFFFFFC}, {api.MEI, 0, 0xFFFFFFFC, 0xFFFFFFFC},
		{api.SSI, 2, 0xFFFFFFFD, 0}, {api.SSI, 2, 0xFFFFFFFC, 0xFFFFFFFC}, {api.SEI, 0x200, 0xFFFFFFF9, 0x1C}, {api.STI, 0x20, 0xFFFFFFED, 0},
	} {
		m := facing(t, api.User, 0, 1<<c.i, 1<<c.i, c.deleg)
		m.csr.machine.tvec = c.vector
		m.csr.super.tvec = c.vector
		m.Step()
		if m.pc != c.pc {
			t.Errorf("P16: %s, the vector %#x: pc is %#x, want %#x", names[c.i], c.vector, m.pc, c.pc)
		}
	}
}

// P16: for each pair that is pending at once the one ahead of the other, with
// each mideleg: those that are not in it first, then as they are named.
func TestPairsOfInterrupts(t *testing.T) {
	for a, early := range order {
		for _, late := range order[a+1:] {
			for _, deleg := range delegations {
				want := early
				if has(deleg, early) && !has(deleg, late) {
					want = late
				}
				both := uint32(1<<early | 1<<late)
				m := facing(t, api.User, 0, both, both, deleg)
				what := fmt.Sprintf("P16: %s and %s, mideleg %#x", names[early], names[late], deleg)
				takes(t, what, m, want)
				s := m.Look()
				cause := s.Csrs[15]
				if has(deleg, want) {
					cause = s.Csrs[5]
				}
				if cause != 0x80000000+uint32(want) || (s.Mode == api.Supervisor) != has(deleg, want) {
					t.Errorf("%s: the cause is %#x, the level %d", what, cause, s.Mode)
				}
			}
		}
	}
}

// delegations: mideleg in every way.
var delegations = []uint32{0, 0x002, 0x020, 0x022, 0x200, 0x202, 0x220, 0x222}

// sets: the interrupts in every way, as bits.
func sets() []uint32 {
	var all []uint32
	for n := range 64 {
		v := uint32(0)
		for at, i := range order {
			if n>>at%2 == 1 {
				v += 1 << i
			}
		}
		all = append(all, v)
	}
	return all
}

// P16: which interrupt is taken, if any, of each set of them that is set in mip,
// in mie, or in both, with each mideleg, at each level, with each MIE and SIE.
func TestEverySetOfInterrupts(t *testing.T) {
	for _, set := range sets() {
		for _, deleg := range delegations {
			for _, level := range levels {
				for _, status := range []uint32{0, bitSIE, bitMIE, bitSIE | bitMIE} {
					for _, c := range [][2]uint32{{set, 0xAAA}, {0xAAA, set}, {set, set}, {set, 0xAAA - set}} {
						m := facing(t, level, status, c[0], c[1], deleg)
						want := m.Look()
						if begun(&want) {
							want.Pc = 12
							want.Regs[1]++
						}
						steps(t, fmt.Sprintf("P16: level %d, mstatus %#x, mip %#x, mie %#x, mideleg %#x", level, status, c[0], c[1], deleg), m, want)
						if t.Failed() {
							return
						}
					}
				}
			}
		}
	}
}

// P16: what is missing in mip or in mie is not taken, whatever the level and
// mstatus are, and though all the others are there.
func TestInterruptsThatAreMissing(t *testing.T) {
	for _, i := range order {
		others := uint32(0xAAA - 1<<i)
		for _, c := range [][2]uint32{{0, 0xAAA}, {0xAAA, 0}, {0, 1 << i}, {1 << i, 0}, {others, 1 << i}, {1 << i, others}} {
			for _, level := range levels {
				for _, deleg := range []uint32{0, 0x222} {
					m := facing(t, level, bitSIE|bitMIE, c[0], c[1], deleg)
					does(t, fmt.Sprintf("P16: %s, mip %#x, mie %#x, level %d, mideleg %#x", names[i], c[0], c[1], level, deleg), m)
				}
			}
		}
	}
}

// P16: who is interrupted, in numbers: for each level what MIE and SIE must be.
func TestWhoIsInterrupted(t *testing.T) {
	for _, c := range []struct {
		level  int
		deleg  bool
		status uint32
		taken  bool
	}{
		{api.Machine, false, 0, false}, {api.Machine, false, bitSIE, false},
		{api.Machine, false, 0x6019AA - bitMIE, false},
		{api.Machine, false, bitMIE, true}, {api.Machine, false, bitMIE | bitSIE, true},
		{api.Supervisor, false, 0, true}, {api.Supervisor, false, bitSIE, true},
		{api.Supervisor, false, bitMIE, true}, {api.Supervisor, false, bitMIE | bitSIE, true},
		{api.User, false, 0, true}, {api.User, false, bitSIE, true},
		{api.User, false, bitMIE, true}, {api.User, false, bitMIE | bitSIE, true},
		{api.Machine, true, 0, false}, {api.Machine, true, bitSIE, false},
		{api.Machine, true, bitMIE, false}, {api.Machine, true, 0x6019AA, false},
		{api.Supervisor, true, 0, false}, {api.Supervisor, true, bitMIE, false},
		{api.Supervisor, true, 0x6019AA - bitSIE, false},
		{api.Supervisor, true, bitSIE, true}, {api.Supervisor, true, bitMIE | bitSIE, true},
		{api.User, true, 0, true}, {api.User, true, bitSIE, true},
		{api.User, true, bitMIE, true}, {api.User, true, bitMIE | bitSIE, true},
	} {
		for _, i := range order {
			deleg := uint32(0x222 &^ (1 << i))
			if c.deleg {
				deleg = 0x222 & (1 << i)
			}
			if c.deleg && deleg == 0 {
				continue
			}
			m := facing(t, c.level, c.status, 1<<i, 1<<i, deleg)
			what := fmt.Sprintf("P16: %s: %+v", names[i], c)
			if c.taken {
				takes(t, what, m, i)
			} else {
				does(t, what, m)
			}
		}
	}
}

// P16: an interrupt that is kept off comes when it is let in, and only then.
func TestKeptOff(t *testing.T) {
	m := facing(t, api.Machine, 0, 0x008, 0x008, 0)
	for at := uint32(8); at < 64; at += 4 {
		place(m, at, addi(1, 1, 1))
	}
	for range 5 {
		does(t, "P16: MIE is 0", m)
	}
	m.csr.mstatus = bitMIE
	takes(t, "P16: MIE is 1", m, api.MSI)
	if m.csr.machine.epc != 28 {
		t.Errorf("P16: mepc is %#x, want 28", m.csr.machine.epc)
	}
}

// P6: an interrupt is ahead of a fetch that would fail.
func TestInterruptAheadOfAFetch(t *testing.T) {
	for _, pc := range []uint32{64, 68, 0x1000, 0x80000000, 0xFFFFFFFC} {
		for _, level := range levels {
			for _, deleg := range []uint32{0, 0x222} {
				m := facing(t, level, bitSIE|bitMIE, 0xAAA, 0xAAA, deleg)
				m.pc = pc
				what := fmt.Sprintf("P6: at %#x, level %d", pc, level)
				takes(t, what, m, api.MEI)
				if m.csr.machine.epc != pc || m.csr.machine.cause != 0x8000000B || m.csr.machine.tval != 0 {
					t.Errorf("%s: mepc is %#x, mcause %#x, mtval %#x", what, m.csr.machine.epc, m.csr.machine.cause, m.csr.machine.tval)
				}
			}
		}
		m := facing(t, api.Supervisor, bitSIE, 0x222, 0x222, 0x222)
		m.pc = pc
		takes(t, "P6: to Supervisor, behind the memory's end", m, api.SEI)
		m = facing(t, api.Supervisor, 0, 0x222, 0x222, 0x222)
		m.pc = pc
		traps(t, "P6: SIE is 0: the fetch fails", m, api.FetchFault, pc)
	}
}

// P6: in the step of an interrupt no instruction is done, whatever stands at
// pc, be it one or none.
func TestNoInstructionInThatStep(t *testing.T) {
	for _, w := range []uint32{
		0, none, 0x60315093, wordEcall, wordEbreak, wordMret, wordSret, wordWfi, 0x0000000F,
		wordJ(5, 16), wordJ(5, 2), jalr(5, 6, 0), wordB(0, 1, 1, 8), wordI(0x37, 0, 5, 0, 1), addi(5, 5, 1),
		wordS(2, 0, 5, 0), wordS(2, 0, 5, 8), wordS(0, 6, 5, 0), wordI(0x03, 2, 5, 0, 0), wordI(0x03, 2, 5, 6, 0),
		wordS(2, 7, 0, 0), wordI(0x03, 2, 5, 8, 0), wordS(2, 8, 9, 0), wordS(2, 10, 5, 0),
		csr(1, 5, 0, 0x304), csr(1, 5, 0, 0x344), csr(1, 5, 0, 0x104), csr(3, 5, 5, 0x100), csr(1, 5, 6, 0x303), csr(7, 5, 10, 0x300), csr(1, 5, 6, 0xF14),
	} {
		for _, level := range levels {
			m := facing(t, level, bitSIE|bitMIE, 0xAAA, 0xAAA, 0)
			m.regs[7] = api.Msip
			m.regs[8] = api.Claim
			m.regs[9] = 7
			m.regs[10] = api.Mtimecmp
			place(m, 8, w)
			takes(t, fmt.Sprintf("P6: ahead of %#x, level %d", w, level), m, api.MEI)
		}
		m := facing(t, api.User, 0, 0x020, 0x020, 0x020)
		place(m, 8, w)
		takes(t, fmt.Sprintf("P6: ahead of %#x, to Supervisor", w), m, api.STI)
	}
}

// P6: nothing but a step takes an interrupt, and one step takes one alone.
func TestOnlyAStepTakes(t *testing.T) {
	m := facing(t, api.User, 0, 0x002, 0xAAA, 0x222)
	m.csr.machine.tvec = 0x20
	turning(t, "P14: a line", m, 3, true)
	turning(t, "P14: a line", m, 3, false)
	ticking(t, "P14: a tick", m)
	writing(t, "P13: a write", m, 0x1000, 4, 1)
	writing(t, "P13: a write", m, 0x2030, 4, 0)
	writing(t, "P13: a write", m, 32, 4, addi(1, 1, 1))
	reading(t, "P13: a read", m, 0x2020, 4)
	takes(t, "P16: the first", m, api.MEI)
	does(t, "P16: no second one at Machine with MIE 0", m)
}

// P16: at Supervisor, behind an interrupt that goes there, one that goes to
// Machine comes with the next step; at Machine, behind that, there comes none.
func TestInterruptBehindAnInterrupt(t *testing.T) {
	m := facing(t, api.User, bitSIE|bitMIE, 0x222, 0xAAA, 0x222)
	m.csr.super.tvec = 0x11
	m.csr.machine.tvec = 0x20
	place(m, 32, addi(1, 1, 1))
	takes(t, "P16: SEI to Supervisor", m, api.SEI)
	send(t, m, 0x1000, 1)
	takes(t, "P16: MSI to Machine", m, api.MSI)
	s := m.Look()
	if s.Csrs[14] != 0x10+36 || s.Csrs[4] != 8 || s.Csrs[8] != 0x8A0 {
		t.Errorf("P16: mepc is %#x, sepc %#x, mstatus %#x", s.Csrs[14], s.Csrs[4], s.Csrs[8])
	}
	does(t, "P16: none at Machine with MIE 0", m)
}

// P16: a step's own write lets an interrupt in: it comes with the next step. The
// want of the first step is what the instruction does, and no more.
func TestOwnWrites(t *testing.T) {
	for _, c := range []struct {
		name                    string
		level                   int
		status, mip, mie, deleg uint32
		f3, n, v                uint32
		i                       int
	}{
		{"mstatus", 3, 0, 0x008, 0x008, 0, 2, 0x300, bitMIE, api.MSI},
		{"mstatus, written", 3, 0x1880, 0x800, 0x800, 0, 1, 0x300, bitMIE, api.MEI},
		{"sstatus", 1, 0, 0x002, 0x002, 0x222, 2, 0x100, bitSIE, api.SSI},
		{"sstatus, written", 1, 0x120, 0x200, 0x200, 0x222, 1, 0x100, 0xFFFFFFFF, api.SEI},
		{"mie", 3, bitMIE, 0x080, 0x000, 0, 2, 0x304, 0x080, api.MTI},
		{"mie, written", 3, bitMIE, 0xAAA, 0x000, 0x222, 1, 0x304, 0x2A2, api.MTI},
		{"sie", 1, bitSIE, 0x200, 0x000, 0x200, 2, 0x104, 0x200, api.SEI},
		{"sie, written", 1, bitSIE, 0x222, 0x000, 0x022, 1, 0x104, 0xFFFFFFFF, api.SSI},
		{"mip", 3, bitMIE, 0x000, 0x020, 0, 2, 0x344, 0x020, api.STI},
		{"mip, written", 3, bitMIE, 0x000, 0x022, 0, 1, 0x344, 0xFFFFFFFF, api.SSI},
		{"sip", 1, bitSIE, 0x000, 0x002, 0x002, 2, 0x144, 0x002, api.SSI},
		{"sip, written", 1, bitSIE, 0x000, 0x002, 0x222, 1, 0x144, 0x002, api.SSI},
		{"mideleg", 3, bitMIE, 0x200, 0x200, 0x222, 3, 0x303, 0x200, api.SEI},
		{"mideleg, written", 3, bitMIE, 0x222, 0x222, 0x222, 1, 0x303, 0x202, api.STI},
	} {
		m := facing(t, c.level, c.status, c.mip, c.mie, c.deleg)
		place(m, 8, csr(c.f3, 6, 5, c.n))
		m.regs[5] = c.v
		want := m.Look()
		accessed(&want, c.f3, 6, 5, c.n)
		if want.Pc != 12 {
			t.Errorf("P16: %s: this is to be done, not to trap", c.name)
		}
		steps(t, "P16: the write of "+c.name, m, want)
		takes(t, "P16: behind the write of "+c.name, m, c.i)
		epc := m.csr.sideOf(m.level).epc
		if epc != 12 {
			t.Errorf("P16: behind the write of %s: epc is %#x, want 12", c.name, epc)
		}
	}
}

// P16: likewise a store to a device's word, at each level.
func TestOwnStores(t *testing.T) {
	for _, c := range []struct {
		name string
		mip  uint32
		a, v uint32
		i    int
	}{
		{"msip", 0, 0x1000, 1, api.MSI},
		{"mtimecmp", 0, 0x1004, 5, api.MTI},
		{"mtime", 0, 0x1008, 6, api.MTI},
		{"a priority", 0, 0x201C, 5, api.MEI},
		{"Limit of 0", 0, 0x2030, 3, api.MEI},
		{"Limit of 1", 0, 0x2038, 3, api.SEI},
		{"Limit of 0 beside others", 0x2A2, 0x2030, 0, api.MEI},
	} {
		for _, level := range levels {
			m := facing(t, level, bitMIE, c.mip, 1<<c.i, 0)
			ownStore(t, fmt.Sprintf("P16: %s, level %d", c.name, level), m, c.a, c.v, c.i)
		}
	}
	m := facing(t, api.Supervisor, bitSIE, 0, 0x200, 0x200)
	ownStore(t, "P16: Limit of 1, to Supervisor", m, 0x2038, 0, api.SEI)
}

// P16: likewise a store that enables a source, and one that completes it, for
// each context.
func TestOwnStoresToTheController(t *testing.T) {
	for _, c := range []struct {
		enable, claim uint32
		i             int
	}{{0x2024, 0x2034, api.MEI}, {0x2028, 0x203C, api.SEI}} {
		m := facing(t, api.Machine, bitMIE, 0xA00, 1<<c.i, 0)
		send(t, m, c.enable, 0x7F)
		ownStore(t, "P16: Enable", m, c.enable, 0x80, c.i)
		m = facing(t, api.Machine, bitMIE, 0xA00, 1<<c.i, 0)
		m.Line(7, true)
		if s, ok := m.Read(c.claim, 4); s != 7 || !ok {
			t.Fatalf("P15: Read(%#x, 4) = %d, %v", c.claim, s, ok)
		}
		ownStore(t, "P16: Claim", m, c.claim, 7, c.i)
	}
}

// ownStore does a step that stores v to a, and then one that takes interrupt i.
func ownStore(t *testing.T, what string, m *Hart, a, v uint32, i int) {
	t.Helper()
	place(m, 8, wordS(2, 5, 6, 0))
	m.regs[5] = a
	m.regs[6] = v
	storing(t, what+": the store", m, a, 4, v)
	if m.pc != 12 {
		t.Errorf("%s: pc is %#x, want 12", what, m.pc)
	}
	takes(t, what+": the next step", m, i)
}

// P16: likewise Mret and Sret, by the level or by MIE or SIE.
func TestOwnReturns(t *testing.T) {
	for _, c := range []struct {
		w      uint32
		level  int
		status uint32
		i      int
		deleg  uint32
	}{
		{wordMret, 3, 0x1880, api.MSI, 0},
		{wordMret, 3, 0x0800, api.MTI, 0},
		{wordMret, 3, 0x0000, api.MEI, 0x222},
		{wordMret, 3, 0x0880, api.SSI, 0},
		{wordMret, 3, 0x0802, api.SSI, 0x002},
		{wordMret, 3, 0x0000, api.STI, 0x020},
		{wordMret, 3, 0x0088, api.SEI, 0x200},
		{wordSret, 3, 0x0000, api.MEI, 0},
		{wordSret, 3, 0x0100, api.MSI, 0},
		{wordSret, 3, 0x0120, api.SSI, 0x222},
		{wordSret, 3, 0x0000, api.SEI, 0x222},
		{wordSret, 1, 0x0120, api.STI, 0x222},
		{wordSret, 1, 0x0000, api.SSI, 0x222},
		{wordSret, 1, 0x0028, api.SEI, 0x200},
	} {
		m := facing(t, c.level, c.status, 1<<c.i, 1<<c.i, c.deleg)
		place(m, 8, c.w)
		want := m.Look()
		returned(&want, c.w)
		what := fmt.Sprintf("P16: %+v", c)
		steps(t, what+": the return", m, want)
		back := m.pc
		takes(t, what+": the next step", m, c.i)
		if epc := m.csr.sideOf(m.level).epc; epc != back || back != 0x104 && back != 0x204 {
			t.Errorf("%s: epc is %#x, it went back to %#x", what, epc, back)
		}
	}
}

// P16: a return that does not let it in: the instruction there is done.
func TestReturnsThatKeepOff(t *testing.T) {
	for _, c := range []struct {
		w      uint32
		level  int
		status uint32
		i      int
		deleg  uint32
	}{
		{wordMret, 3, 0x1800, api.MSI, 0},
		{wordMret, 3, 0x1882, api.SSI, 0x222},
		{wordMret, 3, 0x0888, api.SSI, 0x222},
		{wordSret, 3, 0x0108, api.SEI, 0x222},
		{wordSret, 1, 0x0108, api.STI, 0x222},
	} {
		m := facing(t, c.level, c.status, 1<<c.i, 1<<c.i, c.deleg)
		place(m, 8, c.w)
		place(m, 32, addi(1, 1, 1))
		m.csr.machine.epc = 32
		m.csr.super.epc = 32
		want := m.Look()
		returned(&want, c.w)
		what := fmt.Sprintf("P16: %+v", c)
		steps(t, what+": the return", m, want)
		does(t, what+": the next step", m)
	}
}

// P16: what a step's own write takes away does not come with the next.
func TestOwnWritesThatKeepOff(t *testing.T) {
	for _, c := range []struct {
		name    string
		w       uint32
		a, v    uint32
		mip     uint32
		mideleg uint32
	}{
		{"mie", csr(1, 0, 0, 0x304), 0, 0, 0x888, 0},
		{"mip", csr(1, 0, 0, 0x344), 0, 0, 0x022, 0},
		{"mideleg", csr(1, 0, 6, 0x303), 0, 0x222, 0x222, 0},
		{"msip", wordS(2, 5, 6, 0), 0x1000, 0, 0x008, 0},
		{"mtimecmp", wordS(2, 5, 6, 0), 0x1004, 6, 0x080, 0},
		{"a claim", wordI(0x03, 2, 7, 5, 0), 0x2034, 0, 0xA00, 0},
	} {
		m := facing(t, api.Machine, 0, c.mip, 0xAAA, c.mideleg)
		place(m, 8, c.w)
		place(m, 12, csr(6, 0, 8, 0x300))
		place(m, 16, addi(1, 1, 1))
		m.regs[5] = c.a
		m.regs[6] = c.v
		m.Step()
		m.Step()
		if m.pc != 16 || m.csr.mstatus != bitMIE {
			t.Fatalf("P16: %s: pc is %#x, mstatus %#x", c.name, m.pc, m.csr.mstatus)
		}
		does(t, "P16: taken away by "+c.name, m)
	}
}

// P11, P16: a step whose instruction can't be done ends in the exception,
// whatever is pending but kept off, and what it is kept off by stays.
func TestExceptionsAndInterrupts(t *testing.T) {
	m := facing(t, api.Supervisor, bitMIE, 0x002, 0x002, 0x002)
	m.csr.medeleg = 0x200
	m.csr.super.tvec = 0x21
	place(m, 8, wordEcall)
	place(m, 32, addi(1, 1, 1))
	traps(t, "P11: Ecall with SIE 0", m, api.CallSuper, 0)
	does(t, "P16: SIE is 0 still", m)
	m = facing(t, api.Machine, 0, 0x008, 0x008, 0)
	m.csr.machine.tvec = 0x21
	place(m, 8, wordEbreak)
	place(m, 32, addi(1, 1, 1))
	traps(t, "P11: Ebreak with MIE 0", m, api.Breakpoint, 8)
	does(t, "P16: MIE is 0 still", m)
}
