package hart

import (
	"testing"

	"hart/api"
)

// csr: the word of an instruction on a control register.
func csr(f3, rd, rs1, n uint32) uint32 { return wordI(0x73, f3, rd, rs1, n) }

// holding: a control register and what it is to hold.
type holding struct{ n, v uint32 }

// alters lets m, at its pc, write v to the control register n by Csrrw, and
// looks whether these alone hold something else then.
func alters(t *testing.T, what string, m *Hart, n, v uint32, changed ...holding) {
	t.Helper()
	place(m, m.pc, csr(1, 0, 1, n))
	m.regs[1] = v
	want := m.Look()
	want.Pc += 4
	for _, c := range changed {
		want.Csrs[slot(c.n)] = c.v
	}
	steps(t, what, m, want)
}

// P9: all bits written to a register of a computer that holds none.
func TestAllBitsWritten(t *testing.T) {
	for n, changed := range map[uint32][]holding{
		0x100: {{0x100, 0x122}, {0x300, 0x122}},
		0x104: nil,
		0x105: {{0x105, 0xFFFFFFFD}},
		0x140: {{0x140, 0xFFFFFFFF}},
		0x141: {{0x141, 0xFFFFFFFC}},
		0x142: {{0x142, 0x8000000F}},
		0x143: {{0x143, 0xFFFFFFFF}},
		0x144: nil,
		0x300: {{0x300, 0x006019AA}, {0x100, 0x122}},
		0x302: {{0x302, 0x3AF}},
		0x303: {{0x303, 0x222}},
		0x304: {{0x304, 0xAAA}},
		0x305: {{0x305, 0xFFFFFFFD}},
		0x340: {{0x340, 0xFFFFFFFF}},
		0x341: {{0x341, 0xFFFFFFFC}},
		0x342: {{0x342, 0x8000000F}},
		0x343: {{0x343, 0xFFFFFFFF}},
		0x344: {{0x344, 0x22}},
	} {
		alters(t, "P9: all bits", must(t, 8, ""), n, 0xFFFFFFFF, changed...)
		alters(t, "P9: no bits where there are none", must(t, 8, ""), n, 0)
	}
}

// full gives a computer in whose control registers every bit is set that they
// can hold, but MIE, so that no interrupt is taken.
func full(t *testing.T) *Hart {
	m := must(t, 8, "")
	ones := side{tvec: 0xFFFFFFFD, scratch: 0xFFFFFFFF, epc: 0xFFFFFFFC, cause: 0x8000000F, tval: 0xFFFFFFFF}
	m.csr = controls{mstatus: 0x006019A2, medeleg: 0x3AF, mideleg: 0x222, mie: 0xAAA, written: 0x22, super: ones, machine: ones}
	m.clock.Msip = 1
	m.clock.Mtime = 0xFFFFFFFF
	pend(m, 0)
	pend(m, 1)
	return m
}

// P9: no bit written to a register of a computer that holds all.
func TestNoBitsWritten(t *testing.T) {
	for n, changed := range map[uint32][]holding{
		0x100: {{0x100, 0}, {0x300, 0x00601880}},
		0x104: {{0x104, 0}, {0x304, 0x888}},
		0x105: {{0x105, 0}},
		0x140: {{0x140, 0}},
		0x141: {{0x141, 0}},
		0x142: {{0x142, 0}},
		0x143: {{0x143, 0}},
		0x144: {{0x144, 0x220}, {0x344, 0xAA8}},
		0x300: {{0x300, 0}, {0x100, 0}},
		0x302: {{0x302, 0}},
		0x303: {{0x303, 0}, {0x104, 0}, {0x144, 0}},
		0x304: {{0x304, 0}, {0x104, 0}},
		0x305: {{0x305, 0}},
		0x340: {{0x340, 0}},
		0x341: {{0x341, 0}},
		0x342: {{0x342, 0}},
		0x343: {{0x343, 0}},
		0x344: {{0x344, 0xA88}, {0x144, 0x200}},
	} {
		alters(t, "P9: no bits", full(t), n, 0, changed...)
	}
	m := full(t)
	m.csr.mie = 0
	m.csr.mstatus |= 1 << 3
	alters(t, "P9: MIE too", m, 0x300, 0, holding{0x300, 0}, holding{0x100, 0})
	for _, n := range numbers[:18] {
		m := full(t)
		if n == 0x300 {
			alters(t, "P9: all bits where all are", m, n, 0xFFFFFFFF, holding{n, 0x006019AA})
		} else {
			alters(t, "P9: all bits where all are", m, n, 0xFFFFFFFF)
		}
	}
}

// P9: each bit alone, set and cleared, in computers of three kinds.
func TestEachBitWritten(t *testing.T) {
	for _, n := range numbers[:18] {
		for i := range 32 {
			for _, v := range []uint32{1 << i, ^uint32(1 << i)} {
				for _, m := range []*Hart{must(t, 8, ""), full(t), busyAt(t, api.Machine, 0)} {
					place(m, m.pc, csr(1, 5, 1, n))
					m.regs[1] = v
					want := m.Look()
					accessed(&want, 1, 5, 1, n)
					steps(t, "P9: one bit", m, want)
				}
			}
		}
	}
}

// P9: sie and sip show what mideleg lets them, and write no more.
func TestViewsByMideleg(t *testing.T) {
	for _, deleg := range []uint32{0, 0x002, 0x020, 0x200, 0x022, 0x202, 0x220, 0x222} {
		of := func(m *Hart) *Hart {
			m.csr.mideleg = deleg
			return m
		}
		none := func() *Hart { return of(must(t, 8, "")) }
		all := func() *Hart { return of(full(t)) }
		soft := deleg & 0x002
		alters(t, "P9: sie", none(), 0x104, 0xFFFFFFFF, holding{0x104, deleg}, holding{0x304, deleg})
		alters(t, "P9: sie", all(), 0x104, 0, holding{0x104, 0}, holding{0x304, 0xAAA - deleg})
		alters(t, "P9: sip", none(), 0x144, 0xFFFFFFFF, holding{0x144, soft}, holding{0x344, soft})
		alters(t, "P9: sip", all(), 0x144, 0, holding{0x144, deleg - soft}, holding{0x344, 0xAAA - soft})
		alters(t, "P9: mie", none(), 0x304, 0xFFFFFFFF, holding{0x304, 0xAAA}, holding{0x104, deleg})
		alters(t, "P9: mie", all(), 0x304, 0, holding{0x304, 0}, holding{0x104, 0})
		alters(t, "P9: mip", none(), 0x344, 0xFFFFFFFF, holding{0x344, 0x022}, holding{0x144, deleg & 0x022})
		alters(t, "P9: mip", all(), 0x344, 0, holding{0x344, 0xA88}, holding{0x144, deleg & 0x200})
		alters(t, "P9: mideleg", all(), 0x303, 0xFFFFFFFF, holding{0x303, 0x222}, holding{0x104, 0x222}, holding{0x144, 0x222})
		gives(t, "P9: sie is read", reads(t, all(), 0x104), 9, deleg)
		gives(t, "P9: sip is read", reads(t, all(), 0x144), 9, deleg)
	}
}

// reads makes m ready to read the control register n into x9 and write nothing.
func reads(t *testing.T, m *Hart, n uint32) *Hart {
	t.Helper()
	m.regs[9] = 0xBAD
	place(m, m.pc, csr(2, 9, 0, n))
	return m
}

// P9, P10: each control register is read as Look tells it.
func TestEachControlRegisterRead(t *testing.T) {
	for i, v := range filled().Csrs {
		gives(t, "P9: a read", reads(t, busy(t, 64, 8, 0), numbers[i]), 9, v)
		gives(t, "P9: a read", reads(t, must(t, 8, ""), numbers[i]), 9, 0)
	}
	for i, v := range []uint32{0x122, 0x222, 0xFFFFFFFD, 0xFFFFFFFF, 0xFFFFFFFC, 0x8000000F, 0xFFFFFFFF, 0x222, 0x006019A2, 0x3AF, 0x222, 0xAAA, 0xFFFFFFFD, 0xFFFFFFFF, 0xFFFFFFFC, 0x8000000F, 0xFFFFFFFF, 0xAAA, 0} {
		gives(t, "P9: a read of all bits", reads(t, full(t), numbers[i]), 9, v)
	}
}

// P9: MPP is as it is written, but where that is 2; the other bits are written
// all the same.
func TestMPP(t *testing.T) {
	for _, old := range []uint32{0, 1, 3} {
		for mpp := range uint32(4) {
			for _, rest := range []uint32{0, 0x006001A2} {
				m := must(t, 8, "")
				m.csr.mstatus = old<<11 | 0x20
				now := mpp
				if mpp == 2 {
					now = old
				}
				alters(t, "P9: MPP", m, 0x300, mpp<<11|rest, holding{0x300, now<<11 | rest}, holding{0x100, rest & 0x122})
			}
		}
	}
	m := must(t, 8, image(csr(2, 0, 1, 0x300)))
	m.regs[1] = 0x1020
	want := m.Look()
	put(&want, 0x300, 0x20)
	want.Pc = 4
	steps(t, "P9: bit 12 set alone", m, want)
	m = must(t, 8, image(csr(3, 0, 1, 0x300)))
	m.csr.mstatus = 0x1828
	m.regs[1] = 0x820
	want = m.Look()
	put(&want, 0x300, 0x1808)
	want.Pc = 4
	steps(t, "P9: bit 11 cleared alone", m, want)
}

// P9: mhartid is 0 in every computer.
func TestMhartid(t *testing.T) {
	for _, m := range []*Hart{must(t, 8, ""), full(t), busy(t, 8, 4, 0)} {
		gives(t, "P9: mhartid", reads(t, m, 0xF14), 9, 0)
	}
}

// P9: the bits of mip that devices tell go with the devices and are not
// written, nor does Csrrs, which writes back what it read, keep them.
func TestMipIsNotKept(t *testing.T) {
	m := full(t)
	place(m, 0, csr(2, 9, 1, 0x344))
	m.regs[1] = 0xFFFFFFFF
	gives(t, "P10: Csrrs of mip", m, 9, 0xAAA)
	m.clock.Msip = 0
	m.clock.Mtime = 0
	m.lines.Pend = 0
	m.pc = 0
	gives(t, "P9: mip without its devices", reads(t, m, 0x344), 9, 0x22)
}

// P9: sip, written back with a bit set that it did not show, changes SSI alone.
func TestSipSetAndCleared(t *testing.T) {
	m := full(t)
	place(m, 0, csr(3, 9, 1, 0x144))
	m.regs[1] = 0xFFFFFFFF
	want := m.Look()
	want.Regs[9] = 0x222
	want.Pc = 4
	put(&want, 0x344, 0xAA8)
	steps(t, "P9: Csrrc of sip", m, want)
	m.pc = 0
	place(m, 0, csr(2, 9, 1, 0x144))
	want = m.Look()
	want.Regs[9] = 0x220
	want.Pc = 4
	put(&want, 0x344, 0xAAA)
	steps(t, "P9: Csrrs of sip", m, want)
}

// P2: the control registers of one computer are nothing to another.
func TestControlRegistersAreApart(t *testing.T) {
	m := must(t, 8, "")
	n := must(t, 8, "")
	alters(t, "P9", m, 0x340, 0xFFFFFFFF, holding{0x340, 0xFFFFFFFF})
	same(t, "P2", n.Look(), blank(image(0, 0)))
}
