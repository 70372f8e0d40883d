package hart

import (
	"fmt"
	"testing"

	"hart/api"
)

// about: the words of devices, what stands about them, and some of the memory
// and of nowhere.
func about() []uint32 {
	all := []uint32{0, 1, 60, 61, 64, 0xFF8, 0x100C, 0x1010, 0x1FFC, 0x202C, 0x2040, 0x2044, 0x80001000, 0x80002034, 0xFFFFFFFC, 0xFFFFFFFF}
	for _, a := range deviceWords {
		all = append(all, a-1, a, a+1, a+2, a+3)
	}
	return all
}

// P8, P13: each load reaches what Read reaches, at each level.
func TestLoadsReachDevices(t *testing.T) {
	for _, level := range levels {
		for _, c := range loads {
			for _, a := range about() {
				m := wired(t)
				m.level = level
				m.csr.machine.tvec = 0x20
				m.regs[1] = a
				place(m, 0, wordI(0x03, c.f3, 2, 1, 0))
				loading(t, fmt.Sprintf("P8: %s of %#x", c.name, a), m, 2, a, c.width, c.signed)
			}
		}
	}
}

// P8, P13: each store reaches what Write reaches, at each level.
func TestStoresReachDevices(t *testing.T) {
	for _, level := range levels {
		for _, c := range stores {
			for _, a := range about() {
				for _, v := range []uint32{0, 2, 3, 7, 0x12345678, 0xFFFFFFFF} {
					m := wired(t)
					m.level = level
					m.csr.machine.tvec = 0x20
					m.regs[1] = a
					m.regs[2] = v
					place(m, 0, wordS(c.f3, 1, 2, 0))
					storing(t, fmt.Sprintf("P8: %s of %#x to %#x", c.name, v, a), m, a, c.width, v)
				}
			}
		}
	}
}

// P8: the same in numbers, each word of the devices read by Lw.
func TestLoadsOfDevicesInNumbers(t *testing.T) {
	for a, v := range map[uint32]uint32{
		0x1000: 1, 0x1004: 0x7001, 0x1008: 0x7000,
		0x2000: 0, 0x2004: 3, 0x2008: 6, 0x200C: 5, 0x2010: 2, 0x2014: 4, 0x2018: 3, 0x201C: 7,
		0x2020: 0x52, 0x2024: 0x9E, 0x2028: 0x72, 0x2030: 2, 0x2038: 3,
	} {
		m := wired(t)
		m.regs[1] = a - 0x7FF
		place(m, 0, wordI(0x03, 2, 1, 1, 0x7FF))
		gives(t, "P8: Lw", m, 1, v)
		m = wired(t)
		m.regs[1] = a + 0x800
		place(m, 0, wordI(0x03, 2, 0, 1, 0x800))
		gives(t, "P8: Lw to x0", m, 0, 0)
	}
}

// P8, P15: a load of Claim is a claim, though it be into x0.
func TestClaimsByLoads(t *testing.T) {
	for _, c := range []struct {
		a, rd        uint32
		s            uint32
		pend, served uint32
		mip          uint32
	}{
		{0x2034, 2, 1, 0x50, 0x8E, 0x008}, {0x2034, 0, 1, 0x50, 0x8E, 0x008}, {0x2034, 1, 1, 0x50, 0x8E, 0x008},
		{0x203C, 2, 1, 0x50, 0x8E, 0x008}, {0x203C, 0, 1, 0x50, 0x8E, 0x008}, {0x203C, 31, 1, 0x50, 0x8E, 0x008},
	} {
		m := wired(t)
		m.regs[1] = c.a
		place(m, 0, wordI(0x03, 2, c.rd, 1, 0))
		want := m.Look()
		want.Pc = 4
		if c.rd != 0 {
			want.Regs[c.rd] = c.s
		}
		want.Pend = c.pend
		want.Served = c.served
		want.Csrs[17] = c.mip
		steps(t, "P15: a claim by a load", m, want)
	}
}

// P8, P15: a load or a store that can't be done claims and completes nothing.
func TestNoClaimsByParts(t *testing.T) {
	for _, a := range []uint32{0x2034, 0x203C} {
		for _, c := range loads {
			if c.width == 4 {
				continue
			}
			m := wired(t)
			place(m, 0, wordI(0x03, c.f3, 2, 1, 0))
			m.regs[1] = a
			traps(t, "P8: "+c.name+" of Claim", m, api.LoadFault, a)
		}
		for _, c := range stores[:2] {
			m := wired(t)
			place(m, 0, wordS(c.f3, 1, 2, 0))
			m.regs[1] = a
			m.regs[2] = 2
			traps(t, "P8: "+c.name+" to Claim", m, api.StoreFault, a)
		}
	}
}

// P11: where there is nothing, the exception goes as medeleg says.
func TestFaultsBesideDevices(t *testing.T) {
	for _, a := range []uint32{0xFFC, 0x1001, 0x100C, 0x1FFC, 0x2002, 0x202C, 0x2040} {
		for _, level := range levels {
			for _, deleg := range []uint32{0, 0x3AF, 1 << api.LoadFault, 1 << api.StoreFault} {
				m := busyAt(t, level, wordI(0x03, 2, 5, 1, 0))
				m.csr.medeleg = deleg
				m.regs[1] = a
				traps(t, "P8: Lw beside", m, api.LoadFault, a)
				m = busyAt(t, level, wordS(2, 1, 5, 0))
				m.csr.medeleg = deleg
				m.regs[1] = a
				traps(t, "P8: Sw beside", m, api.StoreFault, a)
			}
		}
	}
}

// P6: no instruction is fetched from a device, whatever it holds.
func TestNoFetchFromDevices(t *testing.T) {
	for _, a := range deviceWords {
		m := wired(t)
		send(t, m, 0x1004, addi(1, 1, 1))
		send(t, m, 0x1008, addi(1, 1, 1))
		m.pc = a
		traps(t, "P6: a fetch from a device", m, api.FetchFault, a)
	}
}

// P8: a store is seen by the very next instruction: in mip, and in a claim.
func TestDevicesByAProgram(t *testing.T) {
	m := must(t, 128, image(
		wordI(0x37, 0, 1, 0, 0)|0x2000, // Lui x1, 0x2000
		wordI(0x37, 0, 2, 0, 0)|0x1000, // Lui x2, 0x1000
		addi(3, 0, 1),
		wordS(2, 2, 3, 0), // msip
		csr(2, 4, 0, 0x344),
		wordS(2, 2, 0, 4), // mtimecmp 0
		csr(2, 5, 0, 0x344),
		wordS(2, 1, 3, 0x1C), // priority of 7
		addi(6, 0, 0x80),
		wordS(2, 1, 6, 0x24), // enabled for 0
		csr(2, 7, 0, 0x344),
		wordS(2, 1, 6, 0x28), // and for 1
		csr(2, 8, 0, 0x344),
		wordI(0x03, 2, 9, 1, 0x3C), // claimed for 1
		csr(2, 10, 0, 0x344),
		wordI(0x03, 2, 11, 1, 0x34), // none is left for 0
		wordS(2, 1, 9, 0x34),        // completed for 0, and pending again
		wordI(0x03, 2, 12, 1, 0x20),
		csr(2, 13, 0, 0x344),
		wordS(2, 2, 0, 0), // msip
		csr(2, 14, 0, 0x344),
	))
	m.Line(7, true)
	for range 21 {
		m.Step()
	}
	want := blank(m.Look().Ram)
	want.Pc = 84
	copy(want.Regs, []uint32{0, 0x2000, 0x1000, 1, 0x008, 0x088, 0x80, 0x888, 0xA88, 7, 0x088, 0, 0x80, 0xA88, 0xA80})
	want.Clock = []uint32{0, 0, 0}
	want.Prio[7] = 1
	want.Pend = 0x80
	want.Level = 0x80
	want.Enable = []uint32{0x80, 0x80}
	want.Csrs[17] = 0xA80
	same(t, "P8: a program with devices", m.Look(), want)
}

// P8, P13: loads and stores one behind the other, as they come, between calls
// from outside, each held against what the document says. No interrupt is let
// in.
func TestScatteredReaches(t *testing.T) {
	seed := uint32(23)
	draw := func(n int) int {
		seed = seed*1664525 + 1013904223
		return int(seed>>8) % n
	}
	spots := about()
	for range 100 {
		m := wired(t)
		m.csr.machine.tvec = 0x10
		for range 200 {
			a := spots[draw(len(spots))]
			if draw(3) > 0 {
				a = deviceWords[draw(len(deviceWords))]
			}
			m.level = levels[draw(3)]
			m.pc = uint32(draw(16)) * 4
			m.regs[1] = a
			switch draw(4) {
			case 0:
				c := loads[draw(len(loads))]
				rd := uint32(draw(32))
				place(m, m.pc, wordI(0x03, c.f3, rd, 1, 0))
				loading(t, "P8: scattered", m, rd, a, c.width, c.signed)
			case 1:
				rd := uint32(draw(32))
				place(m, m.pc, wordI(0x03, 2, rd, 1, 0))
				loading(t, "P8: scattered", m, rd, a, 4, false)
			case 2:
				c := stores[draw(len(stores))]
				m.regs[2] = uint32(draw(256)) >> draw(8)
				place(m, m.pc, wordS(c.f3, 1, 2, 0))
				storing(t, "P8: scattered", m, a, c.width, m.regs[2])
			default:
				turning(t, "P14: scattered", m, 1+draw(7), draw(2) == 0)
				ticking(t, "P14: scattered", m)
			}
			if t.Failed() {
				return
			}
		}
	}
}
