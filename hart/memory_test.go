package hart

import (
	"testing"

	"hart/api"
)

var loads = []struct {
	name   string
	f3     uint32
	width  int
	signed bool
}{{"Lb", 0, 1, true}, {"Lh", 1, 2, true}, {"Lw", 2, 4, false}, {"Lbu", 4, 1, false}, {"Lhu", 5, 2, false}}

// read: what width bytes of ram at a are, as a number with or without a sign.
func read(ram string, a, width int, signed bool) uint32 {
	n, unit := int64(0), int64(1)
	for i := range width {
		n += int64(ram[a+i]) * unit
		unit *= 256
	}
	if signed && n >= unit/2 {
		n -= unit
	}
	return uint32(n)
}

// Each load at every address where all of its bytes are memory, whatever
// multiple that is; the bytes of the memory are of all kinds.
func TestLoadsEverywhere(t *testing.T) {
	for _, c := range loads {
		for _, size := range []int{4, 64, 256} {
			for a := 0; a+c.width <= size; a++ {
				m := busy(t, size, 0, wordI(0x03, c.f3, 2, 1, 0))
				m.regs[1] = uint32(a)
				gives(t, "P8: "+c.name, m, 2, read(m.Look().Ram, a, c.width, c.signed))
			}
		}
	}
}

// The highest bit that is read, alone set and alone clear.
func TestSignsOfLoads(t *testing.T) {
	for _, c := range []struct{ f3, low, want uint32 }{
		{0, 0x80, 0xFFFFFF80}, {0, 0x7F, 0x7F}, {0, 0xFF, 0xFFFFFFFF}, {0, 0xFF00, 0}, {0, 0xFFFFFF7F, 0x7F},
		{1, 0x8000, 0xFFFF8000}, {1, 0x7FFF, 0x7FFF}, {1, 0xFFFF, 0xFFFFFFFF}, {1, 0x80, 0x80}, {1, 0xFFFF0000, 0}, {1, 0xFFFF7FFF, 0x7FFF},
		{2, 0x80000000, 0x80000000}, {2, 0x7FFFFFFF, 0x7FFFFFFF}, {2, 0x8080, 0x8080},
		{4, 0x80, 0x80}, {4, 0xFF, 0xFF}, {4, 0xFFFFFF7F, 0x7F}, {4, 0xFF00, 0},
		{5, 0x8000, 0x8000}, {5, 0xFFFF, 0xFFFF}, {5, 0xFFFF7FFF, 0x7FFF}, {5, 0xFFFF0000, 0},
	} {
		m := busy(t, 64, 8, wordI(0x03, c.f3, 2, 0, 33))
		place(m, 33, c.low)
		gives(t, "P8: a sign", m, 2, c.want)
	}
}

// reaches: what Rs1 holds and an immediate that make address 41 together, some
// of them by a sum that wraps.
var reaches = []struct{ rs1, imm uint32 }{
	{41, 0}, {0, 41}, {40, 1}, {42, 0xFFFFFFFF}, {41 + 2048, 0xFFFFF800}, {0xFFFFFFFF, 42}, {0xFFFFFFD6, 83}, {41 - 0x7FF + 1<<32, 0x7FF},
}

func TestAddressesOfLoads(t *testing.T) {
	for _, c := range loads {
		for _, r := range reaches {
			m := busy(t, 64, 8, wordI(0x03, c.f3, 2, 1, r.imm))
			m.regs[1] = r.rs1
			gives(t, "P8: "+c.name, m, 2, read(m.Look().Ram, 41, c.width, c.signed))
		}
	}
}

// Rd may be Rs1, and x0, and Rs1 may be x0.
func TestRegistersOfLoads(t *testing.T) {
	for _, c := range loads {
		m := busy(t, 64, 8, wordI(0x03, c.f3, 1, 1, 0))
		m.regs[1] = 41
		gives(t, "P8: "+c.name, m, 1, read(m.Look().Ram, 41, c.width, c.signed))
		gives(t, "P8: "+c.name, busy(t, 64, 8, wordI(0x03, c.f3, 0, 0, 41)), 0, 0)
		m = busy(t, 64, 8, wordI(0x03, c.f3, 31, 0, 41))
		gives(t, "P8: "+c.name, m, 31, read(m.Look().Ram, 41, c.width, c.signed))
	}
}

// beside: addresses where there are not width bytes of memory of this size, nor
// a device.
func beside(size, width int) []uint32 {
	all := []uint32{uint32(size), uint32(size) + 1, uint32(size) + 4, 0x7FFFFFFF, 0x80000000, 0x80000004, 0xFFFFFF00, 0xFFFFFFFC, 0xFFFFFFFD, 0xFFFFFFFE, 0xFFFFFFFF}
	for w := 1; w < width; w++ {
		all = append(all, uint32(size-w))
	}
	return all
}

// P8: where not all of the bytes are memory, nothing is changed.
func TestLoadsBesideTheMemory(t *testing.T) {
	for _, c := range loads {
		for _, size := range []int{4, 64, 512} {
			for _, a := range beside(size, c.width) {
				m := busy(t, size, 0, wordI(0x03, c.f3, 2, 1, 0))
				m.regs[1] = a
				traps(t, "P8: "+c.name, m, api.LoadFault, a)
			}
		}
	}
}

var stores = []struct {
	name  string
	f3    uint32
	width int
}{{"Sb", 0, 1}, {"Sh", 1, 2}, {"Sw", 2, 4}}

// lays does one step of which the low width bytes of v come to stand at a.
func lays(t *testing.T, what string, m *Hart, a, width int, v uint32) {
	t.Helper()
	want := m.Look()
	want.Pc += 4
	want.Ram = want.Ram[:a] + image(v)[:width] + want.Ram[a+width:]
	steps(t, what, m, want)
}

func TestStoresEverywhere(t *testing.T) {
	for _, c := range stores {
		for _, size := range []int{4, 64, 256} {
			for a := 0; a+c.width <= size; a++ {
				for _, v := range []uint32{0, 0xC4D3E2F1, 0xFFFFFFFF} {
					m := busy(t, size, 0, wordS(c.f3, 1, 2, 0))
					m.regs[1] = uint32(a)
					m.regs[2] = v
					lays(t, "P8: "+c.name, m, a, c.width, v)
				}
			}
		}
	}
}

func TestAddressesOfStores(t *testing.T) {
	for _, c := range stores {
		for _, r := range reaches {
			m := busy(t, 64, 8, wordS(c.f3, 1, 2, r.imm))
			m.regs[1] = r.rs1
			m.regs[2] = 0x87654321
			lays(t, "P8: "+c.name, m, 41, c.width, 0x87654321)
		}
	}
}

// Rs2 may be Rs1; x0 stores noughts.
func TestRegistersOfStores(t *testing.T) {
	for _, c := range stores {
		m := busy(t, 64, 8, wordS(c.f3, 1, 1, 10))
		m.regs[1] = 31
		lays(t, "P8: "+c.name, m, 41, c.width, 31)
		lays(t, "P8: "+c.name, busy(t, 64, 8, wordS(c.f3, 0, 0, 41)), 41, c.width, 0)
		m = busy(t, 64, 8, wordS(c.f3, 0, 31, 41))
		lays(t, "P8: "+c.name, m, 41, c.width, m.regs[31])
	}
}

func TestStoresBesideTheMemory(t *testing.T) {
	for _, c := range stores {
		for _, size := range []int{4, 64, 512} {
			for _, a := range beside(size, c.width) {
				m := busy(t, size, 0, wordS(c.f3, 1, 2, 0))
				m.regs[1] = a
				traps(t, "P8: "+c.name, m, api.StoreFault, a)
			}
		}
	}
}

// A store leaves the image that the computer was made of as it was.
func TestStoresKeepTheImage(t *testing.T) {
	ram := image(addi(1, 0, 0x7F), wordS(0, 0, 1, 8), 0)
	m := must(t, 12, ram)
	n := must(t, 12, ram)
	m.Step()
	m.Step()
	same(t, "P2", n.Look(), blank(image(addi(1, 0, 0x7F), wordS(0, 0, 1, 8), 0)))
	if got := m.Look().Ram[8:]; got != "\x7F\x00\x00\x00" {
		t.Errorf("P8: Sb laid %q", got)
	}
}

// There are no other widths than 1, 2 and 4.
func TestWidths(t *testing.T) {
	for _, w := range append([]int{-4, -2, -1, 0, 3, 5, 6, 7, 8, 16}, extremes...) {
		m := busy(t, 64, 8, 0)
		want := m.Look()
		v, there := m.loadRam(16, w)
		stored := m.storeRam(16, w, 0)
		real := w == 1 || w == 2 || w == 4
		if there != real || stored != real || !real && v != 0 {
			t.Errorf("P13: width %d: loadRam = %#x, %v; storeRam = %v", w, v, there, stored)
		}
		if !real {
			same(t, "P13: a width that is none", m.Look(), want)
		}
	}
}

// No instruction names a register beyond the 32; if one did, it would not be there.
func TestNoOtherRegisters(t *testing.T) {
	for _, r := range append([]int{-1, api.Regs}, extremes...) {
		m := busy(t, 64, 8, 0)
		want := m.Look()
		if r > 0 && r < api.Regs {
			continue
		}
		m.setRegister(r, 0xDEAD)
		if v := m.register(r); v != 0 {
			t.Errorf("register %d holds %#x", r, v)
		}
		same(t, "x0 and beyond", m.Look(), want)
	}
}
