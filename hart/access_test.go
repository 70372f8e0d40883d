package hart

import (
	"testing"

	"hart/api"
)

// accesses: the six instructions, with what they write to a control register
// that holds held.
var accesses = []struct {
	name string
	f3   uint32
	want func(held, v uint32) uint32
}{
	{"Csrrw", 1, func(held, v uint32) uint32 { return v }},
	{"Csrrs", 2, func(held, v uint32) uint32 { return held | v }},
	{"Csrrc", 3, func(held, v uint32) uint32 { return held - held&v }},
	{"Csrrwi", 5, func(held, v uint32) uint32 { return v }},
	{"Csrrsi", 6, func(held, v uint32) uint32 { return held | v }},
	{"Csrrci", 7, func(held, v uint32) uint32 { return held - held&v }},
}

// exchanges does one step of which rd becomes held, mscratch now, and nothing
// else but pc.
func exchanges(t *testing.T, what string, m *Hart, rd, held, now uint32) {
	t.Helper()
	m.csr.machine.scratch = held
	want := m.Look()
	want.Pc += 4
	want.Csrs[slot(0x340)] = now
	if rd != 0 {
		want.Regs[rd] = held
	}
	steps(t, what, m, want)
}

// P10: each instruction at each pair of edges; Rd is another register than Rs1,
// the same, and x0.
func TestAccessByRegister(t *testing.T) {
	for _, c := range accesses[:3] {
		for _, held := range edges {
			for _, v := range edges {
				for _, r := range [][2]uint32{{2, 1}, {1, 1}, {0, 1}, {31, 30}, {30, 31}, {31, 31}, {0, 31}} {
					m := busy(t, 64, 8, csr(c.f3, r[0], r[1], 0x340))
					m.regs[r[1]] = v
					exchanges(t, "P10: "+c.name, m, r[0], held, c.want(held, v))
				}
			}
		}
	}
}

// P10: the number Rs1 itself counts, not what that register holds.
func TestAccessByNumber(t *testing.T) {
	for _, c := range accesses[3:] {
		for _, held := range edges {
			for v := range uint32(32) {
				for _, rd := range []uint32{0, 2, v, 31} {
					m := busy(t, 64, 8, csr(c.f3, rd, v, 0x340))
					exchanges(t, "P10: "+c.name, m, rd, held, c.want(held, v))
				}
			}
		}
	}
}

// P10: where Rs1 is the number 0, Csrrw and Csrrwi write noughts; the others do
// not write, and so may read what can't be written.
func TestAccessWithNumberNought(t *testing.T) {
	for _, c := range accesses {
		for _, rd := range []uint32{0, 5} {
			m := busy(t, 64, 8, csr(c.f3, rd, 0, 0x340))
			now := uint32(0)
			if c.f3%4 != 1 {
				now = 0xABCDEF01
			}
			exchanges(t, "P10: "+c.name, m, rd, 0xABCDEF01, now)
			m = busy(t, 64, 8, csr(c.f3, rd, 0, 0xF14))
			if c.f3%4 != 1 {
				gives(t, "P10: "+c.name+" of mhartid", m, rd, 0)
			} else {
				traps(t, "P10: "+c.name+" of mhartid", m, api.Illegal, csr(c.f3, rd, 0, 0xF14))
			}
		}
	}
}

// P10: a register Rs1 that holds 0 is not the number 0: it would be written.
func TestWriteOfMhartid(t *testing.T) {
	for _, c := range accesses {
		for _, rs1 := range []uint32{1, 16, 31} {
			for _, v := range []uint32{0, 1} {
				w := csr(c.f3, 5, rs1, 0xF14)
				m := busy(t, 64, 8, w)
				m.regs[rs1] = v
				traps(t, "P10: "+c.name+" of mhartid", m, api.Illegal, w)
			}
		}
	}
}

// P10: each number at each level, read, written and both: there are no others
// than P9's, and each is for the level that its bits 9..8 name and those above.
func TestEveryNumber(t *testing.T) {
	for _, level := range levels {
		for _, c := range accesses {
			for _, rs1 := range []uint32{0, 3} {
				m := busyAt(t, level, 0)
				start := *m
				for n := range uint32(0x1000) {
					*m = start
					place(m, 8, csr(c.f3, 4, rs1, n))
					want := m.Look()
					accessed(&want, c.f3, 4, rs1, n)
					steps(t, "P10: "+c.name, m, want)
				}
			}
		}
	}
}

// P10: the same once more, in numbers: who may do what, and where an exception
// leads then.
func TestLevelsOfControlRegisters(t *testing.T) {
	for i, n := range numbers {
		for _, level := range levels {
			may := level == api.Machine || level == api.Supervisor && i < 8
			m := busyAt(t, level, csr(2, 9, 0, n))
			m.csr.medeleg = 0
			v := m.Look().Csrs[i]
			if may {
				gives(t, "P10: a read", m, 9, v)
				continue
			}
			m.Step()
			s := m.Look()
			if s.Pc != 0x100 || s.Mode != 3 || s.Csrs[15] != 2 || s.Csrs[16] != csr(2, 9, 0, n) || s.Csrs[14] != 8 || s.Regs[9] != 0x80000009 {
				t.Errorf("P10: %#x at level %d: Look = %+v", n, level, s)
			}
		}
	}
}

// P10: a write that is not allowed changes nothing of what it names.
func TestForbiddenWrites(t *testing.T) {
	for _, n := range numbers {
		for _, level := range []int{api.User, api.Supervisor} {
			if uint32(level) >= n>>8&3 {
				continue
			}
			for _, c := range accesses {
				w := csr(c.f3, 5, 7, n)
				traps(t, "P10: "+c.name, busyAt(t, level, w), api.Illegal, w)
			}
		}
	}
}

// The numbers about those that there are: none of them is another's double.
func TestNumbersThatAreNone(t *testing.T) {
	for _, n := range []uint32{0, 1, 0x001, 0x041, 0x0FF, 0x101, 0x102, 0x103, 0x106, 0x13F, 0x145, 0x180, 0x200, 0x240, 0x244, 0x301, 0x306, 0x33F, 0x345, 0x3A0, 0x500, 0x700, 0x740, 0xB00, 0xB40, 0xC00, 0xD00, 0xF00, 0xF11, 0xF12, 0xF13, 0xF15, 0xF40, 0xFFF} {
		for _, c := range accesses {
			for _, rs1 := range []uint32{0, 7} {
				w := csr(c.f3, 5, rs1, n)
				traps(t, "P10: "+c.name, busyAt(t, api.Machine, w), api.Illegal, w)
			}
		}
	}
}

// P10 by a program alone: what one instruction has written, the next reads.
func TestAccessesInARow(t *testing.T) {
	m := must(t, 64, image(
		addi(1, 0, 0x0F0), csr(1, 2, 1, 0x140),
		addi(3, 0, 0x033), csr(2, 4, 3, 0x140),
		csr(7, 5, 0x10, 0x140), csr(6, 6, 0x08, 0x140),
		csr(3, 7, 1, 0x140), csr(5, 8, 0x1F, 0x140), csr(2, 9, 0, 0x140),
	))
	want := m.Look()
	for range 9 {
		m.Step()
	}
	copy(want.Regs, []uint32{0, 0x0F0, 0, 0x033, 0x0F0, 0x0F3, 0x0E3, 0x0EB, 0x00B, 0x01F})
	want.Csrs[3] = 0x1F
	want.Pc = 36
	same(t, "P10: in a row", m.Look(), want)
}
