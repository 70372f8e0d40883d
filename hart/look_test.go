package hart

import (
	"reflect"
	"testing"

	"hart/api"
)

// fill gives every part of the computer a value of its own.
func fill(m *Hart) {
	for i := 1; i < len(m.regs); i++ {
		m.regs[i] = 0x80000000 + uint32(i)
	}
	m.pc = 0x44
	m.level = api.Supervisor
	m.asleep = true
	copy(m.ram, "zyxw")
	m.csr = controls{
		mstatus: 0x00601922, medeleg: 0x305, mideleg: 0x222, mie: 0xAA8,
		written: 0x22,
		machine: side{tvec: 0x101, scratch: 0x102, epc: 0x104, cause: 0x80000003, tval: 0x105},
		super:   side{tvec: 0x201, scratch: 0x202, epc: 0x204, cause: 0x80000005, tval: 0x205},
	}
	m.clock.Msip = 1
	m.clock.Mtimecmp = 0x7001
	m.clock.Mtime = 0x7002
	for s := 1; s < len(m.lines.Prio); s++ {
		m.lines.Prio[s] = uint32(8-s) & 7
	}
	m.lines.Pend = 0x0A
	m.lines.Served = 0x14
	m.lines.Level = 0x86
	m.lines.Enable = [2]uint32{0x0E, 0xF8}
	m.lines.Limit = [2]uint32{6, 3}
}

// filled: what Look tells of a computer of 8 bytes behind fill.
func filled() api.State {
	s := api.State{
		Regs: make([]uint32, 32), Pc: 0x44, Mode: api.Supervisor, Asleep: true,
		Csrs: []uint32{
			0x122, 0x220, 0x201, 0x202, 0x204, 0x80000005, 0x205, 0x222,
			0x00601922, 0x305, 0x222, 0xAA8, 0x101, 0x102, 0x104, 0x80000003, 0x105, 0xAAA, 0,
		},
		Ram:   "zyxw\x00\x00\x00\x00",
		Clock: []uint32{1, 0x7001, 0x7002},
		Prio:  []uint32{0, 7, 6, 5, 4, 3, 2, 1},
		Pend:  0x0A, Served: 0x14, Level: 0x86,
		Enable: []uint32{0x0E, 0xF8},
		Limit:  []uint32{6, 3},
	}
	for i := 1; i < 32; i++ {
		s.Regs[i] = 0x80000000 + uint32(i)
	}
	return s
}

func TestLookTellsEverything(t *testing.T) {
	m := must(t, 8, "")
	fill(m)
	same(t, "P5", m.Look(), filled())
}

func TestLookChangesNothing(t *testing.T) {
	m := must(t, 8, "")
	n := must(t, 8, "")
	fill(m)
	fill(n)
	for range 3 {
		m.Look()
		if !reflect.DeepEqual(m, n) {
			t.Fatalf("P5: Look made %+v of %+v", m, n)
		}
	}
}

// lists: those that Look gives, each with its spare room.
func lists(s api.State) [][]uint32 {
	var all [][]uint32
	for _, l := range [][]uint32{s.Regs, s.Csrs, s.Clock, s.Prio, s.Enable, s.Limit} {
		all = append(all, l[:cap(l)])
	}
	return all
}

// P2: what the caller writes into a list and into its spare room is seen
// there alone.
func TestListsAreTheCallers(t *testing.T) {
	m := must(t, 8, "")
	fill(m)
	for i := range lists(m.Look()) {
		early := m.Look()
		s := m.Look()
		l := lists(s)[i]
		for j := range l {
			l[j] = 0xDEAD
		}
		same(t, "P2", m.Look(), filled())
		same(t, "P2", early, filled())
		want := lists(filled())
		for k, other := range lists(s) {
			if k != i && !reflect.DeepEqual(other[:len(want[k])], want[k]) {
				t.Errorf("P2: a write into list %d made list %d %v", i, k, other)
			}
		}
	}
}

// P2: no two lists share memory, one written by append with them.
func TestListsDoNotGrowIntoOneAnother(t *testing.T) {
	m := must(t, 8, "")
	fill(m)
	s := m.Look()
	for _, l := range []*[]uint32{&s.Regs, &s.Csrs, &s.Clock, &s.Prio, &s.Enable, &s.Limit} {
		*l = append(*l, 1, 2, 3)
		*l = (*l)[:len(*l)-3]
	}
	same(t, "P2", s, filled())
	same(t, "P2", m.Look(), filled())
}

// What Look tells does not go on with the computer.
func TestLookIsOfItsTime(t *testing.T) {
	m := must(t, 8, "abcdefgh")
	s := m.Look()
	fill(m)
	same(t, "P2", s, blank("abcdefgh"))
}

// P5: mip is told as it stands, by what the devices hold.
func TestMipFollowsTheDevices(t *testing.T) {
	const mip, sip = 17, 7
	for _, c := range []struct {
		name string
		bit  uint32
		make func(m *Hart)
	}{
		{"nothing", 0, func(m *Hart) {}},
		{"SSI", 1 << api.SSI, func(m *Hart) { m.csr.written = 1 << api.SSI }},
		{"STI", 1 << api.STI, func(m *Hart) { m.csr.written = 1 << api.STI }},
		{"MSI", 1 << api.MSI, func(m *Hart) { m.clock.Msip = 1 }},
		{"MTI", 1 << api.MTI, func(m *Hart) { m.clock.Mtime = 0xFFFFFFFF }},
		{"MEI", 1 << api.MEI, func(m *Hart) { pend(m, 0) }},
		{"SEI", 1 << api.SEI, func(m *Hart) { pend(m, 1) }},
	} {
		m := must(t, 4, "")
		c.make(m)
		if got := m.Look().Csrs[mip]; got != c.bit {
			t.Errorf("P5: %s: mip is %#x, want %#x", c.name, got, c.bit)
		}
		if got := m.Look().Csrs[sip]; got != 0 {
			t.Errorf("P5: %s: sip is %#x, and nothing is delegated", c.name, got)
		}
	}
}

// pend: source 7 asks for context c.
func pend(m *Hart, c int) {
	m.lines.Pend = 0x80
	m.lines.Prio[7] = 1
	m.lines.Enable[c] = 0x80
}
