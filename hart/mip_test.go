package hart

import (
	"fmt"
	"testing"

	"hart/api"
)

// told: the bits of mip that devices tell, and the calls from outside that set
// and clear them.
var told = []struct {
	name       string
	bit        uint32
	set, clear func(m *Hart)
}{
	{"MSI", 1 << api.MSI, func(m *Hart) { m.Write(0x1000, 4, 1) }, func(m *Hart) { m.Write(0x1000, 4, 0xFFFFFFFE) }},
	{"MTI by mtimecmp", 1 << api.MTI, func(m *Hart) { m.Write(0x1008, 4, 9); m.Write(0x1004, 4, 9) }, func(m *Hart) { m.Write(0x1004, 4, 10) }},
	{"MTI by mtime", 1 << api.MTI, func(m *Hart) { m.Write(0x1004, 4, 9); m.Write(0x1008, 4, 10) }, func(m *Hart) { m.Write(0x1008, 4, 8) }},
	{"MTI by a tick", 1 << api.MTI, func(m *Hart) { m.Write(0x1008, 4, 0xFFFFFFFE); m.Tick() }, func(m *Hart) { m.Tick() }},
	{"MEI by a line", 1 << api.MEI, func(m *Hart) { ask(m, 0) }, func(m *Hart) { m.Read(0x2034, 4) }},
	{"SEI by a line", 1 << api.SEI, func(m *Hart) { ask(m, 1) }, func(m *Hart) { m.Read(0x203C, 4) }},
	{"MEI by Limit", 1 << api.MEI, func(m *Hart) { ask(m, 0) }, func(m *Hart) { m.Write(0x2030, 4, 5) }},
	{"SEI by Limit", 1 << api.SEI, func(m *Hart) { ask(m, 1) }, func(m *Hart) { m.Write(0x2038, 4, 5) }},
	{"MEI by Enable", 1 << api.MEI, func(m *Hart) { ask(m, 0) }, func(m *Hart) { m.Write(0x2024, 4, 0xF7) }},
	{"SEI by Enable", 1 << api.SEI, func(m *Hart) { ask(m, 1) }, func(m *Hart) { m.Write(0x2028, 4, 0xF7) }},
	{"MEI by Priority", 1 << api.MEI, func(m *Hart) { ask(m, 0) }, func(m *Hart) { m.Write(0x200C, 4, 4) }},
	{"SEI by Priority", 1 << api.SEI, func(m *Hart) { ask(m, 1) }, func(m *Hart) { m.Write(0x200C, 4, 4) }},
	{"MEI by a completion", 1 << api.MEI, func(m *Hart) { ask(m, 0); m.Read(0x2034, 4); m.Write(0x2034, 4, 3) }, func(m *Hart) { m.Read(0x2034, 4) }},
}

// ask lets source 3 ask for context c alone, though it be in service.
func ask(m *Hart, c uint32) {
	m.Write(0x200C, 4, 5)
	m.Write(0x2030+8*c, 4, 4)
	m.Write(0x2024+4*c, 4, 8)
	m.Write(0x2034+8*c, 4, 3)
	m.Line(3, true)
}

// P9: each bit of mip that a device tells, as Look tells it and as Csrrs reads
// it, through mip, and through sip with each mideleg; the bits that are written
// stay beside it.
func TestEachToldBit(t *testing.T) {
	for _, c := range told {
		for _, deleg := range []uint32{0, 0x002, 0x020, 0x200, 0x222} {
			for _, soft := range []uint32{0, 0x002, 0x020, 0x022} {
				m := must(t, 8, "")
				m.csr.mideleg = deleg
				m.csr.written = soft
				what := fmt.Sprintf("P9: %s, mideleg %#x, written %#x", c.name, deleg, soft)
				shows(t, what+", at first", m, soft, deleg)
				c.set(m)
				shows(t, what+", set", m, soft|c.bit, deleg)
				c.clear(m)
				shows(t, what+", cleared", m, soft, deleg)
				c.set(m)
				shows(t, what+", set once more", m, soft|c.bit, deleg)
			}
		}
	}
}

// shows looks whether mip is this, and sip what mideleg lets it show.
func shows(t *testing.T, what string, m *Hart, mip, deleg uint32) {
	t.Helper()
	s := m.Look()
	if s.Csrs[17] != mip || s.Csrs[7] != mip&deleg {
		t.Errorf("%s: mip is %#x, sip %#x, want %#x, %#x", what, s.Csrs[17], s.Csrs[7], mip, mip&deleg)
	}
	for n, v := range map[uint32]uint32{0x344: mip, 0x144: mip & deleg} {
		m.pc = 0
		gives(t, what, reads(t, m, n), 9, v)
	}
	m.pc = 0
}

// P9: a write to mip and to sip, by each instruction, whatever the devices
// tell: what they tell stays, and it is not kept beyond them.
func TestWritesOfToldBits(t *testing.T) {
	for _, c := range told {
		for _, n := range []uint32{0x344, 0x144} {
			for _, access := range accesses {
				for _, v := range []uint32{0, 0xFFFFFFFF, c.bit, ^c.bit, 0x022} {
					m := must(t, 8, "")
					m.csr.mideleg = 0x222
					c.set(m)
					place(m, 0, csr(access.f3, 9, 1, n))
					m.regs[1] = v
					want := m.Look()
					accessed(&want, access.f3, 9, 1, n)
					steps(t, "P9: "+access.name+" beside "+c.name, m, want)
					soft := want.Csrs[17] & 0x022
					if got := m.Look().Csrs[17]; got != soft|c.bit {
						t.Errorf("P9: %s beside %s: mip is %#x, want %#x", access.name, c.name, got, soft|c.bit)
					}
					c.clear(m)
					if got := m.Look().Csrs[17]; got != soft {
						t.Errorf("P9: %s, %s cleared: mip is %#x, want %#x", access.name, c.name, got, soft)
					}
				}
			}
		}
	}
}

// P9: a write to mip does not reach the devices.
func TestMipDoesNotReachTheDevices(t *testing.T) {
	for _, v := range []uint32{0, 0xFFFFFFFF} {
		m := wired(t)
		place(m, 0, csr(1, 0, 1, 0x344))
		m.regs[1] = v
		want := m.Look()
		want.Pc = 4
		put(&want, 0x344, 0x808|v&0x022)
		steps(t, "P9: a write to mip", m, want)
	}
}

// P9: MTI is as mtime and mtimecmp stand now, in numbers.
func TestClockInMip(t *testing.T) {
	for _, c := range []struct {
		mtime, mtimecmp uint32
		want            uint32
	}{
		{0, 0, 0x80}, {0, 1, 0}, {1, 0, 0x80}, {1, 1, 0x80}, {0, 0xFFFFFFFF, 0}, {0xFFFFFFFE, 0xFFFFFFFF, 0}, {0xFFFFFFFF, 0xFFFFFFFF, 0x80},
		{0xFFFFFFFF, 0, 0x80}, {0x7FFFFFFF, 0x80000000, 0}, {0x80000000, 0x7FFFFFFF, 0x80}, {0x80000000, 0x80000000, 0x80},
	} {
		m := must(t, 4, "")
		send(t, m, 0x1008, c.mtime)
		send(t, m, 0x1004, c.mtimecmp)
		if got := m.Look().Csrs[17]; got != c.want {
			t.Errorf("P9: mtime %#x, mtimecmp %#x: mip is %#x, want %#x", c.mtime, c.mtimecmp, got, c.want)
		}
	}
}

// P9: MTI goes with mtime, when that begins anew.
func TestClockBeginsAnew(t *testing.T) {
	m := must(t, 4, "")
	send(t, m, 0x1004, 0xFFFFFFFF)
	send(t, m, 0x1008, 0xFFFFFFFD)
	for i, want := range []uint32{0, 0, 0x80, 0, 0} {
		if got := m.Look().Csrs[17]; got != want {
			t.Errorf("P9: behind %d ticks mip is %#x, want %#x", i, got, want)
		}
		m.Tick()
	}
}

// P6: each bit that a device tells wakes a processor that sleeps, if it is set
// in mie, and none wakes it that is gone ahead of the step. At level Machine
// with MIE 0 no interrupt is taken.
func TestDevicesWake(t *testing.T) {
	for _, c := range told {
		for _, mie := range []uint32{0, c.bit, 0xAAA, 0xAAA - c.bit} {
			m := asleep(t, 0, mie)
			want := m.Look()
			steps(t, "P6: asleep", m, want)
			c.set(m)
			c.clear(m)
			if mie == 0xAAA {
				steps(t, "P6: asleep behind "+c.name, m, m.Look())
			}
			c.set(m)
			want = m.Look()
			if !want.Asleep {
				t.Errorf("P6: %s wakes ahead of the step", c.name)
			}
			if mie&c.bit != 0 {
				want.Asleep = false
				want.Regs[1] = 1
				want.Pc = 8
			}
			steps(t, "P6: "+c.name+" wakes", m, want)
		}
	}
}
