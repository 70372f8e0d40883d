package hart

import (
	"testing"

	"hart/api"
)

// What the document says of the devices, told once more in terms of State, to
// be held against what the computer does.

// asked: does the controller ask for context c (P14)?
func asked(s *api.State, c int) bool {
	for i := 1; i <= 7; i++ {
		if has(s.Pend, i) && has(s.Enable[c], i) && s.Prio[i] > s.Limit[c] {
			return true
		}
	}
	return false
}

// settle lets mip and sip of want tell what the devices of want hold (P9).
func settle(want *api.State) {
	mip := want.Csrs[slot(0x344)]
	mip = with(mip, 3, has(want.Clock[0], 0))
	mip = with(mip, 7, want.Clock[2] >= want.Clock[1])
	mip = with(mip, 9, asked(want, 1))
	mip = with(mip, 11, asked(want, 0))
	put(want, 0x344, mip)
}

// wordAt: where State tells the word of a device at address a, but those of
// Claim, and which bits a write changes there; nil, if there is none.
func wordAt(s *api.State, a uint32) (*uint32, uint32) {
	switch a {
	case 0x1000:
		return &s.Clock[0], 1
	case 0x1004:
		return &s.Clock[1], 0xFFFFFFFF
	case 0x1008:
		return &s.Clock[2], 0xFFFFFFFF
	case 0x2000:
		return &s.Prio[0], 0
	case 0x2004, 0x2008, 0x200C, 0x2010, 0x2014, 0x2018, 0x201C:
		return &s.Prio[a%0x20/4], 7
	case 0x2020:
		return &s.Pend, 0
	case 0x2024:
		return &s.Enable[0], 0xFE
	case 0x2028:
		return &s.Enable[1], 0xFE
	case 0x2030:
		return &s.Limit[0], 7
	case 0x2038:
		return &s.Limit[1], 7
	}
	return nil, 0
}

// claimAt: for which context Claim stands at address a; -1, if it does not.
func claimAt(a uint32) int {
	switch a {
	case 0x2034:
		return 0
	case 0x203C:
		return 1
	}
	return -1
}

// memoryAt: are there width bytes of memory at a?
func memoryAt(s *api.State, a uint32, width int) bool {
	return (width == 1 || width == 2 || width == 4) && int64(a)+int64(width) <= int64(len(s.Ram))
}

// claimed makes of want what P15 says of a read of Claim of c, and gives that.
func claimed(want *api.State, c int) uint32 {
	for prio := uint32(7); prio > 0; prio-- {
		for s := 1; s <= 7; s++ {
			if want.Prio[s] == prio && has(want.Pend, s) && has(want.Enable[c], s) {
				want.Pend = with(want.Pend, s, false)
				want.Served = with(want.Served, s, true)
				return uint32(s)
			}
		}
	}
	return 0
}

// completed makes of want what P15 says of a write of v to Claim of c.
func completed(want *api.State, c int, v uint32) {
	for s := 1; s <= 7; s++ {
		if v == uint32(s) && has(want.Served, s) && has(want.Enable[c], s) {
			want.Served = with(want.Served, s, false)
			if has(want.Level, s) {
				want.Pend = with(want.Pend, s, true)
			}
		}
	}
}

// wasRead makes of want what P13 says of a read, and gives what is read.
func wasRead(want *api.State, a uint32, width int) (v uint32, there bool) {
	if memoryAt(want, a, width) {
		return read(want.Ram, int(a), width, false), true
	}
	if width != 4 {
		return 0, false
	}
	if c := claimAt(a); c >= 0 {
		v = claimed(want, c)
		settle(want)
		return v, true
	}
	if p, _ := wordAt(want, a); p != nil {
		return *p, true
	}
	return 0, false
}

// wasWritten makes of want what P13 says of a write; false, if there is nothing.
func wasWritten(want *api.State, a uint32, width int, v uint32) bool {
	if memoryAt(want, a, width) {
		want.Ram = want.Ram[:a] + image(v)[:width] + want.Ram[int(a)+width:]
		return true
	}
	c := claimAt(a)
	p, mask := wordAt(want, a)
	if width != 4 || c < 0 && p == nil {
		return false
	}
	if c >= 0 {
		completed(want, c, v)
	} else if mask != 0 {
		*p = v & mask
	}
	settle(want)
	return true
}

// wasTurned makes of want what P14 says of a line.
func wasTurned(want *api.State, s int, high bool) {
	if s < 1 || s > 7 {
		return
	}
	want.Level = with(want.Level, s, high)
	if high && !has(want.Served, s) {
		want.Pend = with(want.Pend, s, true)
	}
	settle(want)
}

// ticked makes of want what P14 says of a tick.
func ticked(want *api.State) {
	want.Clock[2]++
	settle(want)
}

// reading does a Read and holds it against the document; it gives what was read.
func reading(t *testing.T, what string, m *Hart, a uint32, width int) (uint32, bool) {
	t.Helper()
	want := m.Look()
	v, there := wasRead(&want, a, width)
	if got, ok := m.Read(a, width); got != v || ok != there {
		t.Errorf("%s: Read(%#x, %d) = %#x, %v, want %#x, %v", what, a, width, got, ok, v, there)
	}
	same(t, what, m.Look(), want)
	return v, there
}

// writing does a Write and holds it against the document.
func writing(t *testing.T, what string, m *Hart, a uint32, width int, v uint32) bool {
	t.Helper()
	want := m.Look()
	there := wasWritten(&want, a, width, v)
	if ok := m.Write(a, width, v); ok != there {
		t.Errorf("%s: Write(%#x, %d, %#x) = %v, want %v", what, a, width, v, ok, there)
	}
	same(t, what, m.Look(), want)
	return there
}

// turning does a Line and holds it against the document.
func turning(t *testing.T, what string, m *Hart, s int, high bool) {
	t.Helper()
	want := m.Look()
	wasTurned(&want, s, high)
	m.Line(s, high)
	same(t, what, m.Look(), want)
}

// ticking does a Tick and holds it against the document.
func ticking(t *testing.T, what string, m *Hart) {
	t.Helper()
	want := m.Look()
	ticked(&want)
	m.Tick()
	same(t, what, m.Look(), want)
}

// loading does one step, of a load that reads into rd from a, and holds it
// against the document.
func loading(t *testing.T, what string, m *Hart, rd, a uint32, width int, signed bool) {
	t.Helper()
	want := m.Look()
	v, there := wasRead(&want, a, width)
	if !there {
		trapped(&want, api.LoadFault, a)
		steps(t, what, m, want)
		return
	}
	if sign := uint32(1) << (8*width - 1); signed && v >= sign {
		v -= 2 * sign
	}
	if rd > 0 {
		want.Regs[rd] = v
	}
	want.Pc += 4
	steps(t, what, m, want)
}

// storing does one step, of a store of v to a, and holds it against the document.
func storing(t *testing.T, what string, m *Hart, a uint32, width int, v uint32) {
	t.Helper()
	want := m.Look()
	if wasWritten(&want, a, width, v) {
		want.Pc += 4
	} else {
		trapped(&want, api.StoreFault, a)
	}
	steps(t, what, m, want)
}

// deviceWords: the addresses of all words of devices.
var deviceWords = []uint32{
	0x1000, 0x1004, 0x1008,
	0x2000, 0x2004, 0x2008, 0x200C, 0x2010, 0x2014, 0x2018, 0x201C,
	0x2020, 0x2024, 0x2028, 0x2030, 0x2034, 0x2038, 0x203C,
}

// send does a Write that must not fail.
func send(t *testing.T, m *Hart, a, v uint32) {
	t.Helper()
	if !m.Write(a, 4, v) {
		t.Fatalf("P13: Write(%#x, 4, %#x) = false", a, v)
	}
}

// wired gives a computer of 64 bytes whose devices hold something everywhere,
// as the calls from outside have brought it about: of the sources 1, 4 and 6
// are pending, 2, 3 and 7 in service, 5 is neither; of each of these kinds a
// line is high and a line is low. No interrupt is let in.
func wired(t *testing.T) *Hart {
	t.Helper()
	m := must(t, 64, "")
	for i := range m.ram {
		m.ram[i] = byte(i*37 + 129)
	}
	for i := 1; i < 32; i++ {
		m.regs[i] = 0x01010101 * uint32(i)
	}
	for s, prio := range []uint32{0, 3, 6, 5, 2, 4, 3, 7} {
		send(t, m, 0x2000+4*uint32(s), prio)
	}
	send(t, m, 0x2024, 0x9E)
	send(t, m, 0x2028, 0x72)
	for _, s := range []int{2, 3, 7} {
		m.Line(s, true)
	}
	for _, s := range []uint32{7, 2, 3} {
		if v, ok := m.Read(0x2034, 4); v != s || !ok {
			t.Fatalf("P15: Read(0x2034, 4) = %d, %v, want %d", v, ok, s)
		}
	}
	for _, s := range []int{1, 4, 6} {
		m.Line(s, true)
	}
	m.Line(3, false)
	m.Line(4, false)
	send(t, m, 0x2030, 2)
	send(t, m, 0x2038, 3)
	send(t, m, 0x1000, 1)
	send(t, m, 0x1004, 0x7001)
	send(t, m, 0x1008, 0x7000)
	s := m.Look()
	if s.Pend != 0x52 || s.Served != 0x8C || s.Level != 0xC6 || s.Csrs[17] != 0x808 {
		t.Fatalf("P14, P15: pending %#x, in service %#x, high %#x, mip %#x", s.Pend, s.Served, s.Level, s.Csrs[17])
	}
	return m
}
