package hart

import (
	"strings"
	"testing"

	"hart/api"
)

// P13: the memory from outside, in numbers.
func TestReadAndWriteOfMemory(t *testing.T) {
	for _, c := range []struct {
		a     uint32
		width int
		v     uint32
		there bool
	}{
		{0, 1, 0x11, true}, {0, 2, 0x2211, true}, {0, 4, 0x44332211, true},
		{1, 1, 0x22, true}, {1, 2, 0x3322, true}, {1, 4, 0xF5443322, true},
		{3, 2, 0xF544, true}, {3, 4, 0xF7F6F544, true},
		{7, 1, 0xF8, true}, {6, 2, 0xF8F7, true}, {4, 4, 0xF8F7F6F5, true},
		{8, 1, 0, false}, {7, 2, 0, false}, {8, 2, 0, false}, {5, 4, 0, false}, {6, 4, 0, false}, {7, 4, 0, false}, {8, 4, 0, false},
		{0xFFFFFFFF, 1, 0, false}, {0xFFFFFFFE, 2, 0, false}, {0xFFFFFFFF, 2, 0, false},
		{0xFFFFFFFC, 4, 0, false}, {0xFFFFFFFD, 4, 0, false}, {0xFFFFFFFE, 4, 0, false}, {0xFFFFFFFF, 4, 0, false},
		{0, 0, 0, false}, {0, 3, 0, false}, {0, 5, 0, false}, {0, 8, 0, false}, {0, -1, 0, false}, {0, -2, 0, false}, {0, -4, 0, false},
	} {
		const ram = "\x11\x22\x33\x44\xF5\xF6\xF7\xF8"
		m := must(t, 8, ram)
		if v, ok := m.Read(c.a, c.width); v != c.v || ok != c.there {
			t.Errorf("P13: Read(%#x, %d) = %#x, %v, want %#x, %v", c.a, c.width, v, ok, c.v, c.there)
		}
		same(t, "P13: a read of memory", m.Look(), blank(ram))
		want := blank(ram)
		if c.there {
			want.Ram = ram[:c.a] + "\xEF\xBE\xAD\xDE"[:c.width] + ram[int(c.a)+c.width:]
		}
		if ok := m.Write(c.a, c.width, 0xDEADBEEF); ok != c.there {
			t.Errorf("P13: Write(%#x, %d) = %v, want %v", c.a, c.width, ok, c.there)
		}
		same(t, "P13: a write of memory", m.Look(), want)
	}
}

// P13: memories of each kind of size, at each of their addresses and behind.
func TestReadAndWriteEverywhereInMemory(t *testing.T) {
	for _, size := range []int{4, 8, 64, 508, 512} {
		m := busy(t, size, 0, 0)
		for _, width := range []int{1, 2, 4, 0, 3, -4} {
			for a := range uint32(size) + 8 {
				reading(t, "P13: memory", m, a, width)
				writing(t, "P13: memory", m, a, width, a*0x01030507+0x80706050)
				reading(t, "P13: memory that was written", m, a, width)
			}
			for a := uint32(0xFFFFFFF8); a != 8; a++ {
				reading(t, "P13: about address 0", m, a, width)
				writing(t, "P13: about address 0", m, a, width, ^a)
			}
		}
	}
}

// P13: the words of devices in numbers: what they hold of all bits and of none,
// and that nothing else goes with them but mip.
func TestWordsOfDevices(t *testing.T) {
	for _, c := range []struct {
		a, all uint32
		mip    uint32
		put    func(s *api.State, v uint32)
	}{
		{0x1000, 1, 0x008, func(s *api.State, v uint32) { s.Clock[0] = v }},
		{0x1004, 0xFFFFFFFF, 0, func(s *api.State, v uint32) { s.Clock[1] = v }},
		{0x1008, 0xFFFFFFFF, 0x080, func(s *api.State, v uint32) { s.Clock[2] = v }},
		{0x2000, 0, 0, func(s *api.State, v uint32) {}},
		{0x2004, 7, 0, func(s *api.State, v uint32) { s.Prio[1] = v }},
		{0x2008, 7, 0, func(s *api.State, v uint32) { s.Prio[2] = v }},
		{0x200C, 7, 0, func(s *api.State, v uint32) { s.Prio[3] = v }},
		{0x2010, 7, 0, func(s *api.State, v uint32) { s.Prio[4] = v }},
		{0x2014, 7, 0, func(s *api.State, v uint32) { s.Prio[5] = v }},
		{0x2018, 7, 0, func(s *api.State, v uint32) { s.Prio[6] = v }},
		{0x201C, 7, 0, func(s *api.State, v uint32) { s.Prio[7] = v }},
		{0x2020, 0, 0, func(s *api.State, v uint32) {}},
		{0x2024, 0xFE, 0, func(s *api.State, v uint32) { s.Enable[0] = v }},
		{0x2028, 0xFE, 0, func(s *api.State, v uint32) { s.Enable[1] = v }},
		{0x2030, 7, 0, func(s *api.State, v uint32) { s.Limit[0] = v }},
		{0x2034, 0, 0, func(s *api.State, v uint32) {}},
		{0x2038, 7, 0, func(s *api.State, v uint32) { s.Limit[1] = v }},
		{0x203C, 0, 0, func(s *api.State, v uint32) {}},
	} {
		m := must(t, 4, "")
		want := blank("\x00\x00\x00\x00")
		for _, v := range []uint32{0xFFFFFFFF, 0, 0xFFFFFFFF, 0} {
			send(t, m, c.a, v)
			c.put(&want, v&c.all)
			want.Csrs[17] = v & c.mip
			if c.a == 0x1004 {
				want.Csrs[17] = ^v & 0x80 // mtime 0 has reached mtimecmp 0
			}
			same(t, "P13: a word written", m.Look(), want)
			if got, ok := m.Read(c.a, 4); got != v&c.all || !ok {
				t.Errorf("P13: %#x holds %#x, %v, want %#x", c.a, got, ok, v&c.all)
			}
			same(t, "P13: a word read", m.Look(), want)
		}
	}
}

// P13: each bit of each word alone, set and cleared, and what all the others
// hold behind that.
func TestEachBitOfDevices(t *testing.T) {
	for _, a := range deviceWords {
		for i := range 32 {
			for _, v := range []uint32{1 << i, ^uint32(1 << i)} {
				m := wired(t)
				writing(t, "P13: one bit", m, a, 4, v)
				reading(t, "P13: one bit", m, a, 4)
			}
		}
	}
}

// P13: all addresses in which a device could be, and some far off that differ
// from theirs in one high bit, at widths that there are and others.
func TestEveryAddress(t *testing.T) {
	var all []uint32
	for a := range uint32(0x3000) {
		all = append(all, a)
	}
	for _, a := range deviceWords {
		for i := 13; i < 32; i++ {
			all = append(all, a^1<<i)
		}
	}
	found := 0
	for _, width := range []int{4, 1, 2, 0, 3, 8, -4} {
		m := wired(t)
		for _, a := range all {
			_, there := reading(t, "P13: an address", m, a, width)
			writing(t, "P13: an address", m, a, width, a*0x9E3779B1)
			if there && a >= 64 {
				found++
			}
			if t.Failed() {
				return
			}
		}
	}
	if found != len(deviceWords) {
		t.Errorf("P13: there are %d words of devices, want %d", found, len(deviceWords))
	}
}

// P13: a word of a device has no bytes of its own, nor is it read at any
// address but its own, in numbers.
func TestPartsOfDeviceWords(t *testing.T) {
	m := wired(t)
	want := m.Look()
	for _, a := range deviceWords {
		for _, c := range []struct {
			off   uint32
			width int
		}{
			{0, 1}, {0, 2}, {1, 1}, {1, 2}, {2, 1}, {2, 2}, {3, 1}, {3, 2}, {1, 4}, {2, 4}, {3, 4},
			{0, 0}, {0, 3}, {0, 5}, {0, 8}, {0, -1}, {0, -4}, {0, 32}, {0, 1<<32 + 4}, {0, -1<<32 + 4}, {0, 1<<63 - 1}, {0, -1 << 63},
		} {
			v, there := m.Read(a+c.off, c.width)
			written := m.Write(a+c.off, c.width, 0x55555555)
			if v != 0 || there || written {
				t.Errorf("P13: %#x, %d: Read = %#x, %v, Write = %v", a+c.off, c.width, v, there, written)
			}
		}
	}
	for _, a := range []uint32{0xFF8, 0xFFC, 0x100C, 0x1010, 0x1FF8, 0x1FFC, 0x202C, 0x2040, 0x2044} {
		v, there := m.Read(a, 4)
		written := m.Write(a, 4, 0x55555555)
		if v != 0 || there || written {
			t.Errorf("P13: %#x beside the words: Read = %#x, %v, Write = %v", a, v, there, written)
		}
	}
	same(t, "P13: parts of words", m.Look(), want)
}

// P13: source 0 has no priority, whatever is written, and so is never asked for.
func TestPriorityOfSourceNought(t *testing.T) {
	m := wired(t)
	want := m.Look()
	for v := range uint32(9) {
		send(t, m, 0x2000, v)
		if got, ok := m.Read(0x2000, 4); got != 0 || !ok {
			t.Errorf("P13: behind a write of %d the priority of source 0 is %d, %v", v, got, ok)
		}
	}
	same(t, "P13: the priority of source 0", m.Look(), want)
}

// P13: a write to Pending is none, of what is pending and of what is not.
func TestWriteOfPending(t *testing.T) {
	m := wired(t)
	want := m.Look()
	for _, v := range []uint32{0, 0x52, 0xFF, 0xAD, 0xFFFFFFFF, 0xFFFFFFAD} {
		send(t, m, 0x2020, v)
		if got, ok := m.Read(0x2020, 4); got != 0x52 || !ok {
			t.Errorf("P13: behind a write of %#x Pending is %#x, %v", v, got, ok)
		}
	}
	same(t, "P13: a write to Pending", m.Look(), want)
}

// P13: what is read and written from outside has nothing to do with the
// processor: neither its level nor its sleep, and no exception comes of it.
func TestOutsideAtEachLevel(t *testing.T) {
	for _, level := range levels {
		for _, sleeps := range []bool{false, true} {
			for _, a := range append([]uint32{0, 61, 64, 0x1002, 0x100C, 0x202C, 0xFFFFFFFF}, deviceWords...) {
				for _, width := range []int{1, 2, 4} {
					m := wired(t)
					m.level = level
					m.asleep = sleeps
					reading(t, "P13: from outside", m, a, width)
					writing(t, "P13: from outside", m, a, width, 7)
				}
			}
		}
	}
}

// P13: what is written from outside is what the processor fetches.
func TestWrittenInstruction(t *testing.T) {
	m := must(t, 8, "")
	send(t, m, 0, addi(5, 0, 99))
	gives(t, "P13: a written instruction", m, 5, 99)
}

// P2: the devices of one computer are nothing to another.
func TestDevicesAreApart(t *testing.T) {
	m := must(t, 64, "")
	wired(t)
	same(t, "P2", m.Look(), blank(strings.Repeat("\x00", 64)))
	same(t, "P2", wired(t).Look(), wired(t).Look())
}

// P2: what Look gave does not go on with the devices.
func TestDevicesBehindLook(t *testing.T) {
	m := wired(t)
	early := m.Look()
	want := wired(t).Look()
	for _, a := range deviceWords {
		m.Read(a, 4)
		m.Write(a, 4, 5)
		m.Write(a, 4, 0xFFFFFFFF)
	}
	m.Line(5, true)
	m.Tick()
	same(t, "P2", early, want)
}

// P1, P2, P13 to P15: calls from outside one behind the other, as they come,
// each held against what the document says; the processor stands still. What
// is pending is never in service.
func TestScatteredCalls(t *testing.T) {
	seed := uint32(11)
	draw := func(n int) int {
		seed = seed*1664525 + 1013904223
		return int(seed>>8) % n
	}
	for range 60 {
		m := must(t, 16, "")
		for range 600 {
			a := deviceWords[draw(len(deviceWords))]
			if draw(4) == 0 {
				a = []uint32{0x2034, 0x203C}[draw(2)]
			}
			switch draw(6) {
			case 0, 1:
				turning(t, "P14: scattered", m, draw(10)-1, draw(2) == 0)
			case 2, 3:
				reading(t, "P15: scattered", m, a, 4)
			case 4:
				writing(t, "P13: scattered", m, a, 4, uint32(draw(256))>>draw(8))
			default:
				ticking(t, "P14: scattered", m)
			}
			if s := m.Look(); s.Pend&s.Served != 0 || (s.Pend|s.Served)&^0xFE != 0 {
				t.Errorf("P15: pending %#x, in service %#x", s.Pend, s.Served)
			}
			if t.Failed() {
				return
			}
		}
	}
}
