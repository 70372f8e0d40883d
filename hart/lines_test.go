package hart

import (
	"fmt"
	"testing"

	"hart/api"
)

// bits tells whether the controller asks for context 0 and for context 1.
func bits(m *Hart) (mei, sei bool) {
	mip := m.Look().Csrs[17]
	return mip>>api.MEI&1 == 1, mip>>api.SEI&1 == 1
}

func TestExampleOfLines(t *testing.T) {
	m := must(t, 4, "")
	send(t, m, 0x2008, 3)
	send(t, m, 0x2024, 0xFF)
	m.Line(2, true)
	if mei, sei := bits(m); !mei || sei {
		t.Errorf("P14: the example: bit 11 of mip is %v, bit 9 %v", mei, sei)
	}
	if v, ok := m.Read(0x2034, 4); v != 2 || !ok {
		t.Errorf("P15: the example: Read(0x2034, 4) = %d, %v", v, ok)
	}
	if mei, _ := bits(m); mei {
		t.Errorf("P15: the example: bit 11 of mip is set behind the claim")
	}
	m.Line(2, true)
	if mei, _ := bits(m); mei {
		t.Errorf("P14: the example: a line turned high once more sets bit 11 of mip")
	}
	send(t, m, 0x2034, 2)
	if mei, _ := bits(m); !mei {
		t.Errorf("P15: the example: the completion does not set bit 11 of mip")
	}
}

func TestExampleOfTicks(t *testing.T) {
	m := must(t, 4, "")
	send(t, m, 0x1004, 2)
	for i, want := range []uint32{0, 0, 0x80} {
		if mip := m.Look().Csrs[17]; mip != want {
			t.Errorf("P14: the example: behind %d ticks mip is %#x, want %#x", i, mip, want)
		}
		m.Tick()
	}
}

// P14: nothing but mtime goes on by a tick, and behind 2^32 - 1 is 0.
func TestTicks(t *testing.T) {
	for _, c := range [][2]uint32{{0, 1}, {1, 2}, {0x7FFFFFFF, 0x80000000}, {0xFFFFFFFE, 0xFFFFFFFF}, {0xFFFFFFFF, 0}} {
		for _, m := range []*Hart{must(t, 4, ""), wired(t), busyAt(t, api.User, 0)} {
			send(t, m, 0x1008, c[0])
			ticking(t, "P14: a tick", m)
			if v, ok := m.Read(0x1008, 4); v != c[1] || !ok {
				t.Errorf("P14: a tick at mtime %#x: %#x, %v, want %#x", c[0], v, ok, c[1])
			}
		}
	}
	m := must(t, 4, "")
	for i := range uint32(1000) {
		if v, _ := m.Read(0x1008, 4); v != i {
			t.Fatalf("P14: behind %d ticks mtime is %d", i, v)
		}
		m.Tick()
	}
}

// P14: a step is no tick, neither awake nor asleep.
func TestStepsAreNoTicks(t *testing.T) {
	for _, w := range []uint32{addi(1, 1, 1), wordWfi, none} {
		m := must(t, 8, image(w))
		for range 5 {
			m.Step()
		}
		if v, ok := m.Read(0x1008, 4); v != 0 || !ok {
			t.Errorf("P14: behind steps mtime is %d, %v", v, ok)
		}
	}
}

// kinds: what a source can be, and how it comes to that.
var kinds = []struct {
	name         string
	make         func(m *Hart, s int)
	pend, served bool
	high         bool
}{
	{"neither", func(m *Hart, s int) {}, false, false, false},
	{"pending, high", func(m *Hart, s int) { m.Line(s, true) }, true, false, true},
	{"pending, low", func(m *Hart, s int) { m.Line(s, true); m.Line(s, false) }, true, false, false},
	{"in service, high", func(m *Hart, s int) { m.Line(s, true); m.Read(0x2034, 4) }, false, true, true},
	{"in service, low", func(m *Hart, s int) { m.Line(s, true); m.Read(0x2034, 4); m.Line(s, false) }, false, true, false},
	{"in service, low and high again", func(m *Hart, s int) {
		m.Line(s, true)
		m.Read(0x2034, 4)
		m.Line(s, false)
		m.Line(s, true)
	}, false, true, true},
}

// open gives a computer with every source enabled for context 0, with the
// priority 1.
func open(t *testing.T) *Hart {
	t.Helper()
	m := must(t, 4, "")
	for s := uint32(1); s <= 7; s++ {
		send(t, m, 0x2000+4*s, 1)
	}
	send(t, m, 0x2024, 0xFE)
	return m
}

// is looks whether source s alone is so.
func is(t *testing.T, what string, m *Hart, s int, pend, served, high bool) {
	t.Helper()
	l := m.Look()
	for name, c := range map[string]struct {
		got  uint32
		want bool
	}{"pending": {l.Pend, pend}, "in service": {l.Served, served}, "high": {l.Level, high}} {
		want := uint32(0)
		if c.want {
			want = 1 << s
		}
		if c.got != want {
			t.Errorf("%s: source %d: %s is %#x, want %#x", what, s, name, c.got, want)
		}
	}
}

// P14: each line, turned high and low, of a source of each kind.
func TestEachLine(t *testing.T) {
	for s := 1; s <= 7; s++ {
		for _, k := range kinds {
			for _, high := range []bool{true, false} {
				m := open(t)
				k.make(m, s)
				is(t, k.name, m, s, k.pend, k.served, k.high)
				turning(t, "P14: "+k.name, m, s, high)
				is(t, fmt.Sprintf("P14: %s, turned to high %v", k.name, high), m, s, k.pend || high && !k.served, k.served, high)
			}
		}
	}
}

// P14: there are no other lines.
func TestNoOtherLines(t *testing.T) {
	for _, s := range append([]int{-64, -31, -1, 0, 8, 9, 33, 39, 64, 1<<32 + 1, -1<<32 + 1}, extremes...) {
		if s >= 1 && s <= 7 {
			continue
		}
		for _, m := range []*Hart{must(t, 4, ""), open(t), wired(t)} {
			want := m.Look()
			m.Line(s, true)
			same(t, "P14: no line", m.Look(), want)
			m.Line(s, false)
			same(t, "P14: no line", m.Look(), want)
		}
	}
}

// P14: a source becomes pending, enabled or not, and whatever its priority is.
func TestPendingWithoutEnable(t *testing.T) {
	m := must(t, 4, "")
	want := blank("\x00\x00\x00\x00")
	for s := 1; s <= 7; s++ {
		m.Line(s, true)
		want.Pend += 1 << s
		want.Level += 1 << s
		same(t, "P14: not enabled", m.Look(), want)
	}
	for s := 1; s <= 7; s++ {
		m.Line(s, false)
		want.Level -= 1 << s
		same(t, "P14: not enabled", m.Look(), want)
	}
}

// P14: when the controller asks: for each source and context, pending or not,
// enabled or not, with each priority and each limit.
func TestAsking(t *testing.T) {
	for s := 1; s <= 7; s++ {
		for c := range uint32(2) {
			for prio := range uint32(8) {
				for limit := range uint32(8) {
					for _, pending := range []bool{true, false} {
						for _, enable := range []uint32{1 << s, 0xFE, 0xFE - 1<<s, 0} {
							m := must(t, 4, "")
							send(t, m, 0x2000+4*uint32(s), prio)
							send(t, m, 0x2024+4*c, enable)
							send(t, m, 0x2030+8*c, limit)
							if pending {
								m.Line(s, true)
							}
							want := pending && enable>>s&1 == 1 && prio > limit
							mei, sei := bits(m)
							if mei != (want && c == 0) || sei != (want && c == 1) {
								t.Fatalf("P14: source %d, context %d, priority %d, limit %d, pending %v, enabled %#x: MEI %v, SEI %v", s, c, prio, limit, pending, enable, mei, sei)
							}
						}
					}
				}
			}
		}
	}
}

// P14: one source is enough; a limit that one does not pass, another may.
func TestAskingBySeveral(t *testing.T) {
	m := must(t, 4, "")
	for s := uint32(1); s <= 7; s++ {
		send(t, m, 0x2000+4*s, s)
		m.Line(int(s), true)
	}
	for _, c := range []struct {
		enable, limit uint32
		want          bool
	}{
		{0xFE, 0, true}, {0xFE, 6, true}, {0xFE, 7, false}, {0x7E, 6, false}, {0x7E, 5, true},
		{0x02, 0, true}, {0x02, 1, false}, {0x82, 1, true}, {0x06, 1, true}, {0x06, 2, false}, {0, 0, false},
	} {
		for context := range uint32(2) {
			send(t, m, 0x2024+4*context, c.enable)
			send(t, m, 0x2030+8*context, c.limit)
		}
		if mei, sei := bits(m); mei != c.want || sei != c.want {
			t.Errorf("P14: %+v: MEI %v, SEI %v", c, mei, sei)
		}
	}
}

// P15: in turn, what is claimed for the contexts of a computer in which all
// sources are pending.
func TestClaimsInTurn(t *testing.T) {
	for _, c := range []struct {
		name     string
		prio     [8]uint32
		enable   [2]uint32
		contexts []uint32
		want     []uint32
	}{
		{"different", [8]uint32{0, 1, 7, 3, 5, 2, 6, 4}, [2]uint32{0xFE, 0}, []uint32{0, 0, 0, 0, 0, 0, 0, 0}, []uint32{2, 6, 4, 7, 3, 5, 1, 0}},
		{"rising", [8]uint32{0, 1, 2, 3, 4, 5, 6, 7}, [2]uint32{0, 0xFE}, []uint32{1, 1, 1, 1, 1, 1, 1, 1}, []uint32{7, 6, 5, 4, 3, 2, 1, 0}},
		{"the same", [8]uint32{0, 4, 4, 4, 4, 4, 4, 4}, [2]uint32{0xFE, 0xFE}, []uint32{0, 1, 0, 1, 0, 1, 0, 1}, []uint32{1, 2, 3, 4, 5, 6, 7, 0}},
		{"some the same", [8]uint32{0, 2, 5, 2, 5, 7, 7, 2}, [2]uint32{0xFE, 0}, []uint32{0, 0, 0, 0, 0, 0, 0, 0}, []uint32{5, 6, 2, 4, 1, 3, 7, 0}},
		{"some nought", [8]uint32{0, 0, 1, 0, 0, 1, 0, 7}, [2]uint32{0xFE, 0xFE}, []uint32{0, 0, 0, 0, 1}, []uint32{7, 2, 5, 0, 0}},
		{"all nought", [8]uint32{}, [2]uint32{0xFE, 0xFE}, []uint32{0, 1}, []uint32{0, 0}},
		{"none enabled", [8]uint32{0, 7, 7, 7, 7, 7, 7, 7}, [2]uint32{0, 0}, []uint32{0, 1}, []uint32{0, 0}},
		{"apart", [8]uint32{0, 1, 2, 3, 4, 5, 6, 7}, [2]uint32{0x0E, 0xF0}, []uint32{0, 1, 0, 1, 0, 1, 0, 1, 1}, []uint32{3, 7, 2, 6, 1, 5, 0, 4, 0}},
		{"in common", [8]uint32{0, 1, 2, 3, 4, 5, 6, 7}, [2]uint32{0x3E, 0xF0}, []uint32{0, 1, 1, 1, 1, 0, 0}, []uint32{5, 7, 6, 4, 0, 3, 2}},
	} {
		m := must(t, 4, "")
		for s := uint32(1); s <= 7; s++ {
			send(t, m, 0x2000+4*s, c.prio[s])
			m.Line(int(s), true)
		}
		for context := range uint32(2) {
			send(t, m, 0x2024+4*context, c.enable[context])
			send(t, m, 0x2030+8*context, 7)
		}
		want := m.Look()
		for i, context := range c.contexts {
			v, ok := m.Read(0x2034+8*context, 4)
			if v != c.want[i] || !ok {
				t.Errorf("P15: %s: claim %d, of context %d: %d, %v, want %d", c.name, i, context, v, ok, c.want[i])
			}
			if c.want[i] != 0 {
				want.Pend -= 1 << c.want[i]
				want.Served += 1 << c.want[i]
			}
			same(t, "P15: "+c.name, m.Look(), want)
		}
	}
}

// P15: a claim does not look at the limit: not even one that keeps the
// controller from asking.
func TestClaimWithLimitAbove(t *testing.T) {
	for prio := range uint32(8) {
		for limit := range uint32(8) {
			for c := range uint32(2) {
				m := must(t, 4, "")
				send(t, m, 0x2014, prio)
				send(t, m, 0x2024+4*c, 0x20)
				send(t, m, 0x2030+8*c, limit)
				m.Line(5, true)
				want := uint32(5)
				if prio == 0 {
					want = 0
				}
				if v, ok := m.Read(0x203C-8*c, 4); v != 0 || !ok {
					t.Errorf("P15: the other context claims %d, %v", v, ok)
				}
				if v, ok := m.Read(0x2034+8*c, 4); v != want || !ok {
					t.Errorf("P15: priority %d, limit %d, context %d: %d, %v, want %d", prio, limit, c, v, ok, want)
				}
				is(t, "P15: behind the claim", m, 5, prio == 0, prio != 0, true)
			}
		}
	}
}

// P15: nothing is claimed that is not pending, a high line in service with it.
func TestClaimOfNone(t *testing.T) {
	m := open(t)
	want := m.Look()
	if v, ok := m.Read(0x2034, 4); v != 0 || !ok {
		t.Errorf("P15: with all lines low %d, %v is claimed", v, ok)
	}
	same(t, "P15: a claim of none", m.Look(), want)
	m.Line(4, true)
	m.Read(0x2034, 4)
	want = m.Look()
	for _, a := range []uint32{0x2034, 0x203C} {
		if v, ok := m.Read(a, 4); v != 0 || !ok {
			t.Errorf("P15: a source in service: %d, %v is claimed", v, ok)
		}
	}
	same(t, "P15: a claim of what is in service", m.Look(), want)
}

// P15: each source of each kind is completed for a context that has it enabled
// and for one that has not.
func TestCompletions(t *testing.T) {
	for s := 1; s <= 7; s++ {
		for _, k := range kinds {
			for c := range uint32(2) {
				m := open(t)
				send(t, m, 0x2028, 0xFE)
				k.make(m, s)
				send(t, m, 0x2024+4*(1-c), 0) // the other context does not count
				send(t, m, 0x2034+8*(1-c), uint32(s))
				is(t, "P15: not enabled there: "+k.name, m, s, k.pend, k.served, k.high)
				send(t, m, 0x2024+4*c, 0xFE-1<<s)
				send(t, m, 0x2034+8*c, uint32(s))
				is(t, "P15: not enabled: "+k.name, m, s, k.pend, k.served, k.high)
				send(t, m, 0x2024+4*c, 1<<s)
				writing(t, "P15: "+k.name, m, 0x2034+8*c, 4, uint32(s))
				is(t, "P15: completed: "+k.name, m, s, k.pend || k.served && k.high, false, k.high)
				writing(t, "P15: once more: "+k.name, m, 0x2034+8*c, 4, uint32(s))
				is(t, "P15: completed twice: "+k.name, m, s, k.pend || k.served && k.high, false, k.high)
			}
		}
	}
}

// P15: it does not matter to a completion for which context the source was
// claimed, nor what its priority and the limits have become.
func TestCompletionByAnother(t *testing.T) {
	m := open(t)
	m.Line(6, true)
	m.Read(0x2034, 4)
	send(t, m, 0x2028, 0x40)
	send(t, m, 0x2018, 0)
	send(t, m, 0x2038, 7)
	send(t, m, 0x203C, 6)
	is(t, "P15: completed for the other context", m, 6, true, false, true)
}

// P15: what is no source's number completes nothing; all are in service.
func TestCompletionOfNoSource(t *testing.T) {
	m := open(t)
	send(t, m, 0x2028, 0xFE)
	for s := 1; s <= 7; s++ {
		m.Line(s, true)
		m.Read(0x2034, 4)
	}
	want := m.Look()
	if want.Served != 0xFE || want.Pend != 0 {
		t.Fatalf("P15: pending %#x, in service %#x", want.Pend, want.Served)
	}
	for _, v := range []uint32{0, 8, 9, 15, 16, 31, 32, 33, 39, 64, 65, 0x101, 0x102, 0x10007, 0x80000001, 0xFFFFFFF8, 0xFFFFFFFF} {
		for _, a := range []uint32{0x2034, 0x203C} {
			send(t, m, a, v)
			same(t, fmt.Sprintf("P15: a completion of %#x", v), m.Look(), want)
		}
	}
	for s := uint32(1); s <= 7; s++ {
		send(t, m, 0x2034+8*(s%2), s)
		want.Served -= 1 << s
		want.Pend += 1 << s
		want.Csrs[17] = 0xA00
		same(t, "P15: a completion", m.Look(), want)
	}
}

// P14, P15: one source's way: high, claimed, low, completed, and high again.
func TestWayOfASource(t *testing.T) {
	for s := 1; s <= 7; s++ {
		m := open(t)
		for range 3 {
			m.Line(s, true)
			is(t, "P14: high", m, s, true, false, true)
			m.Line(s, false)
			m.Line(s, true)
			is(t, "P14: high again while pending", m, s, true, false, true)
			if v, _ := m.Read(0x2034, 4); v != uint32(s) {
				t.Errorf("P15: %d is claimed, want %d", v, s)
			}
			is(t, "P15: claimed", m, s, false, true, true)
			m.Line(s, false)
			m.Line(s, true)
			is(t, "P14: high again while in service", m, s, false, true, true)
			send(t, m, 0x2034, uint32(s))
			is(t, "P15: completed while high", m, s, true, false, true)
			m.Read(0x2034, 4)
			m.Line(s, false)
			is(t, "P14: low while in service", m, s, false, true, false)
			send(t, m, 0x2034, uint32(s))
			is(t, "P15: completed while low", m, s, false, false, false)
		}
	}
}
