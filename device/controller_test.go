package device

import (
	"testing"

	"hart/api"
)

// ready: a controller in which source s alone would make it ask for context c.
func ready(s, c int) Controller {
	p := Controller{Pend: 1 << s}
	p.Enable[c] = 1 << s
	p.Prio[s] = 3
	p.Limit[c] = 2
	return p
}

func TestAsks(t *testing.T) {
	for s := 1; s <= api.Sources; s++ {
		for c := range Contexts {
			p := ready(s, c)
			if !p.Asks(c) || p.Asks(1-c) {
				t.Errorf("source %d: context %d is not asked for alone", s, c)
			}
			for _, q := range []Controller{unpend(p), disable(p, c), level(p, s, c)} {
				if q.Asks(c) {
					t.Errorf("source %d: context %d is asked for by %+v", s, c, q)
				}
			}
		}
	}
}

func unpend(p Controller) Controller {
	p.Pend = ^p.Pend
	return p
}

func disable(p Controller, c int) Controller {
	p.Enable[c] = ^p.Enable[c]
	return p
}

func level(p Controller, s, c int) Controller {
	p.Limit[c] = p.Prio[s]
	return p
}

func TestAsksWithoutAContext(t *testing.T) {
	p := Controller{Pend: 0xFF}
	for s := range p.Prio {
		p.Prio[s] = 7
	}
	p.Enable[0] = 0xFF
	p.Enable[1] = 0xFF
	for _, c := range []int{-1 << 63, -1, 2, 1<<63 - 1} {
		if p.Asks(c) {
			t.Errorf("context %d is asked for", c)
		}
	}
	if !p.Asks(0) || !p.Asks(1) {
		t.Error("contexts 0 and 1 are not asked for")
	}
}

// No word of the controller claims or completes for another context; if one
// did, nothing would come of it.
func TestNoOtherContexts(t *testing.T) {
	want := ready(3, 1)
	want.Served = 0x24
	want.Enable = [Contexts]uint32{0xFE, 0xFE}
	for _, c := range []int{-1 << 63, -1, 2, 1<<63 - 1} {
		p := want
		s := p.claim(c)
		p.complete(c, 5)
		if s != 0 || p != want {
			t.Errorf("context %d: claim gives %d and leaves %+v", c, s, p)
		}
	}
}

// mixed: a controller in which sources 1, 3 and 6 are pending, 2 and 5 in
// service, and every word holds something.
func mixed() Controller {
	return Controller{
		Prio: [api.Sources + 1]uint32{0, 2, 5, 4, 3, 1, 4, 7},
		Pend: 0x4A, Served: 0x24, Level: 0x28,
		Enable: [Contexts]uint32{0x6E, 0xC0}, Limit: [Contexts]uint32{4, 3},
	}
}

func TestAskingByLimits(t *testing.T) {
	for limit := range uint32(8) {
		for c, greatest := range []uint32{4, 4} {
			p := mixed()
			p.Limit = [Contexts]uint32{limit, limit}
			if got := p.Asks(c); got != (greatest > limit) || p.Pend != 0x4A {
				t.Errorf("P14: limit %d, context %d: Asks = %v", limit, c, got)
			}
		}
	}
}

// P15: claims for both contexts until there is none left.
func TestClaims(t *testing.T) {
	p := mixed()
	want := mixed()
	for _, c := range []struct {
		context         int
		s, pend, served uint32
	}{
		{1, 6, 0x0A, 0x64}, {1, 0, 0x0A, 0x64}, {0, 3, 0x02, 0x6C}, {0, 1, 0x00, 0x6E}, {0, 0, 0x00, 0x6E},
	} {
		s, there := p.Read(0x2034 + 8*uint32(c.context))
		want.Pend, want.Served = c.pend, c.served
		if s != c.s || !there || p != want {
			t.Fatalf("P15: context %d claims %d, %v, want %d, and leaves\n%+v, want\n%+v", c.context, s, there, c.s, p, want)
		}
	}
	p = mixed()
	if s := p.claim(0); s != 3 {
		t.Errorf("P15: of 3 and 6 with the same priority %d is claimed", s)
	}
}

// P15: completions, each of a controller as mixed gives it.
func TestCompletions(t *testing.T) {
	for _, c := range []struct {
		context         int
		s, pend, served uint32
	}{
		{0, 2, 0x4A, 0x20}, {0, 5, 0x6A, 0x04}, {1, 2, 0x4A, 0x24}, {1, 5, 0x4A, 0x24},
		{0, 3, 0x4A, 0x24}, {0, 4, 0x4A, 0x24}, {0, 0, 0x4A, 0x24}, {0, 8, 0x4A, 0x24},
		{0, 0x22, 0x4A, 0x24}, {0, 0x102, 0x4A, 0x24}, {0, 0x80000005, 0x4A, 0x24}, {0, 0xFFFFFFFF, 0x4A, 0x24},
	} {
		p := mixed()
		want := mixed()
		want.Pend, want.Served = c.pend, c.served
		if !p.Write(0x2034+8*uint32(c.context), c.s) || p != want {
			t.Errorf("P15: context %d completes %#x and leaves\n%+v, want\n%+v", c.context, c.s, p, want)
		}
	}
}

// P14: each line of a controller as mixed gives it.
func TestLines(t *testing.T) {
	for s := -1; s <= 9; s++ {
		for _, high := range []bool{true, false} {
			p := mixed()
			want := mixed()
			if s >= 1 && s <= 7 {
				want.Level = 0x28 - 0x28&(1<<s)
				if high {
					want.Level += 1 << s
				}
				want.Pend = map[bool]uint32{false: 0x4A, true: []uint32{0, 0x4A, 0x4A, 0x4A, 0x5A, 0x4A, 0x4A, 0xCA}[s]}[high]
			}
			p.Line(s, high)
			if p != want {
				t.Errorf("P14: line %d, high %v: leaves\n%+v, want\n%+v", s, high, p, want)
			}
		}
	}
}

func TestNoOtherWordsOfTheController(t *testing.T) {
	for _, a := range []uint32{0, 0x1000, 0x1FFC, 0x1FFF, 0x2001, 0x2002, 0x2003, 0x201B, 0x201D, 0x201F, 0x2021, 0x2025, 0x2026, 0x202C, 0x2032, 0x2035, 0x203A, 0x203F, 0x2040, 0x2044, 0x3000, 0x80002000, 0xFFFFFFFF} {
		p := mixed()
		v, there := p.Read(a)
		written := p.Write(a, 0xFFFFFFFF)
		if v != 0 || there || written || p != mixed() {
			t.Errorf("P13: %#x: Read = %#x, %v, Write = %v, the controller holds %+v", a, v, there, written, p)
		}
	}
}
