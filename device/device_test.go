package device

import (
	"testing"

	"hart/api"
)

func TestNewClock(t *testing.T) {
	k := NewClock()
	if k.Msip != 0 || k.Mtimecmp != 0xFFFFFFFF || k.Mtime != 0 {
		t.Errorf("P4: a new clock holds %+v", k)
	}
}

func TestDue(t *testing.T) {
	for _, c := range []struct {
		mtime, mtimecmp uint32
		want            bool
	}{
		{0, 0xFFFFFFFF, false}, {0xFFFFFFFE, 0xFFFFFFFF, false}, {0xFFFFFFFF, 0xFFFFFFFF, true},
		{0, 0, true}, {1, 2, false}, {2, 2, true}, {3, 2, true}, {0x7FFFFFFF, 0x80000000, false}, {0x80000000, 0x7FFFFFFF, true},
	} {
		k := Clock{Mtime: c.mtime, Mtimecmp: c.mtimecmp}
		if got := k.Due(); got != c.want {
			t.Errorf("mtime %d, mtimecmp %d: Due = %v, want %v", c.mtime, c.mtimecmp, got, c.want)
		}
	}
}

// ready: a controller in which source s alone would make it ask for context c.
func ready(s, c int) Controller {
	p := Controller{Pend: 1 << s}
	p.Enable[c] = 1 << s
	p.Prio[s] = 3
	p.Limit[c] = 2
	return p
}

func TestAsks(t *testing.T) {
	for s := 1; s <= api.Sources; s++ {
		for c := range Contexts {
			p := ready(s, c)
			if !p.Asks(c) || p.Asks(1-c) {
				t.Errorf("source %d: context %d is not asked for alone", s, c)
			}
			for _, q := range []Controller{unpend(p), disable(p, c), level(p, s, c)} {
				if q.Asks(c) {
					t.Errorf("source %d: context %d is asked for by %+v", s, c, q)
				}
			}
		}
	}
}

func unpend(p Controller) Controller {
	p.Pend = ^p.Pend
	return p
}

func disable(p Controller, c int) Controller {
	p.Enable[c] = ^p.Enable[c]
	return p
}

func level(p Controller, s, c int) Controller {
	p.Limit[c] = p.Prio[s]
	return p
}

func TestAsksWithoutAContext(t *testing.T) {
	p := Controller{Pend: 0xFF}
	for s := range p.Prio {
		p.Prio[s] = 7
	}
	p.Enable[0] = 0xFF
	p.Enable[1] = 0xFF
	for _, c := range []int{-1 << 63, -1, 2, 1<<63 - 1} {
		if p.Asks(c) {
			t.Errorf("context %d is asked for", c)
		}
	}
	if !p.Asks(0) || !p.Asks(1) {
		t.Error("contexts 0 and 1 are not asked for")
	}
}
