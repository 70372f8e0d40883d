package device

import "testing"

func TestNewClock(t *testing.T) {
	k := NewClock()
	if k.Msip != 0 || k.Mtimecmp != 0xFFFFFFFF || k.Mtime != 0 {
		t.Errorf("P4: a new clock holds %+v", k)
	}
}

func TestDue(t *testing.T) {
	for _, c := range []struct {
		mtime, mtimecmp uint32
		want            bool
	}{
		{0, 0xFFFFFFFF, false}, {0xFFFFFFFE, 0xFFFFFFFF, false}, {0xFFFFFFFF, 0xFFFFFFFF, true},
		{0, 0, true}, {1, 2, false}, {2, 2, true}, {3, 2, true}, {0x7FFFFFFF, 0x80000000, false}, {0x80000000, 0x7FFFFFFF, true},
	} {
		k := Clock{Mtime: c.mtime, Mtimecmp: c.mtimecmp}
		if got := k.Due(); got != c.want {
			t.Errorf("mtime %d, mtimecmp %d: Due = %v, want %v", c.mtime, c.mtimecmp, got, c.want)
		}
	}
}

func TestTick(t *testing.T) {
	for _, c := range [][2]uint32{{0, 1}, {1, 2}, {0x7FFFFFFF, 0x80000000}, {0xFFFFFFFE, 0xFFFFFFFF}, {0xFFFFFFFF, 0}} {
		k := Clock{Msip: 1, Mtimecmp: 5, Mtime: c[0]}
		k.Tick()
		if k != (Clock{Msip: 1, Mtimecmp: 5, Mtime: c[1]}) {
			t.Errorf("P14: a tick at mtime %#x: the clock holds %+v", c[0], k)
		}
	}
}

func TestWordsOfTheClock(t *testing.T) {
	for _, c := range []struct {
		a, v uint32
		want Clock
	}{
		{0x1000, 0xFFFFFFFF, Clock{1, 20, 30}},
		{0x1000, 0xFFFFFFFE, Clock{0, 20, 30}},
		{0x1004, 0xFFFFFFFF, Clock{1, 0xFFFFFFFF, 30}},
		{0x1004, 0, Clock{1, 0, 30}},
		{0x1008, 0xFFFFFFFF, Clock{1, 20, 0xFFFFFFFF}},
		{0x1008, 0, Clock{1, 20, 0}},
	} {
		k := Clock{1, 20, 30}
		if !k.Write(c.a, c.v) || k != c.want {
			t.Errorf("P13: %#x to %#x: the clock holds %+v, want %+v", c.v, c.a, k, c.want)
		}
		want := []uint32{k.Msip, k.Mtimecmp, k.Mtime}[(c.a-0x1000)/4]
		if v, there := k.Read(c.a); v != want || !there || k != c.want {
			t.Errorf("P13: Read(%#x) = %#x, %v, want %#x", c.a, v, there, want)
		}
	}
}

func TestNoOtherWordsOfTheClock(t *testing.T) {
	for _, a := range []uint32{0, 0xFFC, 0xFFF, 0x1001, 0x1002, 0x1003, 0x1005, 0x1007, 0x1009, 0x100B, 0x100C, 0x2000, 0x80001000, 0xFFFFFFFF} {
		k := Clock{1, 20, 30}
		v, there := k.Read(a)
		written := k.Write(a, 0xFFFFFFFF)
		if v != 0 || there || written || k != (Clock{1, 20, 30}) {
			t.Errorf("P13: %#x: Read = %#x, %v, Write = %v, the clock holds %+v", a, v, there, written, k)
		}
	}
}
