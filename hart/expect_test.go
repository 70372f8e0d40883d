package hart

import (
	"testing"

	"hart/api"
)

// What the document says of a step that has to do with control registers, told
// once more in terms of State, to be held against what the computer does.

// numbers: those of the control registers, in the order of State.
var numbers = []uint32{0x100, 0x104, 0x105, 0x140, 0x141, 0x142, 0x143, 0x144, 0x300, 0x302, 0x303, 0x304, 0x305, 0x340, 0x341, 0x342, 0x343, 0x344, 0xF14}

// slot: where the control register n stands in State; -1, if there is none.
func slot(n uint32) int {
	for i, c := range numbers {
		if c == n {
			return i
		}
	}
	return -1
}

// with gives v with bit i as b says.
func with(v uint32, i int, b bool) uint32 {
	v &= 0xFFFFFFFF - 1<<i
	if b {
		v += 1 << i
	}
	return v
}

func has(v uint32, i int) bool { return v>>i%2 == 1 }

// put lets the control register n tell v in want, and the views of it with it.
func put(want *api.State, n, v uint32) {
	want.Csrs[slot(n)] = v
	want.Csrs[0] = want.Csrs[8] & 0x122
	want.Csrs[1] = want.Csrs[11] & want.Csrs[10]
	want.Csrs[7] = want.Csrs[17] & want.Csrs[10]
}

// trapped makes of want what P11 says of an exception.
func trapped(want *api.State, cause, tval uint32) {
	entered(want, want.Mode != api.Machine && has(want.Csrs[9], int(cause)), cause, tval)
}

// entered makes of want what P11 says of an exception that goes to Supervisor,
// or else to Machine.
func entered(want *api.State, super bool, cause, tval uint32) {
	status := want.Csrs[8]
	level := want.Mode
	base := uint32(0x300)
	if super {
		base = 0x100
		status = with(status, 5, has(status, 1))
		status = with(status, 1, false)
		status = with(status, 8, level == api.Supervisor)
		want.Mode = api.Supervisor
	} else {
		status = with(status, 7, has(status, 3))
		status = with(status, 3, false)
		status = with(status, 11, level != api.User)
		status = with(status, 12, level == api.Machine)
		want.Mode = api.Machine
	}
	put(want, 0x300, status)
	put(want, base+0x41, want.Pc)
	put(want, base+0x42, cause)
	put(want, base+0x43, tval)
	want.Pc = want.Csrs[slot(base+5)] / 4 * 4
}

// traps does one step that ends in an exception, and nothing else.
func traps(t *testing.T, what string, m *Hart, cause, tval uint32) {
	t.Helper()
	want := m.Look()
	trapped(&want, cause, tval)
	steps(t, what, m, want)
}

// kept: the bits that a write to the control register n may change, and the one
// where they are kept.
func kept(s api.State, n uint32) (mask, base uint32) {
	deleg := s.Csrs[slot(0x303)]
	switch n {
	case 0x100:
		return 0x122, 0x300
	case 0x104:
		return deleg, 0x304
	case 0x144:
		return deleg & 2, 0x344
	case 0x105, 0x305:
		return 0xFFFFFFFD, n
	case 0x141, 0x341:
		return 0xFFFFFFFC, n
	case 0x142, 0x342:
		return 0x8000000F, n
	case 0x300:
		return 0x006019AA, n
	case 0x302:
		return 0x3AF, n
	case 0x303:
		return 0x222, n
	case 0x304:
		return 0xAAA, n
	case 0x344:
		return 0x22, n
	}
	return 0xFFFFFFFF, n
}

// written makes of want what P9 says of a write.
func written(want *api.State, n, v uint32) {
	mask, base := kept(*want, n)
	old := want.Csrs[slot(base)]
	now := old
	for i := range 32 {
		if has(mask, i) {
			now = with(now, i, has(v, i))
		}
	}
	if n == 0x300 && v/0x800%4 == 2 {
		now = with(now, 11, has(old, 11))
		now = with(now, 12, has(old, 12))
	}
	put(want, base, now)
}

// accessed makes of want what P10 says of the instruction f3 with these fields.
func accessed(want *api.State, f3, rd, rs1, n uint32) {
	w := wordI(0x73, f3, rd, rs1, n)
	i := slot(n)
	writes := f3 == 1 || f3 == 5 || rs1 > 0
	if i < 0 || uint32(want.Mode) < n/256%4 || writes && n/1024%4 == 3 {
		trapped(want, api.Illegal, w)
		return
	}
	v := want.Regs[rs1]
	if f3 > 4 {
		v = rs1
	}
	held := want.Csrs[i]
	if rd > 0 {
		want.Regs[rd] = held
	}
	if writes {
		written(want, n, []uint32{0, v, held | v, held & (v ^ 0xFFFFFFFF)}[f3%4])
	}
	want.Pc += 4
}

// returned makes of want what P12 says of Mret and Sret that are done.
func returned(want *api.State, w uint32) {
	status := want.Csrs[8]
	if w == wordMret {
		want.Pc = want.Csrs[slot(0x341)]
		want.Mode = int(status / 0x800 % 4)
		status = with(status, 3, has(status, 7))
		status = with(status, 7, true)
		status = with(status, 11, false)
		status = with(status, 12, false)
	} else {
		want.Pc = want.Csrs[slot(0x141)]
		want.Mode = int(status / 0x100 % 2)
		status = with(status, 1, has(status, 5))
		status = with(status, 5, true)
		status = with(status, 8, false)
	}
	put(want, 0x300, status)
}

// privileged makes of want what P12 says of the word w.
func privileged(want *api.State, w uint32) {
	status := want.Csrs[8]
	super := want.Mode == api.Supervisor
	illegal := want.Mode == api.User
	switch w {
	case wordEcall:
		trapped(want, []uint32{8, 9, 10, 11}[want.Mode], 0)
		return
	case wordEbreak:
		trapped(want, 3, want.Pc)
		return
	case wordMret:
		illegal = illegal || super
	case wordSret:
		illegal = illegal || super && has(status, 22)
	case wordWfi:
		illegal = illegal || super && has(status, 21)
	}
	if illegal {
		trapped(want, api.Illegal, w)
		return
	}
	if w == wordWfi {
		want.Pc += 4
		want.Asleep = true
		return
	}
	returned(want, w)
}

const (
	wordEcall  = 0x73
	wordEbreak = 0x100073
	wordSret   = 0x10200073
	wordWfi    = 0x10500073
	wordMret   = 0x30200073
)

var levels = []int{api.User, api.Supervisor, api.Machine}

// busyAt gives a busy computer of 64 bytes at this level, with the instruction w
// at 8. Some interrupts are pending and others are let in by mie, but none is
// both, so that none is taken at any level.
func busyAt(t *testing.T, level int, w uint32) *Hart {
	t.Helper()
	m := busy(t, 64, 8, w)
	m.level = level
	m.csr.written = 1 << api.SSI
	m.clock.Mtimecmp = 0xFFFFFFFF
	m.lines.Pend = 0
	m.csr.mie = 0xAA0
	if s := m.Look(); s.Csrs[17] != 0x00A || s.Csrs[11] != 0xAA0 || s.Mode != level {
		t.Fatalf("mip is %#x, mie %#x, the level %d", s.Csrs[17], s.Csrs[11], s.Mode)
	}
	return m
}
