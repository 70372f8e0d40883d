package hart

import (
	"testing"

	"hart/api"
)

// What the document says of interrupts and of sleep, told once more in terms of
// State, to be held against what the computer does.

// order: in which P16 names the interrupts.
var order = []int{11, 3, 7, 9, 1, 5}

// names: those of the interrupts, by their numbers.
var names = map[int]string{11: "MEI", 3: "MSI", 7: "MTI", 9: "SEI", 1: "SSI", 5: "STI"}

// enabled: is the interrupt i enabled (P16)?
func enabled(s *api.State, i int) bool {
	if !has(s.Csrs[slot(0x344)], i) || !has(s.Csrs[slot(0x304)], i) {
		return false
	}
	status := s.Csrs[slot(0x300)]
	if !has(s.Csrs[slot(0x303)], i) {
		return s.Mode < api.Machine || has(status, 3)
	}
	return s.Mode == api.User || s.Mode == api.Supervisor && has(status, 1)
}

// first: the interrupt that is taken; -1, if none is.
func first(s *api.State) int {
	for _, deleg := range []bool{false, true} {
		for _, i := range order {
			if enabled(s, i) && has(s.Csrs[slot(0x303)], i) == deleg {
				return i
			}
		}
	}
	return -1
}

// interrupted makes of want what P16 says of the interrupt i that is taken.
func interrupted(want *api.State, i int) {
	super := has(want.Csrs[slot(0x303)], i)
	entered(want, super, 0x80000000+uint32(i), 0)
	vector := want.Csrs[slot(0x305)]
	if super {
		vector = want.Csrs[slot(0x105)]
	}
	if has(vector, 0) {
		want.Pc += 4 * uint32(i)
	}
}

// begun makes of want what P6 says of a step ahead of the fetch; false, if that
// is all.
func begun(want *api.State) bool {
	if want.Asleep && want.Csrs[slot(0x344)]&want.Csrs[slot(0x304)] == 0 {
		return false
	}
	want.Asleep = false
	if i := first(want); i >= 0 {
		interrupted(want, i)
		return false
	}
	return true
}

// takes does one step in which the interrupt i is taken, and nothing else.
func takes(t *testing.T, what string, m *Hart, i int) {
	t.Helper()
	want := m.Look()
	if got := first(&want); got != i {
		t.Errorf("%s: the document asks for interrupt %d, not for %d", what, got, i)
	}
	want.Asleep = false
	interrupted(&want, i)
	steps(t, what, m, want)
}

// rests does some steps in which nothing at all is changed.
func rests(t *testing.T, what string, m *Hart, n int) {
	t.Helper()
	want := m.Look()
	for range n {
		steps(t, what, m, want)
	}
}

// raise lets mip be this, by what the devices hold.
func raise(t *testing.T, m *Hart, mip uint32) {
	t.Helper()
	m.csr.written = mip & 0x22
	send(t, m, 0x1000, mip>>api.MSI)
	send(t, m, 0x1008, 5)
	send(t, m, 0x1004, 6-mip>>api.MTI&1)
	m.lines.Pend = 0x80
	send(t, m, 0x201C, 4)
	send(t, m, 0x2030, 4-mip>>api.MEI&1)
	send(t, m, 0x2038, 4-mip>>api.SEI&1)
	send(t, m, 0x2024, 0x80)
	send(t, m, 0x2028, 0x80)
	if got := m.Look().Csrs[17]; got != mip {
		t.Fatalf("P9: mip is %#x, want %#x", got, mip)
	}
}

// facing gives a busy computer of 64 bytes at this level, with an Addi at 8, and
// these control registers.
func facing(t *testing.T, level int, status, mip, mie, mideleg uint32) *Hart {
	t.Helper()
	m := busy(t, 64, 8, addi(1, 1, 1))
	m.level = level
	m.csr.mstatus = status
	m.csr.mie = mie
	m.csr.mideleg = mideleg
	raise(t, m, mip)
	return m
}

// does does one step of which the Addi of facing is done, and nothing else.
func does(t *testing.T, what string, m *Hart) {
	t.Helper()
	v := m.regs[1] + 1
	gives(t, what, m, 1, v)
}
