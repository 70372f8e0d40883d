package hart

import (
	"testing"

	"hart/api"
)

func lui(rd, v uint32) uint32      { return wordI(0x37, 0, rd, 0, 0) | v }
func lw(rd, rs1, a uint32) uint32  { return wordI(0x03, 2, rd, rs1, a) }
func sw(rs2, rs1, a uint32) uint32 { return wordS(2, rs1, rs2, a) }

// A program of Machine sleeps until the clock wakes it, every third tick: the
// interrupt sets the alarm anew and goes back behind the Wfi.
func TestAlarms(t *testing.T) {
	m := must(t, 128, image(
		addi(1, 0, 0x40), csr(1, 0, 1, 0x305), // 0x00: mtvec
		addi(1, 0, 0x80), csr(1, 0, 1, 0x304), // 0x08: mie is MTI
		lui(5, 0x1000), addi(6, 0, 3), // 0x10
		sw(6, 5, 4), csr(6, 0, 8, 0x300), // 0x18: mtimecmp is 3, MIE
		wordWfi, addi(10, 10, 1), // 0x20: x10 counts how often it goes on
		wordJ(0, 0xFFFFFFF8), none, // 0x28
		none, none, none, none, // 0x30
		addi(11, 11, 1), addi(6, 6, 3), // 0x40: x11 counts the interrupts
		sw(6, 5, 4), wordMret, // 0x48
	))
	for range 9 {
		m.Step()
	}
	for tick := uint32(0); tick <= 30; tick++ {
		s := m.Look()
		if !s.Asleep || s.Pc != 0x24 || s.Regs[11] != tick/3 || s.Regs[10] != tick/3 || s.Csrs[8] != bitMIE|0x80*min(tick/3, 1) {
			t.Fatalf("P16: behind %d ticks: asleep %v, pc %#x, x11 %d, x10 %d, mstatus %#x", tick, s.Asleep, s.Pc, s.Regs[11], s.Regs[10], s.Csrs[8])
		}
		m.Tick()
		for range 8 {
			m.Step()
		}
	}
}

// A program of User is interrupted by lines, for Supervisor: the interrupt
// claims the source, lays its number by and completes it.
func TestClaimsByInterrupts(t *testing.T) {
	m := must(t, 256, image(
		addi(1, 0, 0x61), csr(1, 0, 1, 0x105), // 0x00: stvec, with a place for each
		addi(1, 0, 0x200), csr(1, 0, 1, 0x303), // 0x08: SEI is Supervisor's
		csr(1, 0, 1, 0x304), addi(1, 0, 0x50), // 0x10
		csr(1, 0, 1, 0x341), lui(5, 0x2000), // 0x18
		addi(1, 0, 0xFE), sw(1, 5, 0x28), // 0x20: all sources for context 1
		addi(1, 0, 2), sw(1, 5, 0x0C), // 0x28: priority of 3
		addi(1, 0, 5), sw(1, 5, 0x18), // 0x30: priority of 6
		addi(20, 0, 0xC0), wordMret, // 0x38
		none, none, none, none, // 0x40
		addi(10, 10, 1), wordJ(0, 0xFFFFFFFC), // 0x50: User counts
		none, none, // 0x58
		none, none, none, none, none, none, none, none, none, // 0x60
		lw(7, 5, 0x3C), wordS(0, 20, 7, 0), addi(20, 20, 1), // 0x84: the place of SEI
		sw(7, 5, 0x3C), wordSret, // 0x90
	))
	for range 16 {
		m.Step()
	}
	if s := m.Look(); s.Mode != api.User || s.Pc != 0x50 {
		t.Fatalf("P12: the level is %d, pc %#x", s.Mode, s.Pc)
	}
	for range 10 {
		m.Step()
	}
	m.Line(3, true)
	m.Line(6, true)
	m.Line(3, false)
	m.Line(6, false)
	m.Line(2, true) // without a priority
	for range 6 {
		m.Step()
	}
	if s := m.Look(); s.Mode != api.User || s.Pc != 0x50 || s.Regs[10] != 5 || s.Csrs[4] != 0x50 {
		t.Errorf("P12: behind the first: the level is %d, pc %#x, x10 %d, sepc %#x", s.Mode, s.Pc, s.Regs[10], s.Csrs[4])
	}
	for range 6 + 10 {
		m.Step()
	}
	s := m.Look()
	if s.Mode != api.User || s.Pc != 0x50 || s.Regs[10] != 10 || s.Regs[20] != 0xC2 || s.Ram[0xC0:0xC4] != "\x06\x03\x00\x00" {
		t.Errorf("P16: the level is %d, pc %#x, x10 %d, x20 %#x, laid by %q", s.Mode, s.Pc, s.Regs[10], s.Regs[20], s.Ram[0xC0:0xC4])
	}
	if s.Pend != 4 || s.Served != 0 || s.Csrs[8] != 0xA0 || s.Csrs[5] != 0x80000009 || s.Csrs[15] != 0 {
		t.Errorf("P15, P16: pending %#x, in service %#x, mstatus %#x, scause %#x, mcause %#x", s.Pend, s.Served, s.Csrs[8], s.Csrs[5], s.Csrs[15])
	}
}
