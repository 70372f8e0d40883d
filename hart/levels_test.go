package hart

import (
	"fmt"
	"testing"

	"hart/api"
)

func TestExampleOfExceptions(t *testing.T) {
	m := must(t, 8, "")
	want := blank(image(0, 0))
	want.Csrs[slot(0x342)] = 2
	want.Csrs[slot(0x300)] = 0x1800
	steps(t, "P11: all noughts", m, want)
	steps(t, "P11: all noughts, once more", m, want)
	m = must(t, 8, image(0x00000073))
	want = blank(image(0x00000073, 0))
	want.Csrs[slot(0x342)] = 11
	want.Csrs[slot(0x300)] = 0x1800
	steps(t, "P12: Ecall", m, want)
}

// faults: every way to an exception that there is at every level; they stand at
// 8 in a memory of 64 bytes.
var faults = []struct {
	name        string
	w           uint32
	cause, tval uint32
}{
	{"a jump", wordJ(5, 2), api.FetchAlign, 10},
	{"a jump without Rd", wordJ(0, 0xFFFFFFFA), api.FetchAlign, 2},
	{"a jump to a register", jalr(5, 6, 0), api.FetchAlign, 0x80000006},
	{"a jump to its own Rd", jalr(6, 6, 0), api.FetchAlign, 0x80000006},
	{"a jump to a register, bit 0 set", jalr(5, 7, 0), api.FetchAlign, 0x80000006},
	{"Beq", wordB(0, 1, 1, 6), api.FetchAlign, 14},
	{"Bne", wordB(1, 1, 2, 0xFFFFFFFE), api.FetchAlign, 6},
	{"Blt", wordB(4, 1, 2, 0xFFFFFFF6), api.FetchAlign, 0xFFFFFFFE},
	{"Bge", wordB(5, 2, 1, 0x7FE), api.FetchAlign, 0x806},
	{"Bltu", wordB(6, 1, 2, 2), api.FetchAlign, 10},
	{"Bgeu", wordB(7, 2, 1, 2), api.FetchAlign, 10},
	{"noughts", 0, api.Illegal, 0},
	{"ones", none, api.Illegal, none},
	{"no shift", 0x60315093, api.Illegal, 0x60315093},
	{"no control register", csr(2, 5, 0, 0x301), api.Illegal, csr(2, 5, 0, 0x301)},
	{"a write of mhartid", csr(1, 5, 6, 0xF14), api.Illegal, csr(1, 5, 6, 0xF14)},
	{"Ebreak", wordEbreak, api.Breakpoint, 8},
	{"Lb", wordI(0x03, 0, 5, 0, 64), api.LoadFault, 64},
	{"Lh", wordI(0x03, 1, 5, 0, 63), api.LoadFault, 63},
	{"Lw", wordI(0x03, 2, 5, 0, 61), api.LoadFault, 61},
	{"Lw over the highest address", wordI(0x03, 2, 5, 0, 0xFFFFFFFE), api.LoadFault, 0xFFFFFFFE},
	{"Lbu", wordI(0x03, 4, 5, 6, 0), api.LoadFault, 0x80000006},
	{"Lhu", wordI(0x03, 5, 0, 0, 0xFFFFFFFF), api.LoadFault, 0xFFFFFFFF},
	{"Sb", wordS(0, 0, 5, 64), api.StoreFault, 64},
	{"Sh", wordS(1, 0, 5, 63), api.StoreFault, 63},
	{"Sh over the highest address", wordS(1, 0, 5, 0xFFFFFFFF), api.StoreFault, 0xFFFFFFFF},
	{"Sw", wordS(2, 0, 5, 61), api.StoreFault, 61},
	{"Sw far off", wordS(2, 6, 5, 0), api.StoreFault, 0x80000006},
}

// P6, P7, P8, P11: each exception at each level, with its bit in medeleg set
// and not, alone and among the others.
func TestExceptionsAtEachLevel(t *testing.T) {
	for _, c := range faults {
		for _, level := range levels {
			for _, deleg := range []uint32{0, 0x3AF, 1 << c.cause, 0x3AF - 1<<c.cause} {
				m := busyAt(t, level, c.w)
				m.csr.medeleg = deleg
				traps(t, fmt.Sprintf("P11: %s at level %d, medeleg %#x", c.name, level, deleg), m, c.cause, c.tval)
			}
		}
	}
}

// P6: a fetch where there is no whole word, at each level.
func TestFetchFaultAtEachLevel(t *testing.T) {
	for _, pc := range []uint32{64, 68, 0x1000, 0x7FFFFFFC, 0x80000000, 0xFFFFFFFC} {
		for _, level := range levels {
			for _, deleg := range []uint32{0, 0x3AF, 2, 0x3AD} {
				m := busyAt(t, level, 0)
				m.pc = pc
				m.csr.medeleg = deleg
				traps(t, fmt.Sprintf("P6: a fetch at %#x, level %d, medeleg %#x", pc, level, deleg), m, api.FetchFault, pc)
			}
		}
	}
}

// P12: Ecall tells by its cause who calls.
func TestEcallAtEachLevel(t *testing.T) {
	for level, cause := range map[int]uint32{api.User: 8, api.Supervisor: 9, api.Machine: 11} {
		for _, deleg := range []uint32{0, 0x3AF, 0x100, 0x200, 0x0AF} {
			m := busyAt(t, level, wordEcall)
			m.csr.medeleg = deleg
			traps(t, fmt.Sprintf("P12: Ecall at level %d, medeleg %#x", level, deleg), m, cause, 0)
		}
	}
}

// statuses: mstatus in every way, but for MPP 2, which there is not.
func statuses() []uint32 {
	var all []uint32
	for i := range uint32(512) {
		v := i&1<<1 | i>>1&1<<3 | i>>2&1<<5 | i>>3&1<<7 | i>>4&1<<8 | i>>5&3<<11 | i>>7&3<<21
		if v>>11&3 != 2 {
			all = append(all, v)
		}
	}
	return all
}

// P11: what becomes of mstatus, and that no other bit of it is changed.
func TestStatusBehindAnException(t *testing.T) {
	for _, status := range statuses() {
		for _, level := range levels {
			for _, deleg := range []uint32{0, 8} {
				m := busyAt(t, level, wordEbreak)
				m.csr.mstatus = status
				m.csr.medeleg = deleg
				traps(t, fmt.Sprintf("P11: mstatus %#x, level %d", status, level), m, api.Breakpoint, 8)
			}
		}
	}
}

// P11: the same in numbers.
func TestStatusInNumbers(t *testing.T) {
	for _, c := range []struct {
		level      int
		deleg      uint32
		was, is    uint32
		mode, slot int
	}{
		{api.Machine, 8, 0x000008, 0x001880, 3, 14},
		{api.Machine, 8, 0x601988, 0x601980, 3, 14},
		{api.Machine, 0, 0x000080, 0x001800, 3, 14},
		{api.Machine, 8, 0x000122, 0x001922, 3, 14},
		{api.Supervisor, 0, 0x001008 | 0x800, 0x000880, 3, 14},
		{api.Supervisor, 0, 0x000000, 0x000800, 3, 14},
		{api.User, 0, 0x0019AA, 0x0001A2, 3, 14},
		{api.User, 0, 0x001800, 0x000000, 3, 14},
		{api.Supervisor, 8, 0x000002, 0x000120, 1, 4},
		{api.Supervisor, 8, 0x6018A8, 0x601988, 1, 4},
		{api.User, 8, 0x000102, 0x000020, 1, 4},
		{api.User, 8, 0x6019A8, 0x601888, 1, 4},
		{api.User, 0xA7, 0x000122, 0x000122, 3, 14},
	} {
		m := busyAt(t, c.level, wordEbreak)
		m.csr.mstatus = c.was
		m.csr.medeleg = c.deleg
		m.Step()
		s := m.Look()
		if s.Csrs[8] != c.is || s.Csrs[0] != c.is&0x122 || s.Mode != c.mode || s.Csrs[c.slot] != 8 || s.Csrs[c.slot+1] != 3 || s.Csrs[c.slot+2] != 8 {
			t.Errorf("P11: %+v: Look = %+v", c, s)
		}
	}
}

// P11: bit 0 of mtvec and stvec does not count for an exception.
func TestVectors(t *testing.T) {
	for _, vector := range []uint32{0, 1, 4, 5, 0x30, 0x31, 0x7FFFFFFD, 0x80000000, 0xFFFFFFFC, 0xFFFFFFFD} {
		for _, level := range levels {
			for _, deleg := range []uint32{0, 8} {
				m := busyAt(t, level, wordEbreak)
				m.csr.medeleg = deleg
				m.csr.machine.tvec = vector
				m.csr.super.tvec = vector ^ 0x40
				want := vector &^ 1
				if level != api.Machine && deleg == 8 {
					want ^= 0x40
				}
				traps(t, "P11: a vector", m, api.Breakpoint, 8)
				if m.pc != want {
					t.Errorf("P11: level %d, medeleg %#x: pc is %#x, want %#x", level, deleg, m.pc, want)
				}
			}
		}
	}
}

// P12: Mret, Sret and Wfi (and the other two) at each level, with mstatus in
// every way: TSR and TW, each value of MPP and SPP.
func TestPrivilegedAtEachLevel(t *testing.T) {
	for _, w := range []uint32{wordEcall, wordEbreak, wordMret, wordSret, wordWfi} {
		for _, level := range levels {
			for _, status := range statuses() {
				for _, deleg := range []uint32{0, 4} {
					m := busyAt(t, level, w)
					m.csr.mstatus = status
					m.csr.medeleg = deleg
					want := m.Look()
					privileged(&want, w)
					steps(t, fmt.Sprintf("P12: %#x at level %d, mstatus %#x, medeleg %#x", w, level, status, deleg), m, want)
				}
			}
		}
	}
}

// P12: the same in numbers: who may, and what comes of it.
func TestPrivilegedInNumbers(t *testing.T) {
	const tw, tsr = 1 << 21, 1 << 22
	for _, c := range []struct {
		w       uint32
		level   int
		was, is uint32
		mode    int
		pc      uint32
	}{
		{wordMret, 3, 0x0080, 0x0088, 0, 0x104},
		{wordMret, 3, 0x0808, 0x0080, 1, 0x104},
		{wordMret, 3, 0x1888, 0x0088, 3, 0x104},
		{wordMret, 3, 0x1922 | tw | tsr, 0x01A2 | tw | tsr, 3, 0x104},
		{wordMret, 1, 0x1800, 0x0800, 3, 0x100},
		{wordMret, 0, 0x1800, 0x0000, 3, 0x100},
		{wordSret, 3, 0x0020, 0x0022, 0, 0x204},
		{wordSret, 3, 0x0102 | tsr, 0x0020 | tsr, 1, 0x204},
		{wordSret, 3, 0x19AA, 0x18AA, 1, 0x204},
		{wordSret, 1, 0x0100, 0x0020, 1, 0x204},
		{wordSret, 1, 0x0022 | tw, 0x0022 | tw, 0, 0x204},
		{wordSret, 1, 0x0002 | tsr, 0x0802 | tsr, 3, 0x100},
		{wordSret, 0, 0x0100, 0x0100, 3, 0x100},
		{wordWfi, 3, 0x1888 | tw | tsr, 0x1888 | tw | tsr, 3, 12},
		{wordWfi, 1, 0x0102 | tsr, 0x0102 | tsr, 1, 12},
		{wordWfi, 1, 0x0000 | tw, 0x0800 | tw, 3, 0x100},
		{wordWfi, 0, 0x0000, 0x0000, 3, 0x100},
	} {
		m := busyAt(t, c.level, c.w)
		m.csr.mstatus = c.was
		m.csr.medeleg = 0
		m.Step()
		s := m.Look()
		if s.Csrs[8] != c.is || s.Mode != c.mode || s.Pc != c.pc || s.Asleep != (c.pc == 12) {
			t.Errorf("P12: %+v: mstatus is %#x, the level %d, pc %#x, asleep %v", c, s.Csrs[8], s.Mode, s.Pc, s.Asleep)
		}
		if c.pc == 0x100 && (s.Csrs[15] != 2 || s.Csrs[16] != c.w || s.Csrs[14] != 8) {
			t.Errorf("P12: %+v: mcause is %d, mtval %#x, mepc %#x", c, s.Csrs[15], s.Csrs[16], s.Csrs[14])
		}
	}
}

// P12: a return may lead anywhere; where there is nothing to fetch, the next
// step tells, at the level that it has led to.
func TestReturnToNowhere(t *testing.T) {
	for _, w := range []uint32{wordMret, wordSret} {
		for _, pc := range []uint32{64, 0xFFFFFFFC} {
			m := busyAt(t, api.Machine, w)
			m.csr.machine.epc = pc
			m.csr.super.epc = pc
			m.csr.mstatus = 0
			want := m.Look()
			returned(&want, w)
			steps(t, "P12: a return to nowhere", m, want)
			if m.pc != pc || m.level != api.User {
				t.Errorf("P12: pc is %#x, the level %d", m.pc, m.level)
			}
			traps(t, "P6: a fetch behind a return", m, api.FetchFault, pc)
		}
	}
}

// asleep gives a computer that sleeps, with an Addi next. At level Machine with
// MIE 0 it takes no interrupt.
func asleep(t *testing.T, mip, mie uint32) *Hart {
	t.Helper()
	m := must(t, 64, image(wordWfi, addi(1, 1, 1), addi(1, 1, 1), wordWfi))
	m.csr.mie = mie
	m.csr.written = mip & 0x22
	m.clock.Msip = mip >> api.MSI & 1
	if mip>>api.MTI&1 == 1 {
		m.clock.Mtime = 0xFFFFFFFF
	}
	for c, i := range []int{api.MEI, api.SEI} {
		if mip>>i&1 == 1 {
			pend(m, c)
		}
	}
	want := m.Look()
	if want.Csrs[17] != mip {
		t.Fatalf("mip is %#x, want %#x", want.Csrs[17], mip)
	}
	want.Pc = 4
	want.Asleep = true
	steps(t, "P12: Wfi", m, want)
	return m
}

// P6, P12: Wfi sleeps whatever is pending; the next step wakes, if a bit is set
// in both mip and mie, and does the instruction.
func TestSleep(t *testing.T) {
	bits := []uint32{0, 0x002, 0x008, 0x020, 0x080, 0x200, 0x800, 0xAAA}
	for _, mip := range bits {
		for _, mie := range bits {
			m := asleep(t, mip, mie)
			want := m.Look()
			if mip&mie == 0 {
				for range 3 {
					steps(t, "P6: asleep", m, want)
				}
				continue
			}
			want.Asleep = false
			want.Regs[1] = 1
			want.Pc = 8
			steps(t, "P6: awake", m, want)
			gives(t, "P6: awake and going on", m, 1, 2)
			want = m.Look()
			want.Asleep = true
			want.Pc = 16
			steps(t, "P12: asleep once more", m, want)
		}
	}
}

// P6: one that sleeps wakes once there is something to wake for.
func TestWakeLater(t *testing.T) {
	m := asleep(t, 0, 0x008)
	want := m.Look()
	steps(t, "P6: asleep", m, want)
	m.clock.Msip = 1
	want = m.Look()
	if !want.Asleep {
		t.Fatalf("P6: it is awake ahead of the step")
	}
	want.Asleep = false
	want.Regs[1] = 1
	want.Pc = 8
	steps(t, "P6: awake", m, want)
}

// P11: an exception behind a waking is as any other.
func TestExceptionBehindSleep(t *testing.T) {
	m := asleep(t, 0x008, 0x008)
	place(m, 4, wordEbreak)
	want := m.Look()
	want.Asleep = false
	trapped(&want, api.Breakpoint, 4)
	steps(t, "P6: Ebreak behind Wfi", m, want)
}

// A program goes down from Machine over Supervisor to User, is called from
// there, and gives back; what Supervisor may not, comes to Machine.
func TestDownAndUp(t *testing.T) {
	m := must(t, 128, image(
		addi(1, 0, 0x40), csr(1, 0, 1, 0x105), // 0x00: stvec
		addi(1, 0, 0x60), csr(1, 0, 1, 0x305), // 0x08: mtvec
		addi(1, 0, 0x100), csr(1, 0, 1, 0x302), // 0x10: User's calls go to Supervisor
		addi(1, 0, 0x30), csr(1, 0, 1, 0x341), // 0x18: mepc
		addi(1, 0, 1), wordI(0x13, 1, 1, 1, 11), // 0x20: MPP is Supervisor
		csr(1, 0, 1, 0x300), wordMret, // 0x28
		csr(5, 0, 0, 0x141), csr(6, 0, 2, 0x100), // 0x30: sepc, SIE
		wordSret, none, // 0x38
		csr(2, 2, 0, 0x141), addi(2, 2, 4), // 0x40: on behind the call
		csr(1, 0, 2, 0x141), csr(5, 0, 0, 0x340), // 0x48: the second is not Supervisor's
		none, none, none, none, // 0x50
		csr(2, 5, 0, 0x342), csr(2, 6, 0, 0x343), wordJ(0, 0), // 0x60
	))
	for range 15 {
		m.Step()
	}
	if s := m.Look(); s.Mode != api.User || s.Pc != 0 || s.Csrs[8] != 0xA0 {
		t.Fatalf("P12: down in User: Look = %+v", s)
	}
	place(m, 0, wordEcall)
	m.Step()
	if s := m.Look(); s.Mode != api.Supervisor || s.Pc != 0x40 || s.Csrs[5] != api.CallUser || s.Csrs[8] != 0x80 {
		t.Fatalf("P11: called from User: Look = %+v", s)
	}
	for range 7 {
		m.Step()
	}
	s := m.Look()
	if s.Mode != api.Machine || s.Pc != 0x68 || s.Regs[2] != 4 || s.Csrs[4] != 4 || s.Csrs[14] != 0x4C || s.Regs[5] != api.Illegal || s.Regs[6] != csr(5, 0, 0, 0x340) || s.Csrs[8] != 0x800 {
		t.Errorf("P11: up in Machine: Look = %+v", s)
	}
}

// P1, P2: instructions of P10 and P12 one behind the other, as they come, at
// whatever level they lead to, each held against what the document says.
func TestScatteredSystem(t *testing.T) {
	seed := uint32(7)
	draw := func(n uint32) uint32 {
		seed = seed*1664525 + 1013904223
		return (seed >> 8) % n
	}
	words := []uint32{wordEcall, wordEbreak, wordMret, wordSret}
	for range 300 {
		m := busyAt(t, levels[draw(3)], 0)
		for range 100 {
			m.pc = draw(16) * 4
			m.regs[draw(31)+1] = seed
			want := m.Look()
			if draw(4) == 0 {
				w := words[draw(4)]
				place(m, m.pc, w)
				want = m.Look()
				privileged(&want, w)
			} else {
				f3 := []uint32{1, 2, 3, 5, 6, 7}[draw(6)]
				n := numbers[draw(19)]
				if n == 0x304 || n == 0x104 {
					n = 0x300 // mie stays as it is, so that no interrupt is taken
				}
				rd, rs1 := draw(32), draw(32)
				place(m, m.pc, csr(f3, rd, rs1, n))
				want = m.Look()
				accessed(&want, f3, rd, rs1, n)
			}
			m.csr.mie &^= m.mip()
			put(&want, 0x304, m.csr.mie)
			steps(t, "P10, P12: scattered", m, want)
			if t.Failed() {
				return
			}
		}
	}
}
