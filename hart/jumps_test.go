package hart

import (
	"testing"

	"hart/api"
)

// goes does one step of which pc becomes target and, if rd is not 0, rd back.
func goes(t *testing.T, what string, m *Hart, target, rd, back uint32) {
	t.Helper()
	want := m.Look()
	want.Pc = target
	if rd != 0 {
		want.Regs[rd] = back
	}
	steps(t, what, m, want)
}

// sum32 adds modulo 2^32.
func sum32(a, b uint32) uint32 {
	return uint32((uint64(a) + uint64(b)) % (1 << 32))
}

// Forward, backward, to itself, to addresses where nothing stands and over the
// ends of the numbers.
func TestJal(t *testing.T) {
	for _, imm := range []uint32{0, 4, 8, 60, 0x7FC, 0x800, 0xFFC, 0x1000, 0xFFFFC, 0xFFFFFFFC, 0xFFFFFFF8, 0xFFFFF800, 0xFFFFF000, 0xFFF00000} {
		for _, pc := range []uint32{0, 4, 256, 508} {
			for _, rd := range []uint32{0, 1, 31} {
				m := busy(t, 512, pc, wordJ(rd, imm))
				goes(t, "P7: Jal", m, sum32(pc, imm), rd, pc+4)
			}
		}
	}
}

func TestJalr(t *testing.T) {
	for _, c := range []struct{ rs1, imm, want uint32 }{
		{0, 0, 0}, {32, 0, 32}, {32, 4, 36}, {32, 0xFFFFFFFC, 28}, {0, 0xFFFFFFFC, 0xFFFFFFFC}, {0xFFFFFFFC, 4, 0}, {0xFFFFFFFC, 8, 4},
		{13, 0xFFFFFFFF, 12}, {13, 0, 12}, {12, 1, 12}, {0xFFFFFFFF, 2, 0}, {0xFFFFFFFF, 0xFFFFFFFE, 0xFFFFFFFC}, {0x80000001, 0xFFFFF800, 0x7FFFF800},
		{0x7FFFFFFC, 0x7FC, 0x800007F8}, {60, 0x7FF - 2, 60 + 0x7FC}, {8, 0, 8},
	} {
		for _, r := range [][2]uint32{{5, 1}, {0, 1}, {1, 1}, {31, 31}} {
			m := busy(t, 64, 8, jalr(r[0], r[1], c.imm))
			m.regs[r[1]] = c.rs1
			goes(t, "P7: Jalr", m, c.want, r[0], 12)
		}
	}
	m := busy(t, 64, 8, jalr(5, 0, 0x7FC))
	goes(t, "P7: Jalr from x0", m, 0x7FC, 5, 12)
}

var branchTests = []struct {
	name string
	f3   uint32
	want func(a, b uint32) bool
}{
	{"Beq", 0, func(a, b uint32) bool { return a^b == 0 }},
	{"Bne", 1, func(a, b uint32) bool { return a^b != 0 }},
	{"Blt", 4, func(a, b uint32) bool { return signed(a)-signed(b) < 0 }},
	{"Bge", 5, func(a, b uint32) bool { return signed(a)-signed(b) >= 0 }},
	{"Bltu", 6, func(a, b uint32) bool { return int64(a)-int64(b) < 0 }},
	{"Bgeu", 7, func(a, b uint32) bool { return int64(a)-int64(b) >= 0 }},
}

// Each branch at each pair of edges, forward and backward.
func TestBranches(t *testing.T) {
	for _, c := range branchTests {
		for _, a := range edges {
			for _, b := range edges {
				for _, imm := range []uint32{8, 0xFFFFFFF8} {
					m := busy(t, 64, 16, wordB(c.f3, 1, 2, imm))
					m.regs[1] = a
					m.regs[2] = b
					target := uint32(20)
					if c.want(a, b) {
						target = sum32(16, imm)
					}
					goes(t, "P7: "+c.name, m, target, 0, 0)
				}
			}
		}
	}
}

// A register may be compared with itself and with x0.
func TestBranchesOnTheSameRegister(t *testing.T) {
	for _, c := range branchTests {
		for _, r := range [][2]uint32{{1, 1}, {0, 0}, {1, 0}, {0, 1}, {31, 30}} {
			m := busy(t, 64, 16, wordB(c.f3, r[0], r[1], 12))
			target := uint32(20)
			if c.want(m.regs[r[0]], m.regs[r[1]]) {
				target = 28
			}
			goes(t, "P7: "+c.name, m, target, 0, 0)
		}
	}
}

func TestReachOfBranches(t *testing.T) {
	for _, imm := range []uint32{0, 4, 60, 0x7FC, 0x800, 0xFFC, 0xFFFFFFFC, 0xFFFFF800, 0xFFFFF000} {
		for _, pc := range []uint32{0, 4, 256, 508} {
			goes(t, "P7: Beq", busy(t, 512, pc, wordB(0, 3, 3, imm)), sum32(pc, imm), 0, 0)
			goes(t, "P7: Bne", busy(t, 512, pc, wordB(1, 3, 3, imm)), pc+4, 0, 0)
		}
	}
}

// odd: what is left of a target divided by 4, where that is not 0: bit 0 is always 0.
const odd = 2

// P7: pc never becomes what is no multiple of 4, and Rd stays as it was then.
func TestTargetsThatAreNoMultiple(t *testing.T) {
	for _, imm := range []uint32{odd, 4 + odd, 0xFFFFFFFC + odd, 0xFFFFF000 + odd} {
		for _, w := range []uint32{wordJ(5, imm), wordJ(0, imm), wordB(0, 1, 1, imm)} {
			traps(t, "P7: no multiple of 4", busy(t, 64, 16, w), api.FetchAlign, sum32(16, imm))
		}
	}
	for _, rs1 := range []uint32{2, 3, 34, 35, 0xFFFFFFFE, 0xFFFFFFFF} {
		for _, rd := range []uint32{0, 1, 5} {
			m := busy(t, 64, 16, jalr(rd, 1, 0))
			m.regs[1] = rs1
			traps(t, "P7: no multiple of 4", m, api.FetchAlign, rs1/2*2)
		}
	}
}

// P7: of the branches those alone are exceptions that are taken.
func TestBranchesToNoMultiple(t *testing.T) {
	for _, c := range branchTests {
		for _, r := range [][2]uint32{{1, 1}, {1, 2}, {2, 1}, {0, 1}, {1, 0}} {
			m := busy(t, 64, 16, wordB(c.f3, r[0], r[1], odd))
			if c.want(m.regs[r[0]], m.regs[r[1]]) {
				traps(t, "P7: "+c.name, m, api.FetchAlign, 16+odd)
			} else {
				goes(t, "P7: "+c.name, m, 20, 0, 0)
			}
		}
	}
}

// P7: the target of a branch that is not taken may be any.
func TestBranchNotTakenToNoMultiple(t *testing.T) {
	for _, imm := range []uint32{odd, 0xFFFFFFFC + odd} {
		goes(t, "P7: Bne", busy(t, 64, 16, wordB(1, 1, 1, imm)), 20, 0, 0)
	}
}
