package hart

import (
	"testing"

	"hart/api"
)

// edges: words at the ends of what they stand for, as they are and as signed,
// and numbers of bits to shift by.
var edges = []uint32{0, 1, 4, 31, 32, 33, 0x12345678, 0x7FFFFFFF, 0x80000000, 0x80000001, 0xFFFFFFE4, 0xFFFFFFFF}

func signed(w uint32) int64 {
	if w >= 1<<31 {
		return int64(w) - 1<<32
	}
	return int64(w)
}

func number(yes bool) uint32 {
	if yes {
		return 1
	}
	return 0
}

// power gives 2^(n modulo 32).
func power(n uint32) int64 {
	p := int64(1)
	for range n % 32 {
		p *= 2
	}
	return p
}

// down divides n by p, and takes the number below, if that is no whole one.
func down(n, p int64) uint32 {
	q := n / p
	if n%p < 0 {
		q--
	}
	return uint32(q)
}

// A sum is what an instruction of P7 makes of two words, told by numbers of 64
// bits, with the F3 and F7 that it is chosen by.
type sum struct {
	name   string
	f3, f7 uint32
	want   func(a, b uint32) uint32
}

var registerSums = []sum{
	{"Add", 0, 0, func(a, b uint32) uint32 { return uint32(int64(a) + int64(b)) }},
	{"Sub", 0, 0x20, func(a, b uint32) uint32 { return uint32(1<<32 + int64(a) - int64(b)) }},
	{"Sll", 1, 0, func(a, b uint32) uint32 { return uint32(int64(a) * power(b)) }},
	{"Slt", 2, 0, func(a, b uint32) uint32 { return number(signed(a) < signed(b)) }},
	{"Sltu", 3, 0, func(a, b uint32) uint32 { return number(int64(a) < int64(b)) }},
	{"Xor", 4, 0, func(a, b uint32) uint32 { return (a | b) - (a & b) }},
	{"Srl", 5, 0, func(a, b uint32) uint32 { return down(int64(a), power(b)) }},
	{"Sra", 5, 0x20, func(a, b uint32) uint32 { return down(signed(a), power(b)) }},
	{"Or", 6, 0, func(a, b uint32) uint32 { return ^(^a & ^b) }},
	{"And", 7, 0, func(a, b uint32) uint32 { return ^(^a | ^b) }},
}

func TestSumsOfRegisters(t *testing.T) {
	for _, c := range registerSums {
		for _, a := range edges {
			for _, b := range edges {
				m := busy(t, 64, 8, wordR(c.f3, c.f7, 3, 1, 2))
				m.regs[1] = a
				m.regs[2] = b
				gives(t, "P7: "+c.name, m, 3, c.want(a, b))
			}
		}
	}
}

// Rd may be Rs1 or Rs2 or both, or x0; so may Rs1 and Rs2, and x0 is 0 there.
func TestSumsOverTheirOwnRegisters(t *testing.T) {
	for _, c := range registerSums {
		for _, r := range [][3]uint32{{1, 1, 2}, {2, 1, 2}, {1, 1, 1}, {3, 1, 1}, {0, 1, 2}, {0, 0, 0}, {3, 0, 2}, {3, 1, 0}, {31, 30, 29}, {15, 16, 17}, {16, 31, 1}} {
			for _, a := range edges {
				m := busy(t, 64, 8, wordR(c.f3, c.f7, r[0], r[1], r[2]))
				m.regs[r[2]] = 0x80000003
				m.regs[r[1]] = a
				m.regs[0] = 0
				gives(t, "P7: "+c.name, m, r[0], c.want(m.regs[r[1]], m.regs[r[2]]))
			}
		}
	}
}

// Every register can be each of the three, and is that one alone.
func TestEveryRegister(t *testing.T) {
	for r := range uint32(32) {
		m := busy(t, 64, 8, wordR(0, 0, r, 1, 2))
		gives(t, "P7: as Rd", m, r, 3)
		m = busy(t, 64, 8, wordR(0, 0, 9, r, 0))
		gives(t, "P7: as Rs1", m, 9, m.regs[r])
		m = busy(t, 64, 8, wordR(0, 0, 9, 0, r))
		gives(t, "P7: as Rs2", m, 9, m.regs[r])
	}
}

var immediateSums = []sum{
	{"Addi", 0, 0, registerSums[0].want}, {"Slti", 2, 0, registerSums[3].want}, {"Sltiu", 3, 0, registerSums[4].want},
	{"Xori", 4, 0, registerSums[5].want}, {"Ori", 6, 0, registerSums[8].want}, {"Andi", 7, 0, registerSums[9].want},
}

func TestSumsWithImmediates(t *testing.T) {
	for _, c := range immediateSums {
		for _, a := range append([]uint32{0x7FF, 0x800, 0xFFFFF7FF, 0xFFFFF800}, edges...) {
			for _, imm := range []uint32{0, 1, 2, 0x7FE, 0x7FF, 0xFFFFF800, 0xFFFFF801, 0xFFFFFFFE, 0xFFFFFFFF} {
				for _, r := range [][2]uint32{{3, 1}, {1, 1}, {0, 1}, {3, 0}} {
					m := busy(t, 64, 8, wordI(0x13, c.f3, r[0], r[1], imm))
					m.regs[1] = a
					gives(t, "P7: "+c.name, m, r[0], c.want(m.regs[r[1]], imm))
				}
			}
		}
	}
}

var shiftSums = []sum{
	{"Slli", 1, 0, registerSums[2].want}, {"Srli", 5, 0, registerSums[6].want}, {"Srai", 5, 0x20, registerSums[7].want},
}

func TestShiftsByImmediates(t *testing.T) {
	for _, c := range shiftSums {
		for _, a := range edges {
			for n := range uint32(32) {
				for _, r := range [][2]uint32{{3, 1}, {1, 1}, {0, 1}, {3, 0}} {
					m := busy(t, 64, 8, wordI(0x13, c.f3, r[0], r[1], c.f7<<5|n))
					m.regs[1] = a
					gives(t, "P7: "+c.name, m, r[0], c.want(m.regs[r[1]], n))
				}
			}
		}
	}
}

func TestLui(t *testing.T) {
	for _, imm := range []uint32{0, 0x1000, 0x12345000, 0x7FFFF000, 0x80000000, 0xFFFFF000} {
		for _, rd := range []uint32{0, 1, 31} {
			gives(t, "P7: Lui", busy(t, 64, 8, imm|rd<<7|0x37), rd, imm)
		}
	}
}

// Auipc counts from the instruction's own address, and wraps.
func TestAuipc(t *testing.T) {
	for _, imm := range []uint32{0, 0x1000, 0x12345000, 0x7FFFF000, 0x80000000, 0xFFFFF000} {
		for _, pc := range []uint32{0, 4, 60, 508} {
			for _, rd := range []uint32{0, 1, 31} {
				gives(t, "P7: Auipc", busy(t, 512, pc, imm|rd<<7|0x17), rd, uint32(int64(imm)+int64(pc)))
			}
		}
	}
}

// Answers by hand, through programs that make their own numbers, so that not
// all hangs on how the other tests set registers.
func TestSumsByHand(t *testing.T) {
	m := must(t, 64, image(
		addi(1, 0, 0xFFF),             // x1 = 2^32 - 1
		addi(1, 1, 1),                 // x1 = 0
		wordR(0, 0x20, 2, 1, 0),       // x2 = 0
		addi(2, 2, 0x800),             // x2 = -2048
		wordI(0x13, 5, 3, 2, 0x400|4), // x3 = -128
		wordI(0x13, 5, 4, 2, 20),      // x4 = 0xFFF
		0x80000000|5<<7|0x37,          // x5 = 2^31
		wordR(2, 0, 6, 5, 4),          // x6 = 1
		wordR(3, 0, 7, 5, 4),          // x7 = 0
		wordR(0, 0, 8, 5, 5),          // x8 = 0
		wordR(1, 0, 9, 4, 2),          // x9 = 0xFFF
		addi(0, 0, 5),                 // lost
		wordR(0, 0, 10, 0, 0),         // x10 = 0
		wordI(0x13, 3, 11, 0, 0xFFF),  // x11 = 1
		0xFFFFF000|12<<7|0x17,         // x12 = 56 - 4096
	))
	for range 15 {
		m.Step()
	}
	want := blank(m.Look().Ram)
	want.Pc = 60
	for i, v := range []uint32{0, 0, 0xFFFFF800, 0xFFFFFF80, 0xFFF, 0x80000000, 1, 0, 0, 0xFFF, 0, 1, 0xFFFFF038} {
		want.Regs[i] = v
	}
	same(t, "P7: by hand", m.Look(), want)
}

// The level is not asked for by these instructions.
func TestSumsAtEveryLevel(t *testing.T) {
	for _, level := range []int{api.User, api.Supervisor, api.Machine} {
		m := must(t, 64, image(addi(1, 0, 5), wordS(2, 0, 1, 32), wordI(0x03, 2, 2, 0, 32), wordJ(3, 0xFFFFFFF4)))
		m.level = level
		gives(t, "P7: Addi", m, 1, 5)
		m.Step()
		gives(t, "P8: Lw", m, 2, 5)
		m.Step()
		if s := m.Look(); s.Pc != 0 || s.Mode != level || s.Regs[3] != 16 {
			t.Errorf("P7: Jal at level %d: pc %#x, level %d, x3 %d", level, s.Pc, s.Mode, s.Regs[3])
		}
	}
}
