package hart

import (
	"strings"
	"testing"

	"hart/api"
)

// The words of instructions, from their fields.

func wordR(f3, f7, rd, rs1, rs2 uint32) uint32 {
	return f7<<25 | rs2<<20 | rs1<<15 | f3<<12 | rd<<7 | 0x33
}

func wordI(opcode, f3, rd, rs1, imm uint32) uint32 {
	return imm<<20 | rs1<<15 | f3<<12 | rd<<7 | opcode
}

func wordS(f3, rs1, rs2, imm uint32) uint32 {
	return imm>>5<<25 | rs2<<20 | rs1<<15 | f3<<12 | imm&31<<7 | 0x23
}

func wordB(f3, rs1, rs2, imm uint32) uint32 {
	return imm>>12<<31 | imm>>5&63<<25 | rs2<<20 | rs1<<15 | f3<<12 | imm>>1&15<<8 | imm>>11&1<<7 | 0x63
}

func wordJ(rd, imm uint32) uint32 {
	return imm>>20<<31 | imm>>1&1023<<21 | imm>>11&1<<20 | imm>>12&255<<12 | rd<<7 | 0x6F
}

func addi(rd, rs1, imm uint32) uint32 { return wordI(0x13, 0, rd, rs1, imm) }
func jalr(rd, rs1, imm uint32) uint32 { return wordI(0x67, 0, rd, rs1, imm) }

// none: a word that is no instruction.
const none = 0xFFFFFFFF

// image lays words one behind the other, the low byte first.
func image(words ...uint32) string {
	var b []byte
	for _, w := range words {
		b = append(b, byte(w), byte(w>>8), byte(w>>16), byte(w>>24))
	}
	return string(b)
}

// place lays the word w at address a.
func place(m *Hart, a, w uint32) {
	copy(m.ram[a:a+4], image(w))
}

// busy gives a computer in which every part has a value of its own, the bytes
// of the memory too, and the instruction w stands at pc. It is awake, and at
// level Machine with MIE 0, so that no interrupt is taken, whatever is pending.
func busy(t *testing.T, size int, pc, w uint32) *Hart {
	t.Helper()
	m := must(t, size, "")
	fill(m)
	m.level = api.Machine
	m.asleep = false
	for i := range m.ram {
		m.ram[i] = byte(i*37 + 129)
	}
	m.pc = pc
	place(m, pc, w)
	return m
}

// steps does one step and looks whether want alone has come of it.
func steps(t *testing.T, what string, m *Hart, want api.State) {
	t.Helper()
	m.Step()
	same(t, what, m.Look(), want)
}

// gives does one step of which rd becomes v and pc the next; nothing else.
func gives(t *testing.T, what string, m *Hart, rd, v uint32) {
	t.Helper()
	want := m.Look()
	want.Pc += 4
	if rd != 0 {
		want.Regs[rd] = v
	}
	steps(t, what, m, want)
}

func TestExampleOfSteps(t *testing.T) {
	ram := image(0x00500093, 0x00108133, 0x402000B3, 0x0000006F)
	m := must(t, 16, ram)
	want := blank(ram)
	want.Regs[1] = 5
	want.Pc = 4
	steps(t, "P6: one step", m, want)
	want.Regs[2] = 10
	want.Pc = 8
	steps(t, "P6: two steps", m, want)
	want.Regs[1] = 0xFFFFFFF6
	want.Pc = 12
	for range 5 {
		steps(t, "P6: three steps and more", m, want)
	}
}

// The other example of a load: that of the instruction itself.
func TestExampleOfLoad(t *testing.T) {
	m := must(t, 8, image(0x0000A103))
	gives(t, "P8: the example", m, 2, 0x0000A103)
}

// P6: the instruction is the one at pc, wherever that is, the memory's last
// word with it; the low byte of it goes first.
func TestFetchAtEveryPlace(t *testing.T) {
	for _, size := range []int{4, 8, 64, 512} {
		for pc := 0; pc < size; pc += 4 {
			m := busy(t, size, uint32(pc), addi(1, 0, uint32(pc)))
			gives(t, "P6: Addi", m, 1, uint32(pc))
		}
	}
}

// P6: a branch, a jump, a load and a store do as well in the last word.
func TestLastWord(t *testing.T) {
	m := busy(t, 64, 60, wordJ(5, 0xFFFFFFC4))
	want := m.Look()
	want.Pc = 0
	want.Regs[5] = 64
	steps(t, "P6: Jal", m, want)
	m = busy(t, 64, 60, wordB(0, 1, 1, 0xFFFFFFF8))
	want = m.Look()
	want.Pc = 52
	steps(t, "P6: Beq", m, want)
	m = busy(t, 64, 60, wordI(0x03, 2, 5, 0, 60))
	gives(t, "P6: Lw", m, 5, wordI(0x03, 2, 5, 0, 60))
	m = busy(t, 64, 60, wordS(2, 0, 5, 60))
	want = m.Look()
	want.Pc = 64
	want.Ram = want.Ram[:60] + image(m.regs[5])
	steps(t, "P6: Sw", m, want)
}

// P6: where there is no whole word at pc, nothing is fetched.
func TestFetchBesideTheMemory(t *testing.T) {
	for _, size := range []int{4, 8, 512} {
		for _, pc := range []uint32{uint32(size), uint32(size) + 4, 0x1000, 0x2034, 0x7FFFFFFC, 0x80000000, 0xFFFFFFFC} {
			m := busy(t, size, 0, addi(1, 1, 1))
			m.pc = pc
			traps(t, "P6: beside the memory", m, api.FetchFault, pc)
		}
	}
	m := must(t, 4, image(addi(1, 1, 1)))
	gives(t, "P6: in a memory of one word", m, 1, 1)
	traps(t, "P6: behind a memory of one word", m, api.FetchFault, 4)
}

// P6: a word that is no instruction does none.
func TestNoInstruction(t *testing.T) {
	for _, w := range []uint32{0, none, 0x60315093, 0x0000100F, 0x00002067, 0x02001013, 0x00003003, 0x00003023, 0x00002063, 0x02000033, 0x20000033} {
		traps(t, "P6: no instruction", busy(t, 64, 8, w), api.Illegal, w)
	}
}

// P7: whatever the other bits of Fence are, it does nothing.
func TestFence(t *testing.T) {
	for _, w := range []uint32{0x0000000F, 0x0FF0000F, 0xFFFF8F8F, 0x8330000F} {
		gives(t, "P7: Fence", busy(t, 64, 8, w), 0, 0)
	}
}

// P6: one step is one instruction, and what was stored is what is fetched.
func TestStoredInstruction(t *testing.T) {
	fresh := addi(7, 0, 77)
	m := busy(t, 64, 0, wordS(2, 0, 3, 4))
	place(m, 4, none)
	m.regs[3] = fresh
	m.Step()
	gives(t, "P6: behind the store", m, 7, 77)
	m = busy(t, 64, 0, wordS(2, 0, 3, 0))
	m.regs[3] = fresh
	m.Step()
	if m.pc != 4 {
		t.Fatalf("P8: a store over itself: pc is %#x, want 4", m.pc)
	}
	m.pc = 0
	gives(t, "P6: a store over itself", m, 7, 77)
}

// A loop with a branch backward: the sum of 1 to 10.
func TestLoop(t *testing.T) {
	m := must(t, 64, image(
		addi(1, 0, 10),
		wordR(0, 0, 2, 2, 1),
		addi(1, 1, 0xFFF),
		wordB(1, 1, 0, 0xFFFFFFF8),
		wordS(2, 0, 2, 60),
		wordJ(0, 0),
	))
	for range 1 + 3*10 + 2 {
		m.Step()
	}
	want := blank(m.Look().Ram[:60] + "\x37\x00\x00\x00")
	want.Regs[2] = 55
	want.Pc = 20
	same(t, "P7: a loop", m.Look(), want)
}

// A call and its return, twice: each adds the byte at x10 and goes on to the next.
func TestCall(t *testing.T) {
	m := must(t, 64, image(
		addi(10, 0, 48),
		wordJ(1, 12),
		wordJ(1, 8),
		wordJ(0, 0),
		wordI(0x03, 0, 5, 10, 0),
		wordR(0, 0, 6, 6, 5),
		addi(10, 10, 1),
		jalr(0, 1, 0),
	)+strings.Repeat("\x00", 16)+"\x05\xFE")
	want := blank(m.Look().Ram)
	for range 1 + 2*5 + 1 {
		m.Step()
	}
	want.Pc = 12
	want.Regs[1] = 12
	want.Regs[5] = 0xFFFFFFFE
	want.Regs[6] = 3
	want.Regs[10] = 50
	same(t, "P7: calls", m.Look(), want)
}

// P1, P2: computers with the same memory go the same way, whatever the words
// there are, and x0 stays 0.
func TestScatteredSteps(t *testing.T) {
	w := uint32(3)
	opcodes := []uint32{0x37, 0x17, 0x6F, 0x67, 0x63, 0x03, 0x23, 0x13, 0x33, 0x0F, 0x73}
	for round := range 200 {
		var words []uint32
		for range 128 {
			w = w*1664525 + 1013904223
			word := w
			if round%4 != 0 {
				word = w&^127 | opcodes[w>>5%11]
			}
			words = append(words, word)
		}
		m := must(t, 512, image(words...))
		n := must(t, 512, image(words...))
		for i := range 300 {
			m.Step()
			n.Step()
			if m.regs[0] != 0 || m.Look().Regs[0] != 0 {
				t.Fatalf("P6: round %d, step %d: x0 is %d", round, i, m.regs[0])
			}
			if i%4 == 0 {
				at := w >> 8 % 128 * 4
				w = w*1664525 + 1013904223
				m.pc = at
				n.pc = at
			}
		}
		same(t, "P2", n.Look(), m.Look())
	}
}
