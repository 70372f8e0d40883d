package hart

import (
	"fmt"
	"testing"

	"hart/api"
)

// lot draws numbers, the same at every run.
type lot struct{ seed uint32 }

func (l *lot) draw(n int) int {
	l.seed = l.seed*1664525 + 1013904223
	return int(l.seed>>8) % n
}

// deal lays an instruction of some kind at pc, and gives what the document says
// of it, if it comes to be done.
func deal(m *Hart, l *lot) func(want *api.State) {
	rd, rs1 := uint32(l.draw(32)), uint32(1+l.draw(31))
	switch l.draw(6) {
	case 0:
		w := []uint32{wordEcall, wordEbreak, wordMret, wordSret, wordWfi}[l.draw(5)]
		place(m, m.pc, w)
		return func(want *api.State) { privileged(want, w) }
	case 1:
		f3 := []uint32{1, 2, 3, 5, 6, 7}[l.draw(6)]
		n := numbers[l.draw(len(numbers))]
		place(m, m.pc, csr(f3, rd, rs1, n))
		return func(want *api.State) { accessed(want, f3, rd, rs1, n) }
	case 2:
		a := deviceWords[l.draw(len(deviceWords))]
		m.regs[rs1] = a
		place(m, m.pc, wordI(0x03, 2, rd, rs1, 0))
		return func(want *api.State) {
			v, _ := wasRead(want, a, 4)
			if rd > 0 {
				want.Regs[rd] = v
			}
			want.Pc += 4
		}
	case 3:
		a := deviceWords[l.draw(len(deviceWords))]
		v := uint32(l.draw(256)) >> l.draw(8)
		m.regs[1] = a
		m.regs[2] = v
		place(m, m.pc, wordS(2, 1, 2, 0))
		return func(want *api.State) {
			wasWritten(want, a, 4, v)
			want.Pc += 4
		}
	case 4:
		place(m, m.pc, none)
		return func(want *api.State) { trapped(want, api.Illegal, none) }
	}
	m.pc = 64
	return func(want *api.State) { trapped(want, api.FetchFault, 64) }
}

// stir changes what lets interrupts in, or has a call from outside change what
// is pending.
func stir(m *Hart, l *lot) {
	switch l.draw(8) {
	case 0:
		m.csr.mie = sets()[l.draw(64)]
	case 1:
		m.csr.mideleg = delegations[l.draw(8)]
	case 2:
		m.csr.mstatus = statuses()[l.draw(384)]
	case 3:
		m.csr.written = []uint32{0, 0x002, 0x020, 0x022}[l.draw(4)]
	case 4:
		m.Line(1+l.draw(7), l.draw(2) == 0)
	case 5:
		m.Tick()
	case 6:
		m.Write(deviceWords[l.draw(len(deviceWords))], 4, uint32(l.draw(256))>>l.draw(8))
	case 7:
		m.csr.machine.tvec = uint32(l.draw(16)) * 4
		m.csr.super.tvec = 0xFFFFFFC1 + uint32(l.draw(16))*4
	}
}

// P6, P16: steps of all kinds one behind the other, as they come, at whatever
// level they lead to, asleep and awake, each held against what the document
// says. What came about is counted, so that it is sure that everything did.
func TestScatteredInterrupts(t *testing.T) {
	l := &lot{seed: 41}
	seen := map[string]int{}
	for range 250 {
		m := wired(t)
		m.level = levels[l.draw(3)]
		for range 300 {
			stir(m, l)
			if !m.asleep && l.draw(3) == 0 {
				m.level = levels[l.draw(3)]
				m.asleep = m.level != api.User && l.draw(3) == 0
			}
			m.pc = uint32(l.draw(16)) * 4
			effect := deal(m, l)
			want := m.Look()
			was := m.Look()
			if begun(&want) {
				effect(&want)
				seen[fmt.Sprintf("done, asleep %v", was.Asleep)]++
			} else if want.Asleep {
				seen["asleep"]++
			} else {
				seen[fmt.Sprintf("%s to %d from %d, asleep %v", names[first(&was)], want.Mode, was.Mode, was.Asleep)]++
			}
			steps(t, "P6, P16: scattered", m, want)
			if t.Failed() {
				return
			}
		}
	}
	if len(seen) != wayCount() {
		t.Errorf("P16: %d ways came about, want %d: %v", len(seen), wayCount(), seen)
	}
}

// wayCount: how many ways a step can go, as TestScatteredInterrupts tells them
// apart: asleep; done awake or woken; six interrupts to Machine from three
// levels, and three to Supervisor from two, awake, or woken at any level but
// User, where nobody sleeps.
func wayCount() int {
	return 1 + 2 + 6*(3+2) + 3*(2+1)
}
