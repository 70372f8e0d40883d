// Package hart: a small computer: see DOC.md.
package hart

import (
	"hart/api"
	"hart/decode"
	"hart/device"
)

// Decode takes an instruction apart (P3).
func Decode(w uint32) api.Instr {
	return decode.Word(w)
}

// Hart is a computer.
type Hart struct {
	regs   [api.Regs]uint32
	pc     uint32
	level  int
	asleep bool
	csr    controls
	ram    []byte
	clock  device.Clock
	lines  device.Controller
}

// New makes a computer with size bytes of memory, the image at their beginning (P4).
func New(size int, image string) (*Hart, api.Errno) {
	if size < 4 || size > api.MaxRam || size%4 != 0 {
		return nil, api.ErrSize
	}
	if len(image) > size {
		return nil, api.ErrImage
	}
	m := &Hart{level: api.Machine, ram: make([]byte, size), clock: device.NewClock()}
	copy(m.ram, image)
	return m, api.OK
}

// Look tells all that the computer holds (P5).
func (m *Hart) Look() api.State {
	return api.State{
		Regs:   fresh(m.regs[:]),
		Pc:     m.pc,
		Mode:   m.level,
		Asleep: m.asleep,
		Csrs:   m.controlWords(),
		Ram:    string(m.ram),
		Clock:  []uint32{m.clock.Msip, m.clock.Mtimecmp, m.clock.Mtime},
		Prio:   fresh(m.lines.Prio[:]),
		Pend:   m.lines.Pend,
		Served: m.lines.Served,
		Level:  m.lines.Level,
		Enable: fresh(m.lines.Enable[:]),
		Limit:  fresh(m.lines.Limit[:]),
	}
}

// fresh copies l, so that the caller of Look may write into what it gets.
func fresh(l []uint32) []uint32 {
	c := make([]uint32, len(l))
	copy(c, l)
	return c
}

// Read reads from outside: width bytes at address a (P13).
func (m *Hart) Read(a uint32, width int) (uint32, bool) {
	v, there := m.loadRam(a, width)
	if there {
		return v, true
	}
	if width != 4 {
		return 0, false
	}
	v, there = m.clock.Read(a)
	if there {
		return v, true
	}
	return m.lines.Read(a)
}

// Write writes from outside: the low width bytes of v to address a (P13).
func (m *Hart) Write(a uint32, width int, v uint32) bool {
	if m.storeRam(a, width, v) {
		return true
	}
	if width != 4 {
		return false
	}
	if m.clock.Write(a, v) {
		return true
	}
	return m.lines.Write(a, v)
}

// Line turns line s high or low (P14).
func (m *Hart) Line(s int, high bool) {
	m.lines.Line(s, high)
}

// Tick lets one tick of the clock pass (P14).
func (m *Hart) Tick() {
	m.clock.Tick()
}
