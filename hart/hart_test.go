package hart

import (
	"reflect"
	"strings"
	"testing"

	"hart/api"
)

// extremes: numbers at the ends of what an int holds, and about the document's own.
var extremes = []int{-1 << 63, -1<<63 + 4, -1 << 32, -512, -8, -5, -4, -3, -2, -1, 0, 1, 2, 3, 4, 5, 6, 7, 8, 9, 31, 32, 508, 510, 511, 512, 513, 514, 516, 1024, 1 << 31, 1 << 32, 1<<32 + 4, 1 << 62, 1<<63 - 4, 1<<63 - 1}

func must(t *testing.T, size int, image string) *Hart {
	t.Helper()
	m, e := New(size, image)
	if e != api.OK || m == nil {
		t.Fatalf("P4: New(%d, %q) = %v, %d", size, image, m, e)
	}
	return m
}

// blank: what Look tells of a new computer with this memory.
func blank(ram string) api.State {
	return api.State{
		Regs:   make([]uint32, 32),
		Mode:   api.Machine,
		Csrs:   make([]uint32, 19),
		Ram:    ram,
		Clock:  []uint32{0, 0xFFFFFFFF, 0},
		Prio:   make([]uint32, 8),
		Enable: make([]uint32, 2),
		Limit:  make([]uint32, 2),
	}
}

func same(t *testing.T, promise string, got, want api.State) {
	t.Helper()
	if !reflect.DeepEqual(got, want) {
		t.Errorf("%s: Look =\n%+v, want\n%+v", promise, got, want)
	}
}

func TestSignatures(t *testing.T) {
	var (
		_ func(uint32) api.Instr                  = Decode
		_ func(int, string) (*Hart, api.Errno)    = New
		_ func(*Hart) api.State                   = (*Hart).Look
		_ func(*Hart)                             = (*Hart).Step
		_ func(*Hart, uint32, int) (uint32, bool) = (*Hart).Read
		_ func(*Hart, uint32, int, uint32) bool   = (*Hart).Write
		_ func(*Hart, int, bool)                  = (*Hart).Line
		_ func(*Hart)                             = (*Hart).Tick
	)
}

func TestExamplesOfDecode(t *testing.T) {
	for _, c := range []struct {
		w    uint32
		want api.Instr
	}{
		{0x00500093, api.Instr{Op: api.Addi, Rd: 1, Imm: 5}},
		{0xFE209EE3, api.Instr{Op: api.Bne, Rs1: 1, Rs2: 2, Imm: 0xFFFFFFFC}},
		{0x40315093, api.Instr{Op: api.Srai, Rd: 1, Rs1: 2, Imm: 3}},
		{0x60315093, api.Instr{}},
		{0x30200073, api.Instr{Op: api.Mret}},
		{0x3000A173, api.Instr{Op: api.Csrrs, Rd: 2, Rs1: 1, Imm: 0x300}},
		{0x0000000F, api.Instr{Op: api.Fence}},
		{0x0000100F, api.Instr{}},
	} {
		for range 2 {
			if d := Decode(c.w); d != c.want {
				t.Errorf("P3: Decode(%#08x) = %+v, want %+v", c.w, d, c.want)
			}
		}
	}
}

// P1: no call panics, whatever is handed in.
func TestNoCallPanics(t *testing.T) {
	for _, n := range extremes {
		for _, l := range []int{0, 1, 4, 511, 512, 513, 5000} {
			m, e := New(n, strings.Repeat("\xFF", l))
			if (m == nil) != (e != api.OK) {
				t.Fatalf("P1: New(%d, %d bytes) = %v, %d", n, l, m, e)
			}
		}
	}
	m := must(t, 512, strings.Repeat("\xFF\x00\x93\x73", 128))
	for _, n := range extremes {
		Decode(uint32(n))
		Decode(^uint32(n))
		for _, w := range extremes {
			v, ok := m.Read(uint32(n), w)
			if !ok && v != 0 {
				t.Fatalf("P1: Read(%#x, %d) = %d, false", uint32(n), w, v)
			}
			m.Write(uint32(n), w, uint32(w))
		}
		m.Line(n, true)
		m.Line(n, false)
		m.Tick()
		m.Step()
		m.Look()
	}
}

func TestSizes(t *testing.T) {
	sizes := extremes
	for n := -600; n <= 1200; n++ {
		sizes = append(sizes, n)
	}
	for _, n := range sizes {
		want := api.ErrSize
		for s := 4; s <= 512; s += 4 {
			if n == s {
				want = api.OK
			}
		}
		m, e := New(n, "")
		if e != want || (m == nil) != (e != api.OK) {
			t.Errorf("P4: New(%d, \"\") = %v, %d, want %d", n, m, e, want)
		}
		if m != nil && m.Look().Ram != strings.Repeat("\x00", n) {
			t.Errorf("P4: New(%d, \"\"): the memory is %q", n, m.Look().Ram)
		}
	}
}

func TestImages(t *testing.T) {
	for size := 4; size <= 512; size += 4 {
		for l := 0; l <= size+5; l++ {
			image := strings.Repeat("q", l)
			m, e := New(size, image)
			if l > size {
				if e != api.ErrImage || m != nil {
					t.Fatalf("P4: New(%d, %d bytes) = %v, %d, want %d", size, l, m, e, api.ErrImage)
				}
				continue
			}
			if e != api.OK || m == nil {
				t.Fatalf("P4: New(%d, %d bytes) = %v, %d", size, l, m, e)
			}
			if got := m.Look().Ram; got != image+strings.Repeat("\x00", size-l) {
				t.Fatalf("P4: New(%d, %d bytes): the memory is %q", size, l, got)
			}
		}
	}
}

// P1: where both errors apply, ErrSize is named first.
func TestBothErrors(t *testing.T) {
	for _, n := range []int{-1 << 63, -4, -1, 0, 1, 2, 3, 5, 510, 513, 516} {
		m, e := New(n, strings.Repeat("x", 600))
		if e != api.ErrSize || m != nil {
			t.Errorf("P1: New(%d, 600 bytes) = %v, %d, want %d", n, m, e, api.ErrSize)
		}
	}
}

// Bytes of all kinds stay as they are, those that are no text with them.
func TestImageIsTakenByteByByte(t *testing.T) {
	var all []byte
	for b := range 256 {
		all = append(all, byte(b))
	}
	m := must(t, 512, string(all))
	same(t, "P4", m.Look(), blank(string(all)+strings.Repeat("\x00", 256)))
}

func TestNewComputer(t *testing.T) {
	same(t, "P4", must(t, 4, "").Look(), blank("\x00\x00\x00\x00"))
	same(t, "P4", must(t, 8, "\x93\x00\x50\x00\x07").Look(), blank("\x93\x00\x50\x00\x07\x00\x00\x00"))
}

// P2: one computer is nothing to another.
func TestComputersAreApart(t *testing.T) {
	a := must(t, 8, "aaaa")
	b := must(t, 8, "aaaa")
	fill(a)
	same(t, "P2", b.Look(), blank("aaaa\x00\x00\x00\x00"))
	same(t, "P2", must(t, 8, "aaaa").Look(), blank("aaaa\x00\x00\x00\x00"))
}
