package decode

import (
	"testing"

	"hart/api"
)

// A row of P3's table: the words w with w & mask == match are op, with the
// fields that fields names (d: Rd, 1: Rs1, 2: Rs2, and an immediate's letter;
// H: Imm is RS2; C: Imm is bits 31..20).
type row struct {
	op          int
	mask, match uint32
	fields      string
}

var rows = []row{
	{api.Lui, 0x7F, 0x37, "dU"}, {api.Auipc, 0x7F, 0x17, "dU"},
	{api.Jal, 0x7F, 0x6F, "dJ"}, {api.Jalr, 0x707F, 0x0067, "d1I"},
	{api.Beq, 0x707F, 0x0063, "12B"}, {api.Bne, 0x707F, 0x1063, "12B"}, {api.Blt, 0x707F, 0x4063, "12B"},
	{api.Bge, 0x707F, 0x5063, "12B"}, {api.Bltu, 0x707F, 0x6063, "12B"}, {api.Bgeu, 0x707F, 0x7063, "12B"},
	{api.Lb, 0x707F, 0x0003, "d1I"}, {api.Lh, 0x707F, 0x1003, "d1I"}, {api.Lw, 0x707F, 0x2003, "d1I"},
	{api.Lbu, 0x707F, 0x4003, "d1I"}, {api.Lhu, 0x707F, 0x5003, "d1I"},
	{api.Sb, 0x707F, 0x0023, "12S"}, {api.Sh, 0x707F, 0x1023, "12S"}, {api.Sw, 0x707F, 0x2023, "12S"},
	{api.Addi, 0x707F, 0x0013, "d1I"}, {api.Slti, 0x707F, 0x2013, "d1I"}, {api.Sltiu, 0x707F, 0x3013, "d1I"},
	{api.Xori, 0x707F, 0x4013, "d1I"}, {api.Ori, 0x707F, 0x6013, "d1I"}, {api.Andi, 0x707F, 0x7013, "d1I"},
	{api.Slli, 0xFE00707F, 0x00001013, "d1H"}, {api.Srli, 0xFE00707F, 0x00005013, "d1H"}, {api.Srai, 0xFE00707F, 0x40005013, "d1H"},
	{api.Add, 0xFE00707F, 0x00000033, "d12"}, {api.Sub, 0xFE00707F, 0x40000033, "d12"},
	{api.Sll, 0xFE00707F, 0x00001033, "d12"}, {api.Slt, 0xFE00707F, 0x00002033, "d12"},
	{api.Sltu, 0xFE00707F, 0x00003033, "d12"}, {api.Xor, 0xFE00707F, 0x00004033, "d12"},
	{api.Srl, 0xFE00707F, 0x00005033, "d12"}, {api.Sra, 0xFE00707F, 0x40005033, "d12"},
	{api.Or, 0xFE00707F, 0x00006033, "d12"}, {api.And, 0xFE00707F, 0x00007033, "d12"},
	{api.Fence, 0x707F, 0x000F, ""},
	{api.Csrrw, 0x707F, 0x1073, "d1C"}, {api.Csrrs, 0x707F, 0x2073, "d1C"}, {api.Csrrc, 0x707F, 0x3073, "d1C"},
	{api.Csrrwi, 0x707F, 0x5073, "d1C"}, {api.Csrrsi, 0x707F, 0x6073, "d1C"}, {api.Csrrci, 0x707F, 0x7073, "d1C"},
	{api.Ecall, 0xFFFFFFFF, 0x73, ""}, {api.Ebreak, 0xFFFFFFFF, 0x100073, ""}, {api.Sret, 0xFFFFFFFF, 0x10200073, ""},
	{api.Wfi, 0xFFFFFFFF, 0x10500073, ""}, {api.Mret, 0xFFFFFFFF, 0x30200073, ""},
}

// The bits of w that make up an immediate, the highest first; -1 is a 0.
var places = map[rune][]int{
	'I': {31, 30, 29, 28, 27, 26, 25, 24, 23, 22, 21, 20},
	'S': {31, 30, 29, 28, 27, 26, 25, 11, 10, 9, 8, 7},
	'B': {31, 7, 30, 29, 28, 27, 26, 25, 11, 10, 9, 8, -1},
	'U': {31, 30, 29, 28, 27, 26, 25, 24, 23, 22, 21, 20, 19, 18, 17, 16, 15, 14, 13, 12, -1, -1, -1, -1, -1, -1, -1, -1, -1, -1, -1, -1},
	'J': {31, 19, 18, 17, 16, 15, 14, 13, 12, 20, 30, 29, 28, 27, 26, 25, 24, 23, 22, 21, -1},
}

// gather lays the bits of an immediate one behind the other, those above its
// highest one like bit 31.
func gather(w uint32, places []int) uint32 {
	imm := uint32(0)
	if w>>31 == 1 {
		imm = 0xFFFFFFFF
	}
	for _, p := range places {
		imm <<= 1
		if p >= 0 && w>>p&1 == 1 {
			imm |= 1
		}
	}
	return imm
}

// expect reads w by the rows, without a look at how Word goes about it.
func expect(t *testing.T, w uint32) api.Instr {
	found := 0
	d := api.Instr{}
	for _, r := range rows {
		if w&r.mask != r.match {
			continue
		}
		found++
		d.Op = r.op
		for _, f := range r.fields {
			switch f {
			case 'd':
				d.Rd = int(w >> 7 % 32)
			case '1':
				d.Rs1 = int(w >> 15 % 32)
			case '2':
				d.Rs2 = int(w >> 20 % 32)
			case 'H':
				d.Imm = w >> 20 % 32
			case 'C':
				d.Imm = w >> 20
			default:
				d.Imm = gather(w, places[f])
			}
		}
	}
	if found > 1 {
		t.Fatalf("the test's own rows: %d fit %#08x", found, w)
	}
	return d
}

func check(t *testing.T, w uint32) {
	t.Helper()
	want := expect(t, w)
	if d := Word(w); d != want {
		t.Fatalf("P3: Word(%#08x) = %+v, want %+v", w, d, want)
	}
}

func TestEveryRowIsThere(t *testing.T) {
	if len(rows) != api.Csrrci {
		t.Fatalf("%d rows for %d instructions", len(rows), api.Csrrci)
	}
	for _, r := range rows {
		if d := Word(r.match); d.Op != r.op {
			t.Errorf("P3: Word(%#08x) = %+v, want Op %d", r.match, d, r.op)
		}
	}
}

// Each row's word with all free bits 0, all 1, and each free bit alone set and
// alone clear.
func TestEveryFreeBit(t *testing.T) {
	for _, r := range rows {
		free := ^r.mask
		check(t, r.match)
		check(t, r.match|free)
		for b := range 32 {
			bit := uint32(1) << b
			check(t, r.match|bit&free)
			check(t, r.match|free&^bit)
		}
	}
}

// Words just beside each row: one fixed bit, or two, turned.
func TestBesideEveryRow(t *testing.T) {
	for _, r := range rows {
		for b := range 32 {
			for c := range 32 {
				turned := r.match ^ 1<<b ^ 1<<c
				check(t, turned)
				check(t, turned|^r.mask&0x01FF8F80)
				check(t, r.match^1<<b)
			}
		}
	}
}

// Every OPCODE with every F3 and every F7, with other fields at two patterns.
func TestEveryOpcode(t *testing.T) {
	for opcode := range uint32(128) {
		for f3 := range uint32(8) {
			for f7 := range uint32(128) {
				w := f7<<25 | f3<<12 | opcode
				check(t, w)
				check(t, w|0x00A98A80)
				check(t, w|0x01FF8F80)
			}
		}
	}
}

// Of the words of opcode 0x73 with F3 0, five alone are instructions.
func TestSystemWords(t *testing.T) {
	found := 0
	for rest := range uint32(1 << 22) {
		w := rest>>5<<15 | rest&31<<7 | 0x73
		d := Word(w)
		if d.Op != api.None {
			found++
			check(t, w)
		} else if d != (api.Instr{}) {
			t.Fatalf("P3: Word(%#08x) = %+v, want none", w, d)
		}
	}
	if found != 5 {
		t.Errorf("P3: %d words of opcode 0x73 with F3 0 are instructions, want 5", found)
	}
}

func TestScatteredWords(t *testing.T) {
	w := uint32(1)
	for range 300000 {
		w = w*1664525 + 1013904223
		check(t, w)
		check(t, w>>16|w<<16)
		r := rows[w>>8%uint32(len(rows))]
		check(t, w&^r.mask|r.match)
	}
}

// The highest and lowest immediates, -1, 0 and 1 or the least step, by words
// that were assembled by hand.
func TestEdgesOfImmediates(t *testing.T) {
	for _, c := range []struct {
		w    uint32
		want api.Instr
	}{
		{0x7FF00013, api.Instr{Op: api.Addi, Imm: 0x7FF}},
		{0x80000013, api.Instr{Op: api.Addi, Imm: 0xFFFFF800}},
		{0xFFF00013, api.Instr{Op: api.Addi, Imm: 0xFFFFFFFF}},
		{0x00100013, api.Instr{Op: api.Addi, Imm: 1}},
		{0x7E000FA3, api.Instr{Op: api.Sb, Imm: 0x7FF}},
		{0x80000023, api.Instr{Op: api.Sb, Imm: 0xFFFFF800}},
		{0xFE000FA3, api.Instr{Op: api.Sb, Imm: 0xFFFFFFFF}},
		{0x000000A3, api.Instr{Op: api.Sb, Imm: 1}},
		{0x7E000FE3, api.Instr{Op: api.Beq, Imm: 0xFFE}},
		{0x80000063, api.Instr{Op: api.Beq, Imm: 0xFFFFF000}},
		{0xFE000FE3, api.Instr{Op: api.Beq, Imm: 0xFFFFFFFE}},
		{0x00000163, api.Instr{Op: api.Beq, Imm: 2}},
		{0x7FFFF037, api.Instr{Op: api.Lui, Imm: 0x7FFFF000}},
		{0x80000037, api.Instr{Op: api.Lui, Imm: 0x80000000}},
		{0xFFFFF037, api.Instr{Op: api.Lui, Imm: 0xFFFFF000}},
		{0x00001037, api.Instr{Op: api.Lui, Imm: 0x1000}},
		{0x7FFFF06F, api.Instr{Op: api.Jal, Imm: 0xFFFFE}},
		{0x8000006F, api.Instr{Op: api.Jal, Imm: 0xFFF00000}},
		{0xFFFFF06F, api.Instr{Op: api.Jal, Imm: 0xFFFFFFFE}},
		{0x0020006F, api.Instr{Op: api.Jal, Imm: 2}},
		{0x01F01013, api.Instr{Op: api.Slli, Imm: 31}},
		{0x00001013, api.Instr{Op: api.Slli}},
		{0x02001013, api.Instr{}},
		{0x41F05013, api.Instr{Op: api.Srai, Imm: 31}},
		{0x80001073, api.Instr{Op: api.Csrrw, Imm: 0x800}},
		{0xFFF01073, api.Instr{Op: api.Csrrw, Imm: 0xFFF}},
		{0x00001073, api.Instr{Op: api.Csrrw}},
	} {
		if d := Word(c.w); d != c.want {
			t.Errorf("P3: Word(%#08x) = %+v, want %+v", c.w, d, c.want)
		}
	}
}
