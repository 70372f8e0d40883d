package reckon

import (
	"testing"

	"hart/api"
)

// edges: words at the ends of what they stand for, as they are and as signed,
// and some between.
var edges = []uint32{0, 1, 2, 3, 4, 31, 32, 33, 63, 0x7FF, 0x12345678, 0x7FFFFFFE, 0x7FFFFFFF, 0x80000000, 0x80000001, 0xEDCBA987, 0xFFFFF800, 0xFFFFFFE0, 0xFFFFFFFE, 0xFFFFFFFF}

// signed reads a word as signed, in numbers that do not wrap here.
func signed(w uint32) int64 {
	if w >= 1<<31 {
		return int64(w) - 1<<32
	}
	return int64(w)
}

// modulo brings n into 0 .. 2^32 - 1.
func modulo(n int64) uint32 {
	return uint32((n%(1<<32) + 1<<32) % (1 << 32))
}

// bitwise makes a word bit by bit: bit i is the table's entry for the bits i of
// a and b.
func bitwise(a, b uint32, table [4]uint32) uint32 {
	w := uint32(0)
	for i := range 32 {
		w |= table[a>>i&1*2+b>>i&1] << i
	}
	return w
}

// moved moves a by one bit n times: to the left with 0 coming in, or to the
// right with the bit in.
func moved(a, n uint32, left bool, in uint32) uint32 {
	for range n {
		if left {
			a = modulo(int64(a) * 2)
		} else {
			a = a/2 + in*1<<31
		}
	}
	return a
}

func number(yes bool) uint32 {
	if yes {
		return 1
	}
	return 0
}

// expect says P7 once more, in sums that do not wrap and bit by bit.
func expect(op int, a, b uint32) uint32 {
	switch op {
	case api.Add, api.Addi:
		return modulo(int64(a) + int64(b))
	case api.Sub:
		return modulo(int64(a) - int64(b))
	case api.Slt, api.Slti:
		return number(signed(a) < signed(b))
	case api.Sltu, api.Sltiu:
		return number(int64(a) < int64(b))
	case api.Xor, api.Xori:
		return bitwise(a, b, [4]uint32{0, 1, 1, 0})
	case api.Or, api.Ori:
		return bitwise(a, b, [4]uint32{0, 1, 1, 1})
	case api.And, api.Andi:
		return bitwise(a, b, [4]uint32{0, 0, 0, 1})
	case api.Sll, api.Slli:
		return moved(a, b%32, true, 0)
	case api.Srl, api.Srli:
		return moved(a, b%32, false, 0)
	}
	return moved(a, b%32, false, a/(1<<31))
}

var sums = []int{api.Addi, api.Slti, api.Sltiu, api.Xori, api.Ori, api.Andi, api.Slli, api.Srli, api.Srai, api.Add, api.Sub, api.Sll, api.Slt, api.Sltu, api.Xor, api.Srl, api.Sra, api.Or, api.And}

func TestResultAtTheEdges(t *testing.T) {
	for _, op := range sums {
		for _, a := range edges {
			for _, b := range edges {
				if got, want := Result(op, a, b), expect(op, a, b); got != want {
					t.Errorf("P7: Op %d of %#x and %#x is %#x, want %#x", op, a, b, got, want)
				}
			}
		}
	}
}

func TestResultOfScatteredWords(t *testing.T) {
	w := uint32(7)
	for range 20000 {
		a := w*1664525 + 1013904223
		b := a*1664525 + 1013904223
		w = b
		for _, op := range sums {
			if got, want := Result(op, a, b>>(b>>28)), expect(op, a, b>>(b>>28)); got != want {
				t.Fatalf("P7: Op %d of %#x and %#x is %#x, want %#x", op, a, b>>(b>>28), got, want)
			}
		}
	}
}

// By hand, so that not all hangs on expect.
func TestResultByHand(t *testing.T) {
	for _, c := range []struct {
		op         int
		a, b, want uint32
	}{
		{api.Add, 0xFFFFFFFF, 1, 0}, {api.Add, 0x80000000, 0x80000000, 0}, {api.Add, 0x7FFFFFFF, 1, 0x80000000}, {api.Addi, 5, 0xFFFFFFFF, 4},
		{api.Sub, 0, 1, 0xFFFFFFFF}, {api.Sub, 5, 10, 0xFFFFFFFB}, {api.Sub, 0x80000000, 1, 0x7FFFFFFF},
		{api.Slt, 0x80000000, 0x7FFFFFFF, 1}, {api.Slt, 0x7FFFFFFF, 0x80000000, 0}, {api.Slt, 0xFFFFFFFF, 0, 1}, {api.Slt, 3, 3, 0}, {api.Slti, 0xFFFFFFFE, 0xFFFFFFFF, 1},
		{api.Sltu, 0x80000000, 0x7FFFFFFF, 0}, {api.Sltu, 0x7FFFFFFF, 0x80000000, 1}, {api.Sltu, 0, 0xFFFFFFFF, 1}, {api.Sltiu, 0xFFFFFFFF, 0xFFFFFFFF, 0},
		{api.Xor, 0xFF00FF00, 0x0FF00FF0, 0xF0F0F0F0}, {api.Or, 0xFF00FF00, 0x0FF00FF0, 0xFFF0FFF0}, {api.And, 0xFF00FF00, 0x0FF00FF0, 0x0F000F00},
		{api.Xori, 0x12345678, 0xFFFFFFFF, 0xEDCBA987}, {api.Ori, 0x12345678, 0xFFFFF800, 0xFFFFFE78}, {api.Andi, 0x12345678, 0x7FF, 0x678},
		{api.Sll, 0x80000001, 0, 0x80000001}, {api.Sll, 3, 31, 0x80000000}, {api.Sll, 3, 32, 3}, {api.Sll, 3, 33, 6}, {api.Slli, 0xF, 4, 0xF0},
		{api.Srl, 0x80000001, 0, 0x80000001}, {api.Srl, 0xC0000000, 31, 1}, {api.Srl, 0xC0000000, 0xFFFFFFFF, 1}, {api.Srli, 0xF0, 4, 0xF},
		{api.Sra, 0x80000001, 0, 0x80000001}, {api.Sra, 0x80000000, 31, 0xFFFFFFFF}, {api.Sra, 0x80000000, 0xFFFFFFE4, 0xF8000000}, {api.Srai, 0x7FFFFFFF, 31, 0},
	} {
		if got := Result(c.op, c.a, c.b); got != c.want {
			t.Errorf("P7: Op %d of %#x and %#x is %#x, want %#x", c.op, c.a, c.b, got, c.want)
		}
	}
}

// takes says once more of a branch: is it taken?
func takes(op int, a, b uint32) bool {
	switch op {
	case api.Beq:
		return int64(a)-int64(b) == 0
	case api.Bne:
		return int64(a)-int64(b) != 0
	case api.Blt:
		return signed(a)-signed(b) < 0
	case api.Bge:
		return signed(a)-signed(b) >= 0
	case api.Bltu:
		return int64(a)-int64(b) < 0
	}
	return int64(a)-int64(b) >= 0
}

func TestTaken(t *testing.T) {
	for _, op := range []int{api.Beq, api.Bne, api.Blt, api.Bge, api.Bltu, api.Bgeu} {
		for _, a := range edges {
			for _, b := range edges {
				if got := Taken(op, a, b); got != takes(op, a, b) {
					t.Errorf("P7: Op %d at %#x and %#x is taken: %v", op, a, b, got)
				}
			}
		}
	}
}

// What is no sum gives 0, what is no branch is not taken, at every number.
func TestOthers(t *testing.T) {
	others := []int{-1 << 63, -1, 50, 1 << 32, 1<<63 - 1}
	for op := api.None; op <= api.Csrrci; op++ {
		others = append(others, op)
	}
	for _, op := range others {
		sum := op >= api.Addi && op <= api.And
		branch := op >= api.Beq && op <= api.Bgeu
		for _, a := range edges {
			if !sum && Result(op, a, 1) != 0 {
				t.Errorf("Op %d makes %#x of %#x and 1", op, Result(op, a, 1), a)
			}
			if !branch && (Taken(op, a, 1) || Taken(op, 1, a)) {
				t.Errorf("Op %d is taken at %#x and 1", op, a)
			}
		}
	}
}
