// Package reckon does the sums of the instructions, and tells for the branches
// whether they are taken (P7).
package reckon

import "hart/api"

// Result gives what the instruction op makes of a and b, which are Rs1 and Imm
// or Rs1 and Rs2; 0 for an instruction that makes nothing of two words.
func Result(op int, a, b uint32) uint32 {
	switch op {
	case api.Addi, api.Add:
		return a + b
	case api.Sub:
		return a - b
	case api.Slti, api.Slt:
		return one(less(a, b))
	case api.Sltiu, api.Sltu:
		return one(a < b)
	case api.Xori, api.Xor:
		return a ^ b
	case api.Ori, api.Or:
		return a | b
	case api.Andi, api.And:
		return a & b
	case api.Slli, api.Sll:
		return a << (b & 31)
	case api.Srli, api.Srl:
		return a >> (b & 31)
	case api.Srai, api.Sra:
		return uint32(int32(a) >> (b & 31))
	}
	return 0
}

// Taken tells whether the branch op is taken, if Rs1 holds a and Rs2 b; false
// for an instruction that is no branch.
func Taken(op int, a, b uint32) bool {
	switch op {
	case api.Beq:
		return a == b
	case api.Bne:
		return a != b
	case api.Blt:
		return less(a, b)
	case api.Bge:
		return !less(a, b)
	case api.Bltu:
		return a < b
	case api.Bgeu:
		return a >= b
	}
	return false
}

// less tells whether a is lesser than b, both as signed.
func less(a, b uint32) bool {
	return int32(a) < int32(b)
}

func one(yes bool) uint32 {
	if yes {
		return 1
	}
	return 0
}
