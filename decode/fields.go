package decode

// bits gives the bits high..low of w as a number.
func bits(w, high, low uint32) uint32 {
	return w << (31 - high) >> (31 - high + low)
}

// signs gives 32 copies of bit 31 of w.
func signs(w uint32) uint32 {
	return -(w >> 31)
}

func rd(w uint32) int {
	return int(bits(w, 11, 7))
}

func rs1(w uint32) int {
	return int(bits(w, 19, 15))
}

func rs2(w uint32) int {
	return int(bits(w, 24, 20))
}

func immI(w uint32) uint32 {
	return signs(w)<<12 | bits(w, 31, 20)
}

func immS(w uint32) uint32 {
	return signs(w)<<12 | bits(w, 31, 25)<<5 | bits(w, 11, 7)
}

func immB(w uint32) uint32 {
	return signs(w)<<12 | bits(w, 7, 7)<<11 | bits(w, 30, 25)<<5 | bits(w, 11, 8)<<1
}

func immU(w uint32) uint32 {
	return bits(w, 31, 12) << 12
}

func immJ(w uint32) uint32 {
	return signs(w)<<20 | bits(w, 19, 12)<<12 | bits(w, 20, 20)<<11 | bits(w, 30, 21)<<1
}
