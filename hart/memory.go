package hart

// inRam tells whether there are width bytes of memory at address a.
func (m *Hart) inRam(a uint32, width int) bool {
	if width != 1 && width != 2 && width != 4 {
		return false
	}
	// Reckoned in 64 bits, for bytes above the highest address do not go on at 0.
	return uint64(a)+uint64(width) <= uint64(len(m.ram))
}

// loadRam gives the width bytes of memory at address a, the low byte first;
// false, if they are not all there.
func (m *Hart) loadRam(a uint32, width int) (uint32, bool) {
	if !m.inRam(a, width) {
		return 0, false
	}
	v := uint32(0)
	for i := width - 1; i >= 0; i-- {
		v = v<<8 | uint32(m.ram[int(a)+i])
	}
	return v, true
}

// storeRam lays the low width bytes of v at address a; false, and nothing is
// changed, if there is not memory for all of them.
func (m *Hart) storeRam(a uint32, width int, v uint32) bool {
	if !m.inRam(a, width) {
		return false
	}
	for i := 0; i < width; i++ {
		m.ram[int(a)+i] = byte(v)
		v >>= 8
	}
	return true
}
