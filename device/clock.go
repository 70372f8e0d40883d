// Package device: what stands beside the processor: the clock with its
// software interrupt, and the controller that gathers the lines from outside.
// Their words are read and written whole, each at its own address alone.
package device

import "hart/api"

// Clock holds the clock and the software interrupt.
type Clock struct {
	Msip, Mtimecmp, Mtime uint32
}

// NewClock gives the clock of a new computer: its alarm is as far off as can be.
func NewClock() Clock {
	return Clock{Mtimecmp: 0xFFFFFFFF}
}

// Tick lets mtime go on by one; behind the last number it begins anew.
func (k *Clock) Tick() {
	k.Mtime++
}

// Due tells whether mtime has reached mtimecmp.
func (k *Clock) Due() bool {
	return k.Mtime >= k.Mtimecmp
}

// Read gives the clock's word at address a; false, if there is none.
func (k *Clock) Read(a uint32) (uint32, bool) {
	switch a {
	case api.Msip:
		return k.Msip, true
	case api.Mtimecmp:
		return k.Mtimecmp, true
	case api.Mtime:
		return k.Mtime, true
	}
	return 0, false
}

// Write lays v in the clock's word at address a; false, if there is none.
func (k *Clock) Write(a, v uint32) bool {
	switch a {
	case api.Msip:
		k.Msip = v & 1
	case api.Mtimecmp:
		k.Mtimecmp = v
	case api.Mtime:
		k.Mtime = v
	default:
		return false
	}
	return true
}
