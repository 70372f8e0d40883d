// Package device: what stands beside the processor: the clock with its
// software interrupt, and the controller that gathers the lines from outside.
package device

import "hart/api"

// Contexts is how many contexts the controller gathers interrupts for.
const Contexts = 2

// Clock holds the clock and the software interrupt.
type Clock struct {
	Msip, Mtimecmp, Mtime uint32
}

// NewClock gives the clock of a new computer: its alarm is as far off as can be.
func NewClock() Clock {
	return Clock{Mtimecmp: 0xFFFFFFFF}
}

// Due tells whether mtime has reached mtimecmp.
func (k *Clock) Due() bool {
	return k.Mtime >= k.Mtimecmp
}

// Controller holds the controller for interrupts; bit s of Pend, Served and
// Level and of a context's Enable is that of source s.
type Controller struct {
	Prio                [api.Sources + 1]uint32
	Pend, Served, Level uint32
	Enable, Limit       [Contexts]uint32
}

// Asks tells whether the controller asks for an interrupt for context c.
func (p *Controller) Asks(c int) bool {
	if c < 0 || c >= Contexts {
		return false
	}
	for s := 1; s <= api.Sources; s++ {
		if p.Pend&p.Enable[c]>>s&1 == 1 && p.Prio[s] > p.Limit[c] {
			return true
		}
	}
	return false
}
