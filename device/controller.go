package device

import "hart/api"

// Contexts is how many contexts the controller gathers interrupts for.
const Contexts = 2

// The bits that the controller's words hold.
const (
	priorityBits = 7                         // of Limit too, which is held against priorities
	sourceBits   = 1<<(api.Sources+1) - 1<<1 // there is no source 0
)

// Controller holds the controller for interrupts; bit s of Pend, Served and
// Level and of a context's Enable is that of source s.
type Controller struct {
	Prio                [api.Sources + 1]uint32
	Pend, Served, Level uint32
	Enable, Limit       [Contexts]uint32
}

// Asks tells whether the controller asks for an interrupt for context c.
func (p *Controller) Asks(c int) bool {
	if c < 0 || c >= Contexts {
		return false
	}
	return p.best(p.Enable[c], p.Limit[c]) != 0
}

// best gives, of the sources that are pending, are among the enabled and have
// a priority greater than limit, the one with the greatest; of several the one
// with the least number; 0, if there is none.
func (p *Controller) best(enabled, limit uint32) uint32 {
	found := uint32(0)
	top := limit
	for s := uint32(1); s <= api.Sources; s++ {
		if p.Pend&enabled>>s&1 == 1 && p.Prio[s] > top {
			found = s
			top = p.Prio[s]
		}
	}
	return found
}

// Line turns line s high or low. A source in service does not become pending:
// its completion looks at the line.
func (p *Controller) Line(s int, high bool) {
	if s < 1 || s > api.Sources {
		return
	}
	bit := uint32(1) << s
	if !high {
		p.Level &^= bit
		return
	}
	p.Level |= bit
	p.Pend |= bit &^ p.Served
}

// claim takes the source that matters most to context c into service, whatever
// that context's limit is; 0, if there is none.
func (p *Controller) claim(c int) uint32 {
	if c < 0 || c >= Contexts {
		return 0
	}
	s := p.best(p.Enable[c], 0)
	if s == 0 {
		return 0
	}
	bit := uint32(1) << s
	p.Pend &^= bit
	p.Served |= bit
	return s
}

// complete ends the service of source s for context c. A line that is still
// high makes the source pending at once.
func (p *Controller) complete(c int, s uint32) {
	if c < 0 || c >= Contexts || s < 1 || s > api.Sources {
		return
	}
	bit := p.Served & p.Enable[c] & (1 << s)
	p.Served &^= bit
	p.Pend |= bit & p.Level
}

// Read gives the controller's word at address a; false, if there is none. A
// read of Claim is a claim.
func (p *Controller) Read(a uint32) (uint32, bool) {
	switch a {
	case api.Pending:
		return p.Pend, true
	case api.Enable:
		return p.Enable[0], true
	case api.Enable + 4:
		return p.Enable[1], true
	case api.Limit:
		return p.Limit[0], true
	case api.Limit + 8:
		return p.Limit[1], true
	case api.Claim:
		return p.claim(0), true
	case api.Claim + 8:
		return p.claim(1), true
	}
	s, there := prioritySource(a)
	if !there {
		return 0, false
	}
	return p.Prio[s], true
}

// Write lays v in the controller's word at address a; false, if there is none.
// A write to Claim is a completion.
func (p *Controller) Write(a, v uint32) bool {
	switch a {
	case api.Pending:
		// What is pending, the lines, claims and completions alone say.
	case api.Enable:
		p.Enable[0] = v & sourceBits
	case api.Enable + 4:
		p.Enable[1] = v & sourceBits
	case api.Limit:
		p.Limit[0] = v & priorityBits
	case api.Limit + 8:
		p.Limit[1] = v & priorityBits
	case api.Claim:
		p.complete(0, v)
	case api.Claim + 8:
		p.complete(1, v)
	default:
		return p.writePriority(a, v)
	}
	return true
}

// writePriority does what Write does, for the words of the priorities; that of
// source 0, which there is not, stays 0.
func (p *Controller) writePriority(a, v uint32) bool {
	s, there := prioritySource(a)
	if !there {
		return false
	}
	if s != 0 {
		p.Prio[s] = v & priorityBits
	}
	return true
}

// prioritySource tells whose priority stands at address a; false, if nobody's.
func prioritySource(a uint32) (uint32, bool) {
	if a < api.Priority || a > api.Priority+4*api.Sources || a%4 != 0 {
		return 0, false
	}
	return (a - api.Priority) / 4, true
}
