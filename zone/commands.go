package zone

import "corbel/api"

// commands returns what each Kind does with a zone. Each checks all its errors before it changes anything.
func commands() [kinds]func(*Machine, *Zone, Command) (int, api.Errno) {
	return [kinds]func(*Machine, *Zone, Command) (int, api.Errno){
		Write:  (*Machine).write,
		Append: (*Machine).appendTo,
		Reset:  (*Machine).reset,
		Finish: (*Machine).finish,
		Open:   (*Machine).open,
		Close:  (*Machine).close,
		Read:   (*Machine).read,
	}
}

func (m *Machine) write(z *Zone, c Command) (int, api.Errno) {
	switch {
	case !within(c.At, c.N, m.blocks):
		return 0, api.ErrRange
	case z.State == Full:
		return 0, api.ErrFull
	case c.At != z.Length:
		return 0, api.ErrState
	}
	return m.extend(z, c.N)
}

func (m *Machine) appendTo(z *Zone, c Command) (int, api.Errno) {
	switch {
	case !within(0, c.N, m.blocks):
		return 0, api.ErrRange
	case z.State == Full:
		return 0, api.ErrFull
	case !within(z.Length, c.N, m.blocks):
		return 0, api.ErrRange
	}
	return m.extend(z, c.N)
}

func (m *Machine) reset(z *Zone, _ Command) (int, api.Errno) {
	*z = Zone{State: Empty}
	return 0, api.OK
}

func (m *Machine) finish(z *Zone, _ Command) (int, api.Errno) {
	z.State = Full
	return 0, api.OK
}

func (m *Machine) open(z *Zone, _ Command) (int, api.Errno) {
	if z.State == Full {
		return 0, api.ErrFull
	}
	if e := m.admit(z); e != api.OK {
		return 0, e
	}
	z.State = Explicit
	return 0, api.OK
}

func (m *Machine) close(z *Zone, _ Command) (int, api.Errno) {
	if !z.isActive() {
		return 0, api.ErrState
	}
	z.shut()
	return 0, api.OK
}

func (m *Machine) read(z *Zone, c Command) (int, api.Errno) {
	if !within(c.At, c.N, z.Length) {
		return 0, api.ErrRange
	}
	return c.At, api.OK
}

// extend writes n blocks, for which the zone has room, and returns the index of the first one.
func (m *Machine) extend(z *Zone, n int) (int, api.Errno) {
	if e := m.admit(z); e != api.OK {
		return 0, e
	}
	at := z.Length
	z.Length += n
	switch {
	case z.Length == m.blocks:
		z.State = Full
	case z.State != Explicit:
		z.State = Implicit
	}
	return at, api.OK
}

// admit makes room for z among the open zones. The caller opens it.
func (m *Machine) admit(z *Zone) api.Errno {
	if z.isOpen() {
		return api.OK
	}
	open, active := m.Counts()
	// A loss of power can leave more active zones than permitted: Full ones that lost blocks become Closed.
	if z.State == Empty && active >= m.maxActive {
		return api.ErrLimit
	}
	if open < m.maxOpen {
		return api.OK
	}
	return m.shutImplicit()
}

// shutImplicit closes the Implicit zone with the least number.
func (m *Machine) shutImplicit() api.Errno {
	for i := range m.zones {
		if z := &m.zones[i]; z.State == Implicit {
			z.shut()
			return api.OK
		}
	}
	return api.ErrLimit
}

// within reports whether n blocks from at on, at least one, are among the first limit ones.
func within(at, n, limit int) bool {
	return at >= 0 && n >= 1 && n <= limit-at
}
