package drive

import (
	"corbel/api"
	"corbel/zone"
)

// zones are those of a drive. Of each zone, content has the blocks up to its Length, of which the first ones are durable.
type zones struct {
	states  *zone.Machine
	content [][]byte
	durable []int
}

func newZones(n, blocks, open, active int) (zones, api.Errno) {
	states, e := zone.New(n, blocks, open, active)
	if e != api.OK {
		return zones{}, e
	}
	return zones{states: states, content: make([][]byte, n), durable: make([]int, n)}, api.OK
}

// execute does what c asks for, if its data matches it.
func (l *zones) execute(c zone.Command, data string) (string, int, api.Errno) {
	at, e := l.states.Do(c)
	if e != api.OK {
		return "", 0, e
	}
	switch c.Kind {
	case zone.Write, zone.Append:
		l.content[c.Zone] = append(l.content[c.Zone], data...)
	case zone.Reset:
		l.content[c.Zone], l.durable[c.Zone] = nil, 0
	case zone.Finish:
		l.settle(c.Zone)
	case zone.Read:
		return string(l.content[c.Zone][at*api.Block : (at+c.N)*api.Block]), at, api.OK
	}
	return "", at, api.OK
}

// written returns the number of blocks of a zone.
func (l *zones) written(z int) int {
	return len(l.content[z]) / api.Block
}

// settle makes the blocks of a zone durable.
func (l *zones) settle(z int) {
	l.durable[z] = l.written(z)
}

func (l *zones) settleAll() {
	for z := range l.content {
		l.settle(z)
	}
}

// lose truncates the zones to what remains after a loss of power, which is durable from then on.
func (l *zones) lose(keep []int) {
	for z := range l.content {
		remains := l.durable[z] + kept(keep, z, l.written(z)-l.durable[z])
		l.content[z] = l.content[z][:remains*api.Block]
		l.durable[z] = remains
	}
	l.states.Lost(l.durable)
}

// kept returns how many of the blocks of a zone that are not durable remain.
func kept(keep []int, z, blocks int) int {
	if len(keep) == 0 {
		return 0
	}
	n := keep[z%len(keep)]
	if n < 0 {
		n = -(n + 1) // not -n, which the least int does not have
	}
	return n % (blocks + 1)
}
