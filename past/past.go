// Package past: the events that are kept, and which nodes are so at each of them.
package past

import (
	"slices"

	"vigil/api"
	"vigil/core"
)

// Past holds the events that are kept, the oldest first, and the nodes that are worked out at them.
type Past struct {
	retain, room int
	nodes        []core.Node
	events       []Event
}

// New makes a past without events, that keeps those of the last retain of time, at most room of them.
func New(retain, room int) (Past, error) {
	if err := CheckRange("retain", retain, 0, api.MaxRetain); err != nil {
		return Past{}, err
	}
	if err := CheckRange("room", room, 1, api.MaxRoom); err != nil {
		return Past{}, err
	}
	return Past{retain: retain, room: room}, nil
}

// CheckTime refuses a time that the next event may not have.
func (p *Past) CheckTime(time int) error {
	if time < 0 || time > api.MaxTime {
		return ErrTime
	}
	// The last event is always kept.
	if n := len(p.events); n > 0 && time <= p.events[n-1].Time {
		return ErrTime
	}
	return nil
}

// CheckRoom refuses a next event, of a time that may be, with which there are too many to keep.
func (p *Past) CheckRoom(time int) error {
	if n := len(p.events) - p.old(time) + 1; n > p.room {
		return &NoRoom{n}
	}
	return nil
}

// CheckReach refuses the reach of a sentence that would ask for what is dropped already.
func (p *Past) CheckReach(reach int) error {
	if reach > p.retain {
		return &TooFar{reach}
	}
	return nil
}

// old counts the events that are dropped as soon as the last one has this time.
func (p *Past) old(time int) int {
	for i, e := range p.events {
		if e.Time >= time-p.retain {
			return i
		}
	}
	return len(p.events)
}

// Take adds an event that was checked, drops what is too old then, and works each node out once.
func (p *Past) Take(time int, atoms []string) Event {
	next := Event{Number: 1, Time: time, atoms: copyOf(atoms)}
	if n := len(p.events); n > 0 {
		next.Number = p.events[n-1].Number + 1
	}
	p.events = append(slices.Delete(p.events, 0, p.old(time)), next)
	return workOut(p.nodes, p.events)
}

// Kept tells how many events are kept.
func (p *Past) Kept() int { return len(p.events) }

// Work tells how many nodes are worked out at each event.
func (p *Past) Work() int { return len(p.nodes) }

// Judge takes other nodes, each behind its parts, and works them out at all kept events.
// At the oldest ones that may go wrong, for want of what was dropped; but whoever keeps to
// CheckReach asks, from the next event on, only for what hangs on kept events alone.
func (p *Past) Judge(nodes []core.Node) {
	p.nodes = nodes
	for i := range p.events {
		workOut(nodes, p.events[:i+1])
	}
}

// Known gives the events at which what is kept tells all that a sentence of this reach asks for.
func (p *Past) Known(reach int) []Event {
	// The first event of all is kept just if none was ever dropped.
	if len(p.events) == 0 || p.events[0].Number == 1 {
		return slices.Clone(p.events)
	}
	var known []Event
	for _, e := range p.events {
		if e.Time-reach >= p.events[0].Time {
			known = append(known, e)
		}
	}
	return known
}
