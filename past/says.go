package past

import (
	"slices"

	"vigil/core"
	"vigil/sentence"
)

// workOut finds, for each node, whether it is so at the last of the events, and gives that event.
// At those ahead of it this is known, and so it is of a node's parts, as they come ahead of it.
func workOut(nodes []core.Node, events []Event) Event {
	now := &events[len(events)-1]
	now.so = make([]bool, 1, 1+len(nodes))
	for _, n := range nodes {
		now.so = append(now.so, says(n, events))
	}
	return *now
}

// says tells whether a node is so at the last of the events.
func says(n core.Node, events []Event) bool {
	now := events[len(events)-1]
	switch n.Op {
	case sentence.True:
		return true
	case sentence.Name:
		return slices.Contains(now.atoms, n.Name)
	case sentence.Not:
		return !now.so[n.Left]
	case sentence.And:
		return now.so[n.Left] && now.so[n.Right]
	case sentence.Before:
		return saysBefore(n, events)
	case sentence.Once:
		return saysOnce(n, events)
	}
	return saysSince(n, events)
}

func saysBefore(n core.Node, events []Event) bool {
	last := len(events) - 1
	if last == 0 {
		return false
	}
	before := events[last-1]
	ago := events[last].Time - before.Time
	return n.Window.From <= ago && ago <= n.Window.To && before.so[n.Left]
}

func saysOnce(n core.Node, events []Event) bool {
	now := events[len(events)-1].Time
	for _, e := range slices.Backward(events) {
		ago := now - e.Time
		if ago > n.Window.To {
			return false
		}
		if ago >= n.Window.From && e.so[n.Left] {
			return true
		}
	}
	return false
}

func saysSince(n core.Node, events []Event) bool {
	now := events[len(events)-1].Time
	for _, e := range slices.Backward(events) {
		ago := now - e.Time
		if ago > n.Window.To {
			return false
		}
		if ago >= n.Window.From && e.so[n.Right] {
			return true
		}
		// What is further back needs the left part here too.
		if !e.so[n.Left] {
			return false
		}
	}
	return false
}
