package past

import (
	"slices"
	"strings"

	"vigil/api"
	"vigil/sentence"
)

// Event is an event that is kept.
type Event struct {
	Number, Time int
	atoms        []string
	so           []bool // by the numbers of nodes; the first one stands for no node
}

// Says tells whether the node of this number is so at the event.
func (e Event) Says(node int) bool { return e.so[node] }

// CheckAtoms refuses a list that is not the atoms of an event.
func CheckAtoms(atoms []string) error {
	if len(atoms) > api.MaxAtoms {
		return &AtomError{api.MaxAtoms, "one too many"}
	}
	for place, atom := range atoms {
		if !sentence.IsName(atom) {
			return &AtomError{place, "no name"}
		}
		if slices.Contains(atoms[:place], atom) {
			return &AtomError{place, "there twice"}
		}
	}
	return nil
}

// copyOf copies the texts too, so that nothing is kept of what was handed in.
func copyOf(atoms []string) []string {
	var copied []string
	for _, atom := range atoms {
		copied = append(copied, strings.Clone(atom))
	}
	return copied
}
