package past

import (
	"errors"
	"strconv"
)

// ErrTime is of a time that no event may have, or not the next one.
var ErrTime = errors.New("a time that may not be")

// ErrAtoms is at the bottom of every error about the atoms of an event.
var ErrAtoms = errors.New("atoms that may not be")

// AtomError tells the place in the list of an atom that may not be there.
type AtomError struct {
	Place int
	Why   string
}

func (a *AtomError) Error() string {
	return "atom " + strconv.Itoa(a.Place) + ": " + a.Why + ": " + ErrAtoms.Error()
}

func (a *AtomError) Unwrap() error { return ErrAtoms }

// NoRoom tells how many events would have to be kept.
type NoRoom struct {
	Events int
}

func (n *NoRoom) Error() string { return "no room for " + strconv.Itoa(n.Events) + " events" }

// TooFar tells the reach of a sentence that speaks of events which are not kept.
type TooFar struct {
	Reach int
}

func (f *TooFar) Error() string { return "a reach of " + strconv.Itoa(f.Reach) + " is too far" }

// OutOfRange tells a number that is not from Least to Most.
type OutOfRange struct {
	What               string
	Value, Least, Most int
}

func (o *OutOfRange) Error() string {
	return o.What + " is " + strconv.Itoa(o.Value) + ", not from " + strconv.Itoa(o.Least) + " to " + strconv.Itoa(o.Most)
}

// CheckRange refuses a number that is not from least to most.
func CheckRange(what string, value, least, most int) error {
	if value < least || value > most {
		return &OutOfRange{what, value, least, most}
	}
	return nil
}
