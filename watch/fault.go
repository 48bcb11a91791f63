package watch

import (
	"errors"
	"strconv"
)

// What may be wrong with a policy's name, or with one policy more.
var (
	ErrNoName = errors.New("no name")
	ErrTwice  = errors.New("there is such a policy")
	ErrNone   = errors.New("there is no such policy")
	ErrFull   = errors.New("there are as many policies as may be")
)

// TooManyNodes tells how many different nodes there would be.
type TooManyNodes struct {
	Count int
}

func (n *TooManyNodes) Error() string { return strconv.Itoa(n.Count) + " nodes are too many" }

// StreamFull tells the policy whose stream takes no more verdicts.
type StreamFull struct {
	Policy string
}

func (f *StreamFull) Error() string { return "the stream of " + f.Policy + " is full" }

// PolicyError wraps another error with the name of the policy that it is about.
type PolicyError struct {
	Policy string
	Err    error
}

func (p *PolicyError) Error() string {
	return "policy " + strconv.Quote(p.Policy) + ": " + p.Err.Error()
}

func (p *PolicyError) Unwrap() error { return p.Err }

// EventError wraps another error with the time of the event that it is about.
type EventError struct {
	Time int
	Err  error
}

func (e *EventError) Error() string { return "event at " + strconv.Itoa(e.Time) + ": " + e.Err.Error() }

func (e *EventError) Unwrap() error { return e.Err }
