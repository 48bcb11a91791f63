package watch

import (
	"slices"

	"vigil/api"
	"vigil/past"
)

// stream holds the verdicts of a policy that are not yet gone, in the order of their events.
type stream struct {
	verdicts []api.Verdict
}

func (s *stream) isFull() bool { return len(s.verdicts) >= api.MaxStream }

func (s *stream) take(v api.Verdict) { s.verdicts = append(s.verdicts, v) }

func (s *stream) drop(n int) error {
	if err := past.CheckRange("the number of verdicts", n, 0, len(s.verdicts)); err != nil {
		return err
	}
	s.verdicts = slices.Delete(s.verdicts, 0, n)
	return nil
}

// letter is a verdict on its way to the stream that takes it up.
type letter struct {
	to      *stream
	verdict api.Verdict
}

// send gives a channel with the policies' verdicts about an event.
// There is room for all of them, so that the sender ends whether or not they are taken.
func send(policies []policy, event past.Event) <-chan letter {
	letters := make(chan letter, len(policies))
	go func() {
		defer close(letters)
		for _, p := range policies {
			letters <- letter{p.stream, p.verdict(event)}
		}
	}()
	return letters
}
