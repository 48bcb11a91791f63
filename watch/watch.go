// Package watch: policies that come and go while events are watched, and the streams of their verdicts.
package watch

import (
	"slices"
	"strings"

	"vigil/api"
	"vigil/past"
)

// Watch holds what is known of the past, and the policies in the order of their names' bytes.
type Watch struct {
	past     past.Past
	policies []policy
}

// New makes a watch without policies and events.
func New(retain, room int) (*Watch, error) {
	p, err := past.New(retain, room)
	if err != nil {
		return nil, err
	}
	return &Watch{past: p}, nil
}

// Event takes the next event in, and tells each stream what its policy says there.
func (w *Watch) Event(time int, atoms []string) error {
	if err := w.checkEvent(time, atoms); err != nil {
		return &EventError{time, err}
	}
	event := w.past.Take(time, atoms)
	for l := range send(w.policies, event) {
		l.to.take(l.verdict)
	}
	return nil
}

func (w *Watch) checkEvent(time int, atoms []string) error {
	if err := w.past.CheckTime(time); err != nil {
		return err
	}
	if err := past.CheckAtoms(atoms); err != nil {
		return err
	}
	for _, p := range w.policies {
		if p.stream.isFull() {
			return &StreamFull{p.name}
		}
	}
	return w.past.CheckRoom(time)
}

// Add adds a policy, and gives its backfill.
func (w *Watch) Add(name, text string) ([]api.Verdict, error) {
	place, err := w.add(name, text)
	if err != nil {
		return nil, &PolicyError{name, err}
	}
	return w.backfill(place), nil
}

func (w *Watch) add(name, text string) (int, error) {
	s, err := w.read(name, text)
	if err != nil {
		return 0, err
	}
	place, there := w.find(name)
	if there {
		return 0, ErrTwice
	}
	if len(w.policies) >= api.MaxPolicies {
		return 0, ErrFull
	}
	p := policy{name: strings.Clone(name), sentence: s, version: 1, stream: &stream{}}
	return place, w.settle(slices.Insert(slices.Clone(w.policies), place, p))
}

// Amend gives a policy another sentence, and gives its backfill.
func (w *Watch) Amend(name, text string) ([]api.Verdict, error) {
	place, err := w.amend(name, text)
	if err != nil {
		return nil, &PolicyError{name, err}
	}
	return w.backfill(place), nil
}

func (w *Watch) amend(name, text string) (int, error) {
	s, err := w.read(name, text)
	if err != nil {
		return 0, err
	}
	place, there := w.find(name)
	if !there {
		return 0, ErrNone
	}
	policies := slices.Clone(w.policies)
	policies[place].sentence = s
	policies[place].version++
	return place, w.settle(policies)
}

// Remove removes a policy, and its stream with it.
func (w *Watch) Remove(name string) error {
	place, there := w.find(name)
	if !there {
		return &PolicyError{name, ErrNone}
	}
	return w.settle(slices.Delete(slices.Clone(w.policies), place, place+1))
}

// Stream gives the verdicts of a policy's stream.
func (w *Watch) Stream(name string) ([]api.Verdict, error) {
	s, err := w.streamOf(name)
	if err != nil {
		return nil, err
	}
	return slices.Clone(s.verdicts), nil
}

// Ack drops the first n verdicts of a policy's stream.
func (w *Watch) Ack(name string, n int) error {
	s, err := w.streamOf(name)
	if err != nil {
		return err
	}
	if err := s.drop(n); err != nil {
		return &PolicyError{name, err}
	}
	return nil
}

// List gives the policies' names in the order of their bytes.
func (w *Watch) List() []string {
	var names []string
	for _, p := range w.policies {
		names = append(names, p.name)
	}
	return names
}

// Kept tells how many events are kept.
func (w *Watch) Kept() int { return w.past.Kept() }

// Work tells how many nodes are worked out at each event.
func (w *Watch) Work() int { return w.past.Work() }
