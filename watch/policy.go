package watch

import (
	"slices"
	"strings"

	"vigil/api"
	"vigil/core"
	"vigil/past"
	"vigil/sentence"
)

// policy is a sentence under a name, with the number of its node among those that are worked out.
type policy struct {
	name     string
	sentence *sentence.Sentence
	node     int
	version  int
	stream   *stream
}

func (p policy) verdict(e past.Event) api.Verdict {
	return api.Verdict{Event: e.Number, Time: e.Time, Version: p.version, Holds: e.Says(p.node)}
}

// find tells a policy's place, or the one where it would stand, and whether it is there.
func (w *Watch) find(name string) (int, bool) {
	return slices.BinarySearchFunc(w.policies, name, func(p policy, name string) int {
		return strings.Compare(p.name, name)
	})
}

// streamOf gives the stream of the policy of this name, if there is one.
func (w *Watch) streamOf(name string) (*stream, error) {
	place, there := w.find(name)
	if !there {
		return nil, &PolicyError{name, ErrNone}
	}
	return w.policies[place].stream, nil
}

// read gives the sentence of a policy, if both the name and the sentence may be.
func (w *Watch) read(name, text string) (*sentence.Sentence, error) {
	if !sentence.IsName(name) {
		return nil, ErrNoName
	}
	s, err := sentence.Read(text)
	if err != nil {
		return nil, err
	}
	return s, w.past.CheckReach(s.Reach())
}

// settle puts a new list of policies in the place of the old one, if they have not too many nodes.
func (w *Watch) settle(policies []policy) error {
	var table core.Table
	for i := range policies {
		policies[i].node = table.Put(policies[i].sentence)
	}
	if n := table.Count(); n > api.MaxNodes {
		return &TooManyNodes{n}
	}
	w.policies = policies
	w.past.Judge(table.Nodes())
	return nil
}

// backfill gives a policy's verdicts about the kept events at which it can be told.
func (w *Watch) backfill(place int) []api.Verdict {
	p := w.policies[place]
	var verdicts []api.Verdict
	for _, e := range w.past.Known(p.sentence.Reach()) {
		verdicts = append(verdicts, p.verdict(e))
	}
	return verdicts
}
