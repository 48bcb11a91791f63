// Package vigil: is it so, after all that has been? See DOC.md.
package vigil

import (
	"vigil/api"
	"vigil/core"
	"vigil/sentence"
	"vigil/watch"
)

// Monitor watches a stream of events.
type Monitor struct {
	watch *watch.Watch
}

// Print writes a sentence as it is written (P3).
func Print(text string) (string, api.Errno) {
	s, err := sentence.Read(text)
	if err != nil {
		return "", errno(err)
	}
	return s.String(), api.OK
}

// Reach tells how far back a sentence reaches (P3).
func Reach(text string) (int, api.Errno) {
	s, err := sentence.Read(text)
	if err != nil {
		return 0, errno(err)
	}
	return s.Reach(), api.OK
}

// Nodes counts the different nodes of sentences (P3).
func Nodes(texts []string) (int, api.Errno) {
	var table core.Table
	for _, text := range texts {
		s, err := sentence.Read(text)
		if err != nil {
			return 0, errno(err)
		}
		table.Put(s)
	}
	return table.Count(), api.OK
}

// New makes a monitor (P4).
func New(retain int, room int) (*Monitor, api.Errno) {
	w, err := watch.New(retain, room)
	if err != nil {
		return nil, errno(err)
	}
	return &Monitor{w}, api.OK
}

// Event takes an event in (P5).
func (m *Monitor) Event(time int, atoms []string) api.Errno {
	return errno(m.watch.Event(time, atoms))
}

// Add adds a policy (P7).
func (m *Monitor) Add(name string, text string) ([]api.Verdict, api.Errno) {
	backfill, err := m.watch.Add(name, text)
	return backfill, errno(err)
}

// Amend gives a policy another sentence (P7).
func (m *Monitor) Amend(name string, text string) ([]api.Verdict, api.Errno) {
	backfill, err := m.watch.Amend(name, text)
	return backfill, errno(err)
}

// Remove removes a policy (P7).
func (m *Monitor) Remove(name string) api.Errno {
	return errno(m.watch.Remove(name))
}

// Stream tells a policy's verdicts (P8).
func (m *Monitor) Stream(name string) ([]api.Verdict, api.Errno) {
	verdicts, err := m.watch.Stream(name)
	return verdicts, errno(err)
}

// Ack drops the first verdicts of a stream (P8).
func (m *Monitor) Ack(name string, n int) api.Errno {
	return errno(m.watch.Ack(name, n))
}

// List tells the policies' names (P8).
func (m *Monitor) List() []string { return m.watch.List() }

// Kept tells how many events are kept (P6).
func (m *Monitor) Kept() int { return m.watch.Kept() }

// Work tells how many nodes are worked out at each event (P9).
func (m *Monitor) Work() int { return m.watch.Work() }
