package core

import (
	"slices"

	"vigil/sentence"
)

// Node is a part of a core with its own parts told by their numbers, 0 where there is none.
// So two parts are the same node just if these are equal.
type Node struct {
	Op          sentence.Op
	Name        string
	Window      sentence.Window
	Left, Right int
}

// Table numbers the different nodes of cores, from 1 on; its zero value has none.
type Table struct {
	numbers map[Node]int
	nodes   []Node
}

// Put adds a sentence's core with all its parts, and gives the number of its node.
// The core is made whole ahead of that, as a ¬ that meets another one is no node.
func (t *Table) Put(s *sentence.Sentence) int {
	if t.numbers == nil {
		t.numbers = map[Node]int{}
	}
	return t.put(Of(s))
}

func (t *Table) put(s *sentence.Sentence) int {
	if s == nil {
		return 0
	}
	n := Node{s.Op, s.Name, s.Window, t.put(s.Left), t.put(s.Right)}
	number, ok := t.numbers[n]
	if !ok {
		t.nodes = append(t.nodes, n)
		number = len(t.nodes)
		t.numbers[n] = number
	}
	return number
}

// Count tells how many different nodes there are.
func (t *Table) Count() int { return len(t.nodes) }

// Nodes gives the nodes in the order of their numbers: each behind its parts.
func (t *Table) Nodes() []Node { return slices.Clone(t.nodes) }
