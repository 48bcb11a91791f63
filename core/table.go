package core

import "vigil/sentence"

// node is a part of a core with its own parts told by their numbers, 0 where there is none.
// So two parts are the same node just if these are equal.
type node struct {
	op          sentence.Op
	name        string
	window      sentence.Window
	left, right int
}

// Table numbers the different nodes of cores, from 1 on; its zero value has none.
type Table struct {
	numbers map[node]int
}

// Put adds a sentence's core with all its parts, and gives the number of its node.
// The core is made whole ahead of that, as a ¬ that meets another one is no node.
func (t *Table) Put(s *sentence.Sentence) int {
	if t.numbers == nil {
		t.numbers = map[node]int{}
	}
	return t.put(Of(s))
}

func (t *Table) put(s *sentence.Sentence) int {
	if s == nil {
		return 0
	}
	n := node{s.Op, s.Name, s.Window, t.put(s.Left), t.put(s.Right)}
	number, ok := t.numbers[n]
	if !ok {
		number = len(t.numbers) + 1
		t.numbers[n] = number
	}
	return number
}

// Count tells how many different nodes there are.
func (t *Table) Count() int { return len(t.numbers) }
