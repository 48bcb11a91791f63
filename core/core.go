// Package core: the cores of sentences, and the different nodes that they are made of.
package core

import "vigil/sentence"

// Of gives a sentence's core: the same said by true, names, ¬, ∧, Y, O and S alone,
// without two ¬ in a row.
func Of(s *sentence.Sentence) *sentence.Sentence {
	switch s.Op {
	case sentence.True, sentence.Name:
		return s
	case sentence.Not:
		return not(Of(s.Left))
	case sentence.Or:
		return not(&sentence.Sentence{Op: sentence.And, Left: not(Of(s.Left)), Right: not(Of(s.Right))})
	case sentence.Always:
		return not(&sentence.Sentence{Op: sentence.Once, Window: s.Window, Left: not(Of(s.Left))})
	case sentence.Before, sentence.Once:
		return &sentence.Sentence{Op: s.Op, Window: s.Window, Left: Of(s.Left)}
	}
	return &sentence.Sentence{Op: s.Op, Window: s.Window, Left: Of(s.Left), Right: Of(s.Right)}
}

// not puts a ¬ ahead of a core, or takes away the one that is there.
func not(s *sentence.Sentence) *sentence.Sentence {
	if s.Op == sentence.Not {
		return s.Left
	}
	return &sentence.Sentence{Op: sentence.Not, Left: s}
}
