// Package sentence: the sentences that policies are written in, read from a text and written again.
package sentence

import (
	"strconv"
	"strings"
)

// Op tells what a sentence is made by. It is the sign that Print writes for it,
// except for True and Name, which have no sign of their own.
type Op rune

const (
	True   Op = 't'
	Name   Op = 'a'
	Not    Op = '¬'
	And    Op = '∧'
	Or     Op = '∨'
	Before Op = 'Y'
	Once   Op = 'O'
	Always Op = 'H'
	Since  Op = 'S'
)

// Window is how far back, from and to, a sentence looks.
type Window struct {
	From, To int
}

// Sentence is a sentence with its parts: none (True, Name), Left alone, or both.
// Name is empty but for a Name, Window is zero where the Op has none.
type Sentence struct {
	Op          Op
	Name        string
	Window      Window
	Left, Right *Sentence
}

// Depth counts the levels of which the sentence is made.
func (s *Sentence) Depth() int {
	if s == nil {
		return 0
	}
	return 1 + max(s.Left.Depth(), s.Right.Depth())
}

// Reach tells how far back in time the sentence may look.
func (s *Sentence) Reach() int {
	if s == nil {
		return 0
	}
	// A sentence without a window has the zero one, which adds nothing.
	return s.Window.To + max(s.Left.Reach(), s.Right.Reach())
}

// String writes the sentence in the one way in which Print tells it.
func (s *Sentence) String() string {
	var b strings.Builder
	s.write(&b)
	return b.String()
}

func (s *Sentence) write(b *strings.Builder) {
	switch s.Op {
	case True:
		b.WriteString(trueWord)
	case Name:
		b.WriteString(s.Name)
	case And, Or, Since:
		s.writePair(b)
	default:
		s.writeOp(b)
		s.Left.write(b)
	}
}

func (s *Sentence) writePair(b *strings.Builder) {
	b.WriteByte('(')
	s.Left.write(b)
	b.WriteByte(' ')
	s.writeOp(b)
	b.WriteByte(' ')
	s.Right.write(b)
	b.WriteByte(')')
}

func (s *Sentence) writeOp(b *strings.Builder) {
	b.WriteRune(rune(s.Op))
	if s.Op.hasWindow() {
		b.WriteByte('[')
		b.WriteString(strconv.Itoa(s.Window.From))
		b.WriteByte(',')
		b.WriteString(strconv.Itoa(s.Window.To))
		b.WriteByte(']')
	}
}

func (o Op) hasWindow() bool {
	switch o {
	case Before, Once, Always, Since:
		return true
	}
	return false
}
