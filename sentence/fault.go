package sentence

import (
	"errors"
	"strconv"
)

// ErrNoSentence is at the bottom of every error about a text that is no sentence.
var ErrNoSentence = errors.New("no sentence")

// Fault tells where in a text, counted in bytes, it stops being a sentence, and why.
type Fault struct {
	Place int
	Why   string
}

func (f *Fault) Error() string {
	return "at byte " + strconv.Itoa(f.Place) + ": " + f.Why + ": " + ErrNoSentence.Error()
}

func (f *Fault) Unwrap() error { return ErrNoSentence }

// TooDeep tells the depth of a sentence that is deeper than any may be.
type TooDeep struct {
	Depth int
}

func (d *TooDeep) Error() string {
	return "a sentence of depth " + strconv.Itoa(d.Depth) + " is too deep"
}

// TextError wraps another error with the text that it is about.
type TextError struct {
	Text string
	Err  error
}

func (t *TextError) Error() string { return strconv.Quote(t.Text) + ": " + t.Err.Error() }

func (t *TextError) Unwrap() error { return t.Err }
