package sentence

import (
	"strconv"
	"strings"

	"vigil/api"
)

const trueWord = "true"

// Read reads a text that is one sentence, no deeper than a sentence may be.
// Its errors wrap ErrNoSentence or are, as errors.As tells, a TooDeep.
func Read(text string) (*Sentence, error) {
	s, err := read(text)
	if err != nil {
		return nil, &TextError{text, err}
	}
	return s, nil
}

func read(text string) (*Sentence, error) {
	// This also bounds how deep the reader goes before it knows the depth.
	if len(text) > api.MaxText {
		return nil, &Fault{api.MaxText, "too long a text"}
	}
	tokens, err := scan(text)
	if err != nil {
		return nil, err
	}
	r := reader{tokens}
	s, err := r.sentence()
	if err != nil {
		return nil, err
	}
	if err := r.expect(endSign, "more than a sentence"); err != nil {
		return nil, err
	}
	if depth := s.Depth(); depth > api.MaxDepth {
		return nil, &TooDeep{depth}
	}
	return s, nil
}

// reader holds the tokens that are still to be read.
type reader struct {
	tokens []token
}

// take gives the next token; the one for the end stays, however often it is taken.
func (r *reader) take() token {
	t := r.tokens[0]
	if t.sign != endSign {
		r.tokens = r.tokens[1:]
	}
	return t
}

func (r *reader) expect(sign rune, why string) error {
	if t := r.take(); t.sign != sign {
		return &Fault{t.place, why}
	}
	return nil
}

func (r *reader) sentence() (*Sentence, error) {
	t := r.take()
	switch t.sign {
	case nameSign:
		return word(t)
	case '(':
		return r.pair()
	case rune(Not), rune(Before), rune(Once), rune(Always):
		return r.single(Op(t.sign))
	}
	return nil, &Fault{t.place, "where a sentence should begin"}
}

// word reads letters that stand together: true, or a name.
func word(t token) (*Sentence, error) {
	if t.word == trueWord {
		return &Sentence{Op: True}, nil
	}
	if len(t.word) > api.MaxName {
		return nil, &Fault{t.place, "too long a name"}
	}
	// A copy, so that the sentence keeps nothing of the text.
	return &Sentence{Op: Name, Name: strings.Clone(t.word)}, nil
}

// single reads what stands behind the sign of a sentence that has one part.
func (r *reader) single(op Op) (*Sentence, error) {
	window, err := r.windowOf(op)
	if err != nil {
		return nil, err
	}
	part, err := r.sentence()
	if err != nil {
		return nil, err
	}
	return &Sentence{Op: op, Window: window, Left: part}, nil
}

// pair reads what stands behind the bracket of a sentence that has two parts.
func (r *reader) pair() (*Sentence, error) {
	left, err := r.sentence()
	if err != nil {
		return nil, err
	}
	t := r.take()
	op := Op(t.sign)
	if op != And && op != Or && op != Since {
		return nil, &Fault{t.place, "where ∧, ∨ or S should stand"}
	}
	window, err := r.windowOf(op)
	if err != nil {
		return nil, err
	}
	right, err := r.sentence()
	if err != nil {
		return nil, err
	}
	if err := r.expect(')', "where a bracket should be closed"); err != nil {
		return nil, err
	}
	return &Sentence{Op: op, Window: window, Left: left, Right: right}, nil
}

// windowOf reads the window behind a sign, if it is one that has a window.
func (r *reader) windowOf(op Op) (Window, error) {
	if !op.hasWindow() {
		return Window{}, nil
	}
	place := r.tokens[0].place
	if err := r.expect('[', "where a window should begin"); err != nil {
		return Window{}, err
	}
	from, err := r.number()
	if err != nil {
		return Window{}, err
	}
	if err := r.expect(',', "where a comma should stand"); err != nil {
		return Window{}, err
	}
	to, err := r.number()
	if err != nil {
		return Window{}, err
	}
	if err := r.expect(']', "where a window should end"); err != nil {
		return Window{}, err
	}
	if from > to {
		return Window{}, &Fault{place, "a window that ends ahead of its beginning"}
	}
	return Window{from, to}, nil
}

func (r *reader) number() (int, error) {
	t := r.take()
	if t.sign != numberSign {
		return 0, &Fault{t.place, "where a number should stand"}
	}
	if len(t.word) > 1 && t.word[0] == '0' {
		return 0, &Fault{t.place, "a number that begins with 0"}
	}
	n, err := strconv.Atoi(t.word)
	// Only digits come here, so that Atoi fails at too great a number alone.
	if err != nil || n > api.MaxNumber {
		return 0, &Fault{t.place, "too great a number"}
	}
	return n, nil
}
