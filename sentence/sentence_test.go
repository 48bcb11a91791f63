package sentence

import (
	"errors"
	"strings"
	"testing"

	"vigil/api"
)

func mustRead(t *testing.T, text string) *Sentence {
	t.Helper()
	s, err := Read(text)
	if err != nil {
		t.Fatalf("Read(%q): %v", text, err)
	}
	return s
}

func TestReadTellsWhatIsWritten(t *testing.T) {
	s := mustRead(t, "( !p S[3,7] H[0,2]true )")
	if s.Op != Since || s.Window != (Window{3, 7}) || s.Name != "" {
		t.Errorf("the whole: %+v", *s)
	}
	if l := s.Left; l.Op != Not || l.Window != (Window{}) || l.Right != nil {
		t.Errorf("the left part: %+v", *l)
	}
	if p := s.Left.Left; *p != (Sentence{Op: Name, Name: "p"}) {
		t.Errorf("the name: %+v", *p)
	}
	if r := s.Right; r.Op != Always || r.Window != (Window{0, 2}) || r.Right != nil {
		t.Errorf("the right part: %+v", *r)
	}
	if p := s.Right.Left; *p != (Sentence{Op: True}) {
		t.Errorf("true: %+v", *p)
	}
}

func TestDepthAndReach(t *testing.T) {
	for _, c := range []struct {
		text         string
		depth, reach int
	}{
		{"true", 1, 0},
		{"a", 1, 0},
		{"!a", 2, 0},
		{"(a & !b)", 3, 0},
		{"(!!a | b)", 4, 0},
		{"Y[2,3]a", 2, 3},
		{"O[2,3]a", 2, 3},
		{"H[2,3]a", 2, 3},
		{"(a S[2,3] b)", 2, 3},
		{"(Y[0,9]a S[2,3] O[0,4]b)", 3, 12},
		{"(O[0,4]a S[2,3] Y[0,9]b)", 3, 12},
		{"(O[0,4]a & Y[0,9]b)", 3, 9},
		{"(O[0,9]a | Y[0,4]b)", 3, 9},
		{"!O[0,9]a", 3, 9},
		{"Y[0,3]O[1,5]p", 3, 8},
	} {
		s := mustRead(t, c.text)
		if s.Depth() != c.depth || s.Reach() != c.reach {
			t.Errorf("%q: depth %d, reach %d, want %d, %d", c.text, s.Depth(), s.Reach(), c.depth, c.reach)
		}
	}
}

func TestFaultsTellTheirPlace(t *testing.T) {
	for _, c := range []struct {
		text  string
		place int
		why   string
	}{
		{"", 0, "sentence should begin"},
		{"  ", 2, "sentence should begin"},
		{"(a ∧ A)", 7, "no sign"},
		{"(a ∧ \xac)", 7, "not UTF-8"},
		{"¬\xe2\x88", 2, "not UTF-8"},
		{"¬\ufffd", 2, "no sign"},
		{"a b", 2, "more than a sentence"},
		{"(a b)", 3, "∧, ∨ or S"},
		{"(a ∧ b", 8, "closed"},
		{"!abcdefghi", 1, "name"},
		{"O a", 2, "window should begin"},
		{"O[a,1]a", 2, "number should stand"},
		{"O[0 1]a", 4, "comma"},
		{"O[0,1 a", 6, "window should end"},
		{"O[01,2]a", 2, "begins with 0"},
		{"O[0,1000001]a", 4, "too great"},
		{"O[2,1]a", 1, "ahead of its beginning"},
		{strings.Repeat(" ", 400) + "a", 300, "too long"},
	} {
		s, err := Read(c.text)
		var fault *Fault
		if s != nil || !errors.Is(err, ErrNoSentence) || !errors.As(err, &fault) {
			t.Errorf("Read(%q) = %v, %v", c.text, s, err)
			continue
		}
		if fault.Place != c.place || !strings.Contains(fault.Why, c.why) {
			t.Errorf("Read(%q): %v, want byte %d, %s", c.text, err, c.place, c.why)
		}
	}
}

func TestErrorsAreWrappedWithTheirText(t *testing.T) {
	deep := strings.Repeat("!", api.MaxDepth) + "a"
	for _, text := range []string{"(a)", deep} {
		_, err := Read(text)
		var about *TextError
		if !errors.As(err, &about) || about.Text != text || !strings.Contains(err.Error(), text) {
			t.Errorf("Read(%q): %v", text, err)
		}
	}
	_, err := Read(deep)
	var tooDeep *TooDeep
	if !errors.As(err, &tooDeep) || tooDeep.Depth != api.MaxDepth+1 || errors.Is(err, ErrNoSentence) {
		t.Errorf("Read(%q): %v", deep, err)
	}
}

func TestStringIsReadAgain(t *testing.T) {
	for _, c := range []struct{ text, want string }{
		{" true ", "true"},
		{"! a", "¬a"},
		{"(a&b)", "(a ∧ b)"},
		{"(a|b)", "(a ∨ b)"},
		{"Y [1 , 2] a", "Y[1,2]a"},
		{"O[0,1000000]a", "O[0,1000000]a"},
		{"H[1,2]H[3,4]a", "H[1,2]H[3,4]a"},
		{"(aS[1,2]b)", "(a S[1,2] b)"},
	} {
		if got := mustRead(t, c.text).String(); got != c.want {
			t.Errorf("%q is written %q, want %q", c.text, got, c.want)
		}
		if got := mustRead(t, c.want).String(); got != c.want {
			t.Errorf("%q is written %q", c.want, got)
		}
	}
}
