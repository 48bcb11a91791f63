package watch

import (
	"errors"
	"strconv"
	"strings"
	"testing"

	"vigil/api"
	"vigil/past"
	"vigil/sentence"
)

func mustNew(t *testing.T, retain, room int) *Watch {
	t.Helper()
	w, err := New(retain, room)
	if err != nil {
		t.Fatalf("New(%d, %d): %v", retain, room, err)
	}
	return w
}

func TestErrorsAreWrappedWithTheirPolicy(t *testing.T) {
	w := mustNew(t, 5, 5)
	if _, err := w.Add("there", "a"); err != nil {
		t.Fatal(err)
	}
	_, noName := w.Add("", "a")
	_, noText := w.Add("p", "")
	_, tooFar := w.Add("p", "O[0,6]a")
	_, twice := w.Add("there", "a")
	_, noStream := w.Stream("p")
	_, noPolicy := w.Amend("p", "a")
	_, noSuchText := w.Amend("there", "")
	for _, c := range []struct {
		err    error
		policy string
		bottom error
	}{
		{noName, "", ErrNoName}, {noText, "p", sentence.ErrNoSentence}, {twice, "there", ErrTwice},
		{noPolicy, "p", ErrNone}, {noSuchText, "there", sentence.ErrNoSentence},
		{noStream, "p", ErrNone}, {w.Remove("q"), "q", ErrNone}, {w.Ack("r", 0), "r", ErrNone},
	} {
		var about *PolicyError
		if !errors.As(c.err, &about) || about.Policy != c.policy || !errors.Is(c.err, c.bottom) {
			t.Errorf("%v is not of policy %q and %v", c.err, c.policy, c.bottom)
		}
	}
	var far *past.TooFar
	var text *sentence.TextError
	if !errors.As(tooFar, &far) || far.Reach != 6 || !errors.As(noText, &text) {
		t.Errorf("%v and %v do not tell what they are about", tooFar, noText)
	}
	var out *past.OutOfRange
	if err := w.Ack("there", 1); !errors.As(err, &out) || out.Value != 1 || out.Most != 0 {
		t.Errorf("Ack: %v", err)
	}
}

func TestTooManyNodesAreCounted(t *testing.T) {
	w := mustNew(t, api.MaxRetain, 5)
	chain := func(window, length int) string { return strings.Repeat("O[0,"+strconv.Itoa(window)+"]", length) + "a" }
	for i, name := range []string{"p", "q", "r"} {
		if _, err := w.Add(name, chain(i, 11)); err != nil {
			t.Fatal(err)
		}
	}
	var many *TooManyNodes
	if _, err := w.Add("s", chain(3, 11)); !errors.As(err, &many) || many.Count != 1+4*11 {
		t.Errorf("Add: %v", err)
	}
	if _, err := w.Amend("r", "("+chain(3, 10)+" & "+chain(4, 10)+")"); !errors.As(err, &many) || many.Count != 1+2*11+2*10+1 {
		t.Errorf("Amend: %v", err)
	}
	if _, err := w.Amend("r", chain(3, 11)); err != nil {
		t.Errorf("Amend: %v", err)
	}
}

func TestErrorsAreWrappedWithTheirEvent(t *testing.T) {
	w := mustNew(t, 0, 5)
	if _, err := w.Add("p", "a"); err != nil {
		t.Fatal(err)
	}
	for i := range api.MaxStream {
		if err := w.Event(i, nil); err != nil {
			t.Fatal(err)
		}
	}
	var about *EventError
	if err := w.Event(7, nil); !errors.As(err, &about) || about.Time != 7 || !errors.Is(err, past.ErrTime) {
		t.Errorf("Event: %v", err)
	}
	var full *StreamFull
	if err := w.Event(100, nil); !errors.As(err, &about) || about.Time != 100 || !errors.As(err, &full) || full.Policy != "p" {
		t.Errorf("Event: %v", err)
	}
}

func TestSendHasRoomForAllVerdictsAndCloses(t *testing.T) {
	w := mustNew(t, 5, 5)
	for _, name := range []string{"q", "p", "r"} {
		if _, err := w.Add(name, name); err != nil {
			t.Fatal(err)
		}
	}
	e := w.past.Take(3, []string{"p", "r"})
	letters := send(w.policies, e)
	if cap(letters) != 3 {
		t.Errorf("room for %d verdicts, want 3", cap(letters))
	}
	got := map[*stream]api.Verdict{}
	for l := range letters {
		got[l.to] = l.verdict
	}
	for _, p := range w.policies {
		if want := (api.Verdict{Event: 1, Time: 3, Version: 1, Holds: p.name != "q"}); got[p.stream] != want {
			t.Errorf("%s is sent %v, want %v", p.name, got[p.stream], want)
		}
	}
	for range send(nil, e) {
		t.Error("a verdict of no policy")
	}
}
