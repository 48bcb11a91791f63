package past

import (
	"errors"
	"strconv"
	"strings"
	"testing"

	"vigil/core"
	"vigil/sentence"
)

func mustNew(t *testing.T, retain, room int) *Past {
	t.Helper()
	p, err := New(retain, room)
	if err != nil {
		t.Fatalf("New(%d, %d): %v", retain, room, err)
	}
	return &p
}

// judged sets the node of a text's sentence, and gives its number.
func judged(t *testing.T, p *Past, text string) int {
	t.Helper()
	s, err := sentence.Read(text)
	if err != nil {
		t.Fatal(err)
	}
	var table core.Table
	number := table.Put(s)
	p.Judge(table.Nodes())
	return number
}

func numbersOf(events []Event) string {
	var words []string
	for _, e := range events {
		words = append(words, strconv.Itoa(e.Number))
	}
	return strings.Join(words, " ")
}

func TestOldEventsAreDropped(t *testing.T) {
	p := mustNew(t, 5, 3)
	for _, c := range []struct {
		time       int
		kept       int
		known, far string
	}{
		{0, 1, "1", "1"}, {5, 2, "1 2", "1 2"}, {6, 2, "2 3", "3"}, {7, 3, "2 3 4", "3 4"}, {100, 1, "5", ""},
	} {
		if err := p.CheckRoom(c.time); err != nil {
			t.Errorf("at %d: %v", c.time, err)
		}
		p.Take(c.time, nil)
		if p.Kept() != c.kept || numbersOf(p.Known(0)) != c.known || numbersOf(p.Known(1)) != c.far {
			t.Errorf("at %d: %d kept, known %s and %s", c.time, p.Kept(), numbersOf(p.Known(0)), numbersOf(p.Known(1)))
		}
	}
}

func TestNodesAreWorkedOutAtTakenAndAtKeptEvents(t *testing.T) {
	p := mustNew(t, 5, 3)
	p.Take(0, []string{"a"})
	p.Take(2, nil)
	node := judged(t, p, "O[1,5]a")
	got := []bool{p.Take(4, nil).Says(node)}
	for _, e := range p.Known(5) {
		got = append(got, e.Says(node))
	}
	for i, want := range []bool{true, false, true, true} {
		if got[i] != want {
			t.Errorf("answer %d is %v, want %v", i, got[i], want)
		}
	}
	node = judged(t, p, "!a")
	for i, e := range p.Known(0) {
		if e.Says(node) != (i > 0) {
			t.Errorf("event %d says %v", e.Number, e.Says(node))
		}
	}
}

func TestWorkIsWhatAnEventTakes(t *testing.T) {
	p := mustNew(t, 5, 3)
	for time, c := range []struct {
		text string
		want int
	}{{"a", 1}, {"(a | b)", 6}, {"!!O[0,1](a & a)", 3}} {
		judged(t, p, c.text)
		e := p.Take(time, nil)
		// The first answer of an event is that of no node.
		if p.Work() != c.want || len(e.so) != c.want+1 {
			t.Errorf("%s: %d nodes of %d are worked out, want %d", c.text, len(e.so)-1, p.Work(), c.want)
		}
	}
	p.Judge(nil)
	if p.Work() != 0 {
		t.Errorf("Work() = %d without nodes", p.Work())
	}
}

func TestErrorsTellWhatTheyAreAbout(t *testing.T) {
	p := mustNew(t, 5, 1)
	p.Take(3, nil)
	var room *NoRoom
	if err := p.CheckRoom(8); !errors.As(err, &room) || room.Events != 2 {
		t.Errorf("CheckRoom: %v", err)
	}
	var far *TooFar
	if err := p.CheckReach(6); !errors.As(err, &far) || far.Reach != 6 {
		t.Errorf("CheckReach: %v", err)
	}
	if err := p.CheckReach(5); err != nil {
		t.Errorf("CheckReach: %v", err)
	}
	if err := p.CheckTime(3); !errors.Is(err, ErrTime) {
		t.Errorf("CheckTime: %v", err)
	}
	var atom *AtomError
	if err := CheckAtoms([]string{"a", "b", "a"}); !errors.As(err, &atom) || atom.Place != 2 || !errors.Is(err, ErrAtoms) {
		t.Errorf("CheckAtoms: %v", err)
	}
	var out *OutOfRange
	if _, err := New(5, 61); !errors.As(err, &out) || *out != (OutOfRange{"room", 61, 1, 60}) {
		t.Errorf("New: %v", err)
	}
}
