package vigil

import (
	"math/rand/v2"
	"slices"
	"strings"
	"sync"
	"testing"
	"unsafe"

	"vigil/api"
)

// spoil writes over a list that came out, and over its spare room.
func spoil(verdicts []api.Verdict) {
	whole := verdicts[:cap(verdicts)]
	for i := range whole {
		whole[i] = api.Verdict{Event: -1, Time: -1, Version: -1, Holds: !whole[i].Holds}
	}
}

func TestListsThatComeOutAreTheCallers(t *testing.T) {
	m := newMonitor(t, 10, 60)
	add(t, m, "p", "a", "")
	add(t, m, "r", "a", "")
	for i := range 5 {
		event(t, m, i, "a")
		spoil(mustStream(t, m, "p"))
		names := m.List()
		names = names[:cap(names)]
		for i := range names {
			names[i] = "spoilt"
		}
	}
	ack(t, m, "p", 2, api.OK)
	first, second := mustStream(t, m, "p"), mustStream(t, m, "p")
	spoil(first)
	if told(second) != "3@2:1+ 4@3:1+ 5@4:1+" {
		t.Errorf("P2: two lists share memory: %s", told(second))
	}
	event(t, m, 5)
	if told(second) != "3@2:1+ 4@3:1+ 5@4:1+" {
		t.Errorf("P2: a list that came out was changed by an event: %s", told(second))
	}
	ack(t, m, "p", 1, api.OK)
	if told(second) != "3@2:1+ 4@3:1+ 5@4:1+" {
		t.Errorf("P2: a list that came out was changed by Ack: %s", told(second))
	}
	backfill, _ := m.Add("q", "a")
	spoil(backfill)
	remove(t, m, "q", api.OK)
	add(t, m, "q", "a", "1@0:1+ 2@1:1+ 3@2:1+ 4@3:1+ 5@4:1+ 6@5:1-")
	stream(t, m, "p", "4@3:1+ 5@4:1+ 6@5:1-")
	stream(t, m, "r", "1@0:1+ 2@1:1+ 3@2:1+ 4@3:1+ 5@4:1+ 6@5:1-")
	list(t, m, "p", "q", "r")
}

func TestAtomsThatAreHandedInAreNotKept(t *testing.T) {
	m := newMonitor(t, 10, 60)
	whole := []string{"c", "a", "b", "spare"}
	before := slices.Clone(whole)
	for i := range 4 {
		event(t, m, i, whole[:3]...)
		if !slices.Equal(whole, before) {
			t.Fatalf("P2: the list is %q now, was %q", whole, before)
		}
	}
	bytes := []byte("de")
	event(t, m, 4, unsafe.String(&bytes[0], 1), unsafe.String(&bytes[1], 1))
	for i := range whole {
		whole[i] = "x"
	}
	bytes[0], bytes[1] = 'x', 'x'
	add(t, m, "p", "(a & (b & c))", "1@0:1+ 2@1:1+ 3@2:1+ 4@3:1+ 5@4:1-")
	add(t, m, "q", "x", "1@0:1- 2@1:1- 3@2:1- 4@3:1- 5@4:1-")
	add(t, m, "r", "(d & e)", "1@0:1- 2@1:1- 3@2:1- 4@3:1- 5@4:1+")
}

func TestTextsThatAreHandedInAreNotKept(t *testing.T) {
	m := newMonitor(t, 10, 60)
	name, text := []byte("p"), []byte("(a & !b)")
	add(t, m, unsafe.String(&name[0], len(name)), unsafe.String(&text[0], len(text)), "")
	name[0] = 'z'
	copy(text, "(c & !d)")
	list(t, m, "p")
	event(t, m, 0, "a")
	event(t, m, 1, "c")
	stream(t, m, "p", "1@0:1+ 2@1:1-")
	add(t, m, "q", "b", "1@0:1- 2@1:1-")
	stream(t, m, "p", "1@0:1+ 2@1:1-")
}

// TestMonitorsShareNothing has several at a time that are called alike, and must answer alike.
func TestMonitorsShareNothing(t *testing.T) {
	answers := make([]string, 8)
	var group sync.WaitGroup
	for worker := range answers {
		group.Go(func() {
			r := rand.New(rand.NewPCG(11, 12))
			m, _ := New(12, 20)
			h := &history{retain: 12, room: 20, rules: map[string]*rule{}}
			var answer strings.Builder
			for range 200 {
				call, got, _, e, _ := step(r, m, h)
				answer.WriteString(call + told(got) + string(rune('a'+e)))
			}
			answers[worker] = answer.String()
		})
	}
	group.Wait()
	for _, answer := range answers[1:] {
		if answer != answers[0] {
			t.Errorf("P2: the same calls are answered by\n%s\nand by\n%s", answers[0], answer)
		}
	}
}

func TestEveryCallOfAMonitorEnds(t *testing.T) {
	r := rand.New(rand.NewPCG(13, 14))
	numbers := []int{-1 << 63, -1, 0, 1, 2, 30, 31, api.MaxTime, api.MaxTime + 1, 1<<63 - 1}
	texts := []string{"", "a", "p", "true", "O[0,1]a", "A", "\xff", "(a & b)", strings.Repeat("!", 200) + "a", strings.Repeat("(", 100000), "Y[0,1000000]a"}
	for range 200 {
		m := newMonitor(t, r.IntN(3), 1+r.IntN(3))
		for range 100 {
			number, text := numbers[r.IntN(len(numbers))], texts[r.IntN(len(texts))]
			switch r.IntN(7) {
			case 0:
				m.Event(number, texts[:r.IntN(len(texts))])
			case 1:
				m.Event(number, texts[1:1+r.IntN(3)])
			case 2:
				m.Add(text, texts[r.IntN(len(texts))])
			case 3:
				m.Remove(text)
			case 4:
				m.Ack(text, number)
			case 5:
				m.Stream(text)
			case 6:
				m.Amend(text, texts[r.IntN(len(texts))])
			}
			if kept := m.Kept(); kept < 0 || kept > 3 || len(m.List()) > 2 {
				t.Fatalf("P1: %d events, policies %q", kept, m.List())
			}
		}
	}
}
