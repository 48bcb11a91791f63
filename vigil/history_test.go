package vigil

import (
	"math/rand/v2"
	"slices"
	"strconv"
	"testing"

	"vigil/api"
)

// A second, slow way to what the monitor answers: it forgets no event, and asks each sentence
// afresh at each of them, in the very words of the document.

type happening struct {
	time  int
	atoms []string
}

// saying is a sentence that the tests made, with what it says at the event of an index.
type saying struct {
	text  string
	reach int
	so    func(all []happening, i int) bool
}

func makeSaying(r *rand.Rand, depth int) saying {
	if depth <= 1 || r.IntN(8) == 0 {
		if r.IntN(10) == 0 {
			return saying{"true", 0, func([]happening, int) bool { return true }}
		}
		name := oneOf(r, "a", "b", "c")
		return saying{name, 0, func(all []happening, i int) bool { return slices.Contains(all[i].atoms, name) }}
	}
	p := makeSaying(r, depth-1)
	q := makeSaying(r, 1+r.IntN(depth-1))
	switch r.IntN(8) {
	case 0:
		return saying{oneOf(r, "!", "¬") + p.text, p.reach, func(all []happening, i int) bool { return !p.so(all, i) }}
	case 1:
		return saying{"(" + p.text + oneOf(r, "&", "∧") + q.text + ")", max(p.reach, q.reach),
			func(all []happening, i int) bool { return p.so(all, i) && q.so(all, i) }}
	case 2:
		return saying{"(" + p.text + oneOf(r, "|", "∨") + q.text + ")", max(p.reach, q.reach),
			func(all []happening, i int) bool { return p.so(all, i) || q.so(all, i) }}
	}
	return makeLookBack(r, p, q)
}

func makeLookBack(r *rand.Rand, p, q saying) saying {
	from := r.IntN(5) * r.IntN(2)
	to := from + r.IntN(6)
	window := "[" + strconv.Itoa(from) + "," + strconv.Itoa(to) + "]"
	inside := func(all []happening, i, j int) bool {
		ago := all[i].time - all[j].time
		return from <= ago && ago <= to
	}
	switch r.IntN(4) {
	case 0:
		return saying{"Y" + window + p.text, p.reach + to, func(all []happening, i int) bool {
			return i > 0 && inside(all, i, i-1) && p.so(all, i-1)
		}}
	case 1:
		return saying{"O" + window + p.text, p.reach + to, func(all []happening, i int) bool {
			some := false
			for j := 0; j <= i; j++ {
				some = some || inside(all, i, j) && p.so(all, j)
			}
			return some
		}}
	case 2:
		return saying{"H" + window + p.text, p.reach + to, func(all []happening, i int) bool {
			every := true
			for j := 0; j <= i; j++ {
				every = every && (!inside(all, i, j) || p.so(all, j))
			}
			return every
		}}
	}
	return saying{"(" + p.text + " S" + window + " " + q.text + ")", max(p.reach, q.reach) + to, func(all []happening, i int) bool {
		some := false
		for j := 0; j <= i; j++ {
			since := inside(all, i, j) && q.so(all, j)
			for k := j + 1; k <= i; k++ {
				since = since && p.so(all, k)
			}
			some = some || since
		}
		return some
	}}
}

type rule struct {
	saying  saying
	version int
	stream  []api.Verdict
}

type history struct {
	retain, room int
	all          []happening
	rules        map[string]*rule
}

// firstKept is the index of the oldest event that is kept when the last one has this time.
func (h *history) firstKept(last int) int {
	first := 0
	for _, e := range h.all {
		if e.time < last-h.retain {
			first++
		}
	}
	return first
}

func (h *history) lastTime() int {
	if len(h.all) == 0 {
		return -1
	}
	return h.all[len(h.all)-1].time
}

func (h *history) kept() int { return len(h.all) - h.firstKept(h.lastTime()) }

func (h *history) event(time int, atoms []string) api.Errno {
	if time <= h.lastTime() {
		return api.ErrTime
	}
	for i, atom := range atoms {
		if slices.Contains(atoms[:i], atom) {
			return api.ErrAtoms
		}
	}
	for _, p := range h.rules {
		if len(p.stream) == api.MaxStream {
			return api.ErrStream
		}
	}
	if len(h.all)+1-h.firstKept(time) > h.room {
		return api.ErrRoom
	}
	h.all = append(h.all, happening{time, slices.Clone(atoms)})
	for _, p := range h.rules {
		p.stream = append(p.stream, h.verdict(p, len(h.all)-1))
	}
	return api.OK
}

func (h *history) verdict(p *rule, i int) api.Verdict {
	return api.Verdict{Event: i + 1, Time: h.all[i].time, Version: p.version, Holds: p.saying.so(h.all, i)}
}

func (h *history) backfill(p *rule) []api.Verdict {
	var out []api.Verdict
	first := h.firstKept(h.lastTime())
	for i := first; i < len(h.all); i++ {
		if first == 0 || h.all[i].time-p.saying.reach >= h.all[first].time {
			out = append(out, h.verdict(p, i))
		}
	}
	return out
}

// tooManyNodes tells whether there are, with s and without the rule of the name left out.
func (h *history) tooManyNodes(s saying, without string) bool {
	texts := []string{s.text}
	for name, p := range h.rules {
		if name != without {
			texts = append(texts, p.saying.text)
		}
	}
	n, _ := Nodes(texts)
	return n > api.MaxNodes
}

func (h *history) add(name string, s saying) ([]api.Verdict, api.Errno) {
	_, e := Print(s.text)
	switch {
	case e != api.OK:
		return nil, e
	case s.reach > h.retain:
		return nil, api.ErrFar
	case h.rules[name] != nil:
		return nil, api.ErrTwice
	case len(h.rules) == api.MaxPolicies:
		return nil, api.ErrPolicies
	case h.tooManyNodes(s, ""):
		return nil, api.ErrNodes
	}
	p := &rule{saying: s, version: 1}
	h.rules[name] = p
	return h.backfill(p), api.OK
}

func (h *history) amend(name string, s saying) ([]api.Verdict, api.Errno) {
	_, e := Print(s.text)
	p := h.rules[name]
	switch {
	case e != api.OK:
		return nil, e
	case s.reach > h.retain:
		return nil, api.ErrFar
	case p == nil:
		return nil, api.ErrNone
	case h.tooManyNodes(s, name):
		return nil, api.ErrNodes
	}
	p.saying = s
	p.version++
	return h.backfill(p), api.OK
}

// work counts the nodes of all rules.
func (h *history) work() int {
	var texts []string
	for _, p := range h.rules {
		texts = append(texts, p.saying.text)
	}
	n, _ := Nodes(texts)
	return n
}

func (h *history) remove(name string) api.Errno {
	if h.rules[name] == nil {
		return api.ErrNone
	}
	delete(h.rules, name)
	return api.OK
}

func (h *history) ack(name string, n int) api.Errno {
	p := h.rules[name]
	if p == nil {
		return api.ErrNone
	}
	if n < 0 || n > len(p.stream) {
		return api.ErrArg
	}
	p.stream = p.stream[n:]
	return api.OK
}

var ruleNames = []string{"p", "q", "r", "s", "pp", "pq", "ab", "x", "y", "z"}

// checkState holds all that can be asked of the monitor against the history.
func checkState(t *testing.T, m *Monitor, h *history) {
	t.Helper()
	var names []string
	for _, name := range slices.Sorted(slices.Values(ruleNames)) {
		got, e := m.Stream(name)
		p := h.rules[name]
		if p == nil {
			if len(got) != 0 || e != api.ErrNone {
				t.Fatalf("P8: Stream(%q) = %s, %d, want ErrNone", name, told(got), e)
			}
			continue
		}
		names = append(names, name)
		if !slices.Equal(got, p.stream) || e != api.OK {
			t.Fatalf("P5: %s says %s, %d, want %s", p.saying.text, told(got), e, told(p.stream))
		}
	}
	if got := m.List(); !slices.Equal(got, names) {
		t.Fatalf("P8: List() = %q, want %q", got, names)
	}
	if got := m.Kept(); got != h.kept() {
		t.Fatalf("P6: Kept() = %d, want %d", got, h.kept())
	}
	if got := m.Work(); got != h.work() {
		t.Fatalf("P9: Work() = %d, want %d", got, h.work())
	}
}

// step makes one call, by chance, of both, and gives what both answered.
func step(r *rand.Rand, m *Monitor, h *history) (call string, got, want []api.Verdict, e, wanted api.Errno) {
	name := ruleNames[r.IntN(len(ruleNames))]
	switch r.IntN(14) {
	case 0, 1:
		s := makeSaying(r, 1+r.IntN(8))
		got, e = m.Add(name, s.text)
		want, wanted = h.add(name, s)
		return "Add(" + name + ", " + s.text + ")", got, want, e, wanted
	case 4, 5:
		s := makeSaying(r, 1+r.IntN(8))
		got, e = m.Amend(name, s.text)
		want, wanted = h.amend(name, s)
		return "Amend(" + name + ", " + s.text + ")", got, want, e, wanted
	case 2:
		if r.IntN(3) > 0 {
			break
		}
		return "Remove(" + name + ")", nil, nil, m.Remove(name), h.remove(name)
	case 3:
		n := r.IntN(api.MaxStream+4) - 1
		return "Ack(" + name + ", " + strconv.Itoa(n) + ")", nil, nil, m.Ack(name, n), h.ack(name, n)
	}
	time := h.lastTime() + r.IntN(4)
	if r.IntN(10) == 0 {
		time += r.IntN(2 * (h.retain + 1))
	}
	var atoms []string
	for range r.IntN(4) {
		atoms = append(atoms, oneOf(r, "a", "b", "c", "d"))
	}
	return "Event(" + strconv.Itoa(time) + ")", nil, nil, m.Event(time, atoms), h.event(time, atoms)
}

func TestAgainstAHistoryThatForgetsNothing(t *testing.T) {
	r := rand.New(rand.NewPCG(9, 10))
	seen := map[api.Errno]int{}
	for range 300 {
		retain, room := []int{0, 3, 8, 15, 30, 80}[r.IntN(6)], []int{1, 4, 10, 20, 60}[r.IntN(5)]
		m := newMonitor(t, retain, room)
		h := &history{retain: retain, room: room, rules: map[string]*rule{}}
		for range 150 {
			call, got, want, e, wanted := step(r, m, h)
			seen[e]++
			if e != wanted || !slices.Equal(got, want) {
				t.Fatalf("%s of New(%d, %d) behind %v = %s, %d, want %s, %d", call, retain, room, h.all, told(got), e, told(want), wanted)
			}
			checkState(t, m, h)
		}
	}
	for _, e := range []api.Errno{api.OK, api.ErrFar, api.ErrTwice, api.ErrNone, api.ErrPolicies, api.ErrNodes, api.ErrTime, api.ErrAtoms, api.ErrStream, api.ErrRoom, api.ErrArg} {
		if seen[e] < 20 {
			t.Errorf("only %d calls answered %d", seen[e], e)
		}
	}
}
