package vigil

import (
	"math/rand/v2"
	"slices"
	"strconv"
	"strings"
	"testing"
	"unsafe"

	"vigil/api"
)

func amend(t *testing.T, m *Monitor, name, text, backfill string) {
	t.Helper()
	if got, e := m.Amend(name, text); told(got) != backfill || e != api.OK {
		t.Errorf("P7: Amend(%q, %q) = %s, %d, want %s", name, text, told(got), e, backfill)
	}
}

func amendFails(t *testing.T, m *Monitor, name, text string, want api.Errno) {
	t.Helper()
	if got, e := m.Amend(name, text); len(got) != 0 || e != want {
		t.Errorf("P7: Amend(%q, %q) = %s, %d, want error %d", name, text, told(got), e, want)
	}
}

func work(t *testing.T, m *Monitor, want int) {
	t.Helper()
	if got := m.Work(); got != want {
		t.Errorf("P9: Work() = %d, want %d", got, want)
	}
}

func TestDocumentsExampleOfAmend(t *testing.T) {
	m := newMonitor(t, 10, 20)
	add(t, m, "p", "O[2,5]a", "")
	event(t, m, 0, "a")
	event(t, m, 3)
	event(t, m, 9)
	add(t, m, "q", "Y[0,9]a", "1@0:1- 2@3:1+ 3@9:1-")
	event(t, m, 12)
	add(t, m, "r", "O[0,5]a", "3@9:1- 4@12:1-")
	work(t, m, 4)
	amend(t, m, "p", "a", "2@3:2- 3@9:2- 4@12:2-")
	stream(t, m, "p", "1@0:1- 2@3:1+ 3@9:1- 4@12:1-")
	ack(t, m, "p", 2, api.OK)
	event(t, m, 13, "a")
	stream(t, m, "p", "3@9:1- 4@12:1- 5@13:2+")
	work(t, m, 3)
}

func TestAmendWithoutEvents(t *testing.T) {
	m := newMonitor(t, 10, 20)
	add(t, m, "p", "a", "")
	amend(t, m, "p", "b", "")
	stream(t, m, "p", "")
	event(t, m, 0, "b")
	stream(t, m, "p", "1@0:2+")
}

func TestAmendWithTheSameSentence(t *testing.T) {
	m := newMonitor(t, 10, 20)
	add(t, m, "p", "(a | O[0,3]b)", "")
	event(t, m, 0, "b")
	for version, text := range []string{"(a | O[0,3]b)", "( a ∨ O[0,3] b )", "!(!a & !O[0,3]b)"} {
		amend(t, m, "p", text, "1@0:"+strconv.Itoa(version+2)+"+")
		work(t, m, 7)
	}
	stream(t, m, "p", "1@0:1+")
	event(t, m, 4)
	stream(t, m, "p", "1@0:1+ 2@4:4-")
}

func TestVersionsAreCountedForEachPolicy(t *testing.T) {
	m := newMonitor(t, 0, 1)
	add(t, m, "p", "a", "")
	add(t, m, "q", "a", "")
	event(t, m, 0, "a")
	for version := 2; version < 500; version++ {
		sign := []string{"+", "-"}[version%2]
		amend(t, m, "p", []string{"a", "!a"}[version%2], "1@0:"+strconv.Itoa(version)+sign)
	}
	amend(t, m, "q", "!a", "1@0:2-")
	event(t, m, 1, "a")
	stream(t, m, "p", "1@0:1+ 2@1:499-")
	stream(t, m, "q", "1@0:1+ 2@1:2-")
	remove(t, m, "p", api.OK)
	add(t, m, "p", "a", "2@1:1+")
	amend(t, m, "p", "!a", "2@1:2-")
	event(t, m, 2)
	stream(t, m, "p", "3@2:2+")
	stream(t, m, "q", "1@0:1+ 2@1:2- 3@2:2+")
}

func TestAmendLeavesAFullStreamFull(t *testing.T) {
	m := newMonitor(t, 1, 5)
	add(t, m, "p", "a", "")
	for i := range api.MaxStream {
		event(t, m, i, "a")
	}
	whole := told(mustStream(t, m, "p"))
	amend(t, m, "p", "!a", "29@28:2- 30@29:2-")
	stream(t, m, "p", whole)
	eventFails(t, m, 50, nil, api.ErrStream)
	ack(t, m, "p", api.MaxStream-1, api.OK)
	event(t, m, 50)
	stream(t, m, "p", "30@29:1+ 31@50:2+")
}

func TestAmendBehindDroppedEvents(t *testing.T) {
	m := newMonitor(t, 10, 60)
	add(t, m, "p", "b", "")
	event(t, m, 0, "a")
	event(t, m, 2)
	event(t, m, 5, "b")
	event(t, m, 10)
	// Nothing was dropped: every event is told, however far the sentence reaches.
	amend(t, m, "p", "O[0,10]a", "1@0:2+ 2@2:2+ 3@5:2+ 4@10:2+")
	event(t, m, 11)
	kept(t, m, 4)
	// The event at 0 was dropped, and the sentence that knew of it does not help.
	amend(t, m, "p", "O[0,10]a", "")
	amend(t, m, "p", "O[0,9]a", "5@11:4-")
	amend(t, m, "p", "O[0,8]b", "4@10:5+ 5@11:5+")
	amend(t, m, "p", "O[0,3]true", "3@5:6+ 4@10:6+ 5@11:6+")
	amend(t, m, "p", "!O[0,0]b", "2@2:7+ 3@5:7- 4@10:7+ 5@11:7+")
	amend(t, m, "p", "Y[3,3]Y[0,2]true", "4@10:8- 5@11:8-")
	amend(t, m, "p", "(true S[6,10] b)", "")
	event(t, m, 12)
	stream(t, m, "p", "1@0:1- 2@2:1- 3@5:1+ 4@10:1- 5@11:2- 6@12:9+")
	event(t, m, 100)
	amend(t, m, "p", "H[0,1]a", "")
	amend(t, m, "p", "H[0,0]a", "7@100:11-")
}

// TestAmendedSentenceKnowsThePast has events that only the sentence that comes later asks for.
func TestAmendedSentenceKnowsThePast(t *testing.T) {
	m := newMonitor(t, 10, 60)
	add(t, m, "p", "true", "")
	event(t, m, 0, "a")
	event(t, m, 2, "b")
	event(t, m, 4, "b", "c")
	amend(t, m, "p", "(b S[0,6] a)", "1@0:2+ 2@2:2+ 3@4:2+")
	event(t, m, 6, "b")
	amend(t, m, "p", "Y[0,2]Y[0,2]c", "1@0:3- 2@2:3- 3@4:3- 4@6:3-")
	event(t, m, 8)
	stream(t, m, "p", "1@0:1+ 2@2:1+ 3@4:1+ 4@6:2+ 5@8:3+")
}

func TestOrderOfAmendErrors(t *testing.T) {
	deep := strings.Repeat("O[0,100]", api.MaxDepth) + "a"
	wide := manyNodes(api.MaxNodes + 1)
	m := newMonitor(t, 10, 5)
	add(t, m, "p", "O[0,10]a", "")
	add(t, m, "q", "!a", "")
	event(t, m, 3, "a")
	for _, name := range []string{"", "P", "true", "abcdefghi", "a b", "a1", "é", "\xff", strings.Repeat("p", 1<<20)} {
		for _, text := range []string{"", deep, "O[0,11]a", "a", wide} {
			amendFails(t, m, name, text, api.ErrName)
		}
	}
	for _, name := range []string{"p", "q", "new"} {
		amendFails(t, m, name, "", api.ErrText)
		amendFails(t, m, name, "\xff", api.ErrText)
		amendFails(t, m, name, deep+")", api.ErrText)
		amendFails(t, m, name, deep, api.ErrDeep)
		amendFails(t, m, name, "O[0,11]a", api.ErrFar)
		amendFails(t, m, name, "Y[0,5]("+wide+"& O[0,6]a)", api.ErrFar)
	}
	amendFails(t, m, "new", wide, api.ErrNone)
	amendFails(t, m, "new", "a", api.ErrNone)
	amendFails(t, m, "p", wide, api.ErrNodes)
	// Nothing was changed by all this.
	list(t, m, "p", "q")
	work(t, m, 3)
	kept(t, m, 1)
	stream(t, m, "p", "1@3:1+")
	stream(t, m, "q", "1@3:1-")
	event(t, m, 5)
	stream(t, m, "p", "1@3:1+ 2@5:1+")
	stream(t, m, "q", "1@3:1- 2@5:1+")
	amend(t, m, "p", "a", "1@3:2+ 2@5:2-")
}

func TestAmendOfAMonitorWithoutPolicies(t *testing.T) {
	m := newMonitor(t, 10, 5)
	amendFails(t, m, "p", "a", api.ErrNone)
	amendFails(t, m, "p", manyNodes(api.MaxNodes+1), api.ErrNone)
	list(t, m)
	event(t, m, 0, "a")
	add(t, m, "p", "a", "1@0:1+")
	remove(t, m, "p", api.OK)
	amendFails(t, m, "p", "a", api.ErrNone)
	list(t, m)
	work(t, m, 0)
}

func TestAmendAmongMaxPolicies(t *testing.T) {
	m := newMonitor(t, 10, 5)
	names := strings.Fields("a b c d e f g h")
	for _, name := range names {
		add(t, m, name, name, "")
	}
	amend(t, m, "c", "!c", "")
	amend(t, m, "h", "x", "")
	amendFails(t, m, "i", "a", api.ErrNone)
	list(t, m, names...)
	event(t, m, 3, "a", "c", "h")
	for i, name := range names {
		stream(t, m, name, "1@3:"+strings.Fields("1+ 1- 2- 1- 1- 1- 1- 2-")[i])
	}
}

// otherNodes has as many different nodes as manyNodes, and none of them is one of those.
func otherNodes(n int) string {
	return strings.ReplaceAll(strings.ReplaceAll(manyNodes(n), "b", "yb"), "c", "xc")
}

func TestMaxNodesWithoutTheOldSentence(t *testing.T) {
	if n, e := Nodes([]string{manyNodes(40), otherNodes(40)}); n != 80 || e != api.OK {
		t.Fatalf("both sentences have %d nodes, %d", n, e)
	}
	m := newMonitor(t, 10, 5)
	add(t, m, "p", manyNodes(40), "")
	amend(t, m, "p", otherNodes(40), "")
	work(t, m, 40)
	amendFails(t, m, "p", otherNodes(41), api.ErrNodes)
	amendFails(t, m, "p", manyNodes(41), api.ErrNodes)
	work(t, m, 40)
	amend(t, m, "p", otherNodes(39), "")
	add(t, m, "q", "a", "")
	work(t, m, 40)
	// Of the nodes that are free without the old sentence, those of all others are left.
	amendFails(t, m, "p", manyNodes(40), api.ErrNodes)
	amend(t, m, "p", manyNodes(39), "")
	amendFails(t, m, "q", "!a", api.ErrNodes)
	amendFails(t, m, "q", "O[0,1]a", api.ErrNodes)
	amend(t, m, "q", "O[0,1]b", "")
	event(t, m, 1, "b")
	stream(t, m, "p", "1@1:4-")
	stream(t, m, "q", "1@1:2+")
}

func TestMaxNodesWithNodesThatOthersShare(t *testing.T) {
	m := newMonitor(t, 10, 5)
	add(t, m, "p", manyNodes(40), "")
	add(t, m, "q", manyNodes(39), "")
	add(t, m, "r", manyNodes(39), "")
	work(t, m, 40)
	// Without the old sentence of q or r, all its nodes are still those of p.
	amendFails(t, m, "q", "a", api.ErrNodes)
	amendFails(t, m, "r", "!b", api.ErrNodes)
	amend(t, m, "q", "b", "")
	work(t, m, 40)
	// Without that of p, one node is free: r has the others.
	amendFails(t, m, "p", "!a", api.ErrNodes)
	amend(t, m, "p", "!b", "")
	work(t, m, 40)
	amend(t, m, "r", "b", "")
	work(t, m, 2)
	event(t, m, 1, "b")
	stream(t, m, "p", "1@1:2-")
	stream(t, m, "q", "1@1:2+")
	stream(t, m, "r", "1@1:2+")
}

func TestAmendOfAPolicyThatSharesItsNodes(t *testing.T) {
	m := newMonitor(t, 20, 60)
	add(t, m, "p", "O[0,5]a", "")
	add(t, m, "q", "(O[0,5]a & !b)", "")
	add(t, m, "r", "O[0,5]a", "")
	work(t, m, 5)
	event(t, m, 0, "a")
	amend(t, m, "p", "(O[0,5]a & b)", "1@0:2-")
	work(t, m, 6)
	event(t, m, 4, "b")
	amend(t, m, "q", "b", "1@0:2- 2@4:2+")
	work(t, m, 4)
	event(t, m, 5)
	amend(t, m, "p", "b", "1@0:3- 2@4:3+ 3@5:3-")
	work(t, m, 3)
	event(t, m, 6, "b")
	stream(t, m, "p", "1@0:1+ 2@4:2+ 3@5:2- 4@6:3+")
	stream(t, m, "q", "1@0:1+ 2@4:1- 3@5:2- 4@6:2+")
	stream(t, m, "r", "1@0:1+ 2@4:1+ 3@5:1+ 4@6:1-")
}

func TestWork(t *testing.T) {
	m := newMonitor(t, 100, 60)
	work(t, m, 0)
	event(t, m, 0, "a")
	work(t, m, 0)
	for _, c := range []struct {
		name, text string
		want       int
	}{
		{"a", "(a | b)", 6}, {"b", "!(!a & !b)", 6}, {"c", "!!b", 6}, {"d", "(b & a)", 7}, {"e", "H[0,3]b", 9},
		{"f", "!O[0,3]!b", 9}, {"g", "O[0,3]b", 10}, {"h", "(true S[0,3] b)", 12},
	} {
		if _, e := m.Add(c.name, c.text); e != api.OK {
			t.Errorf("P7: Add(%q, %q): error %d", c.name, c.text, e)
		}
		work(t, m, c.want)
	}
	addFails(t, m, "i", "Y[0,1]c", api.ErrPolicies)
	amendFails(t, m, "h", "Y[0,101]c", api.ErrFar)
	remove(t, m, "i", api.ErrNone)
	event(t, m, 1)
	ack(t, m, "a", 1, api.OK)
	work(t, m, 12)
	for i, name := range strings.Fields("a c b h e d f g") {
		remove(t, m, name, api.OK)
		work(t, m, []int{12, 12, 9, 7, 7, 5, 2, 0}[i])
	}
}

func TestWorkOfMadeSentences(t *testing.T) {
	r := rand.New(rand.NewPCG(15, 16))
	for range 300 {
		m := newMonitor(t, api.MaxRetain, 60)
		texts := map[string]string{}
		for range 20 {
			name, s := oneOf(r, "p", "q", "r"), makeSaying(r, 1+r.IntN(5))
			if _, e := m.Add(name, s.text); e == api.OK {
				texts[name] = s.text
			} else if _, e := m.Amend(name, s.text); e == api.OK {
				texts[name] = s.text
			} else if m.Remove(name) == api.OK {
				delete(texts, name)
			}
			var all []string
			for _, text := range texts {
				all = append(all, text)
			}
			want, _ := Nodes(all)
			if got := m.Work(); got != want {
				t.Fatalf("P9: Work() = %d with %q, want %d", got, all, want)
			}
		}
	}
}

// TestOtherPoliciesMakeNoDifference has a monitor with one policy alone, and one with others beside
// it that share its parts and come, change and go.
func TestOtherPoliciesMakeNoDifference(t *testing.T) {
	r := rand.New(rand.NewPCG(17, 18))
	for range 200 {
		alone, among := newMonitor(t, 30, 60), newMonitor(t, 30, 60)
		var parts []string
		time := 0
		for range 80 {
			s := makeSaying(r, 1+r.IntN(5))
			parts = append(parts, s.text)
			changeOthers(r, among, parts)
			if r.IntN(5) == 0 {
				changeBoth(t, r, alone, among, makeLookBack(r, s, s).text)
			}
			time += 1 + r.IntN(5)
			atoms := [][]string{nil, {"a"}, {"b"}, {"a", "b"}, {"c", "a"}}[r.IntN(5)]
			event(t, alone, time, atoms...)
			event(t, among, time, atoms...)
			sameStream(t, alone, among)
		}
	}
}

// changeOthers makes one call about a policy that is not p, and room in all other streams.
func changeOthers(r *rand.Rand, m *Monitor, parts []string) {
	name, text := oneOf(r, "a", "o", "q", "z"), oneOf(r, parts...)
	switch r.IntN(5) {
	case 0, 1:
		m.Add(name, text)
	case 2, 3:
		m.Amend(name, text)
	case 4:
		m.Remove(name)
	}
	for _, name := range m.List() {
		if name != "p" {
			verdicts, _ := m.Stream(name)
			m.Ack(name, len(verdicts))
		}
	}
}

// changeBoth changes p alike in both, if there is room for its nodes among the others.
func changeBoth(t *testing.T, r *rand.Rand, alone, among *Monitor, text string) {
	t.Helper()
	call := (*Monitor).Amend
	if _, e := alone.Stream("p"); e == api.ErrNone {
		call = (*Monitor).Add
	} else if r.IntN(3) == 0 {
		remove(t, alone, "p", api.OK)
		remove(t, among, "p", api.OK)
		call = (*Monitor).Add
	}
	got, e := call(among, "p", text)
	if e != api.OK {
		return
	}
	want, e := call(alone, "p", text)
	if e != api.OK || !slices.Equal(got, want) {
		t.Fatalf("P10: the backfill of %q is %s, among others %s, %d", text, told(want), told(got), e)
	}
}

func sameStream(t *testing.T, alone, among *Monitor) {
	t.Helper()
	want, e := alone.Stream("p")
	got, e2 := among.Stream("p")
	if e != e2 || !slices.Equal(got, want) {
		t.Fatalf("P10: the stream is %s, %d, among others %s, %d", told(want), e, told(got), e2)
	}
	if len(got) > 20 {
		ack(t, alone, "p", 15, api.OK)
		ack(t, among, "p", 15, api.OK)
	}
}

func TestBackfillOfAmendIsTheCallers(t *testing.T) {
	m := newMonitor(t, 10, 60)
	add(t, m, "p", "a", "")
	event(t, m, 0, "a")
	event(t, m, 1)
	first, _ := m.Amend("p", "!a")
	spoil(first)
	amend(t, m, "p", "!a", "1@0:3- 2@1:3+")
	second, _ := m.Amend("p", "a")
	spoil(mustStream(t, m, "p"))
	event(t, m, 2, "a")
	ack(t, m, "p", 1, api.OK)
	if told(second) != "1@0:4+ 2@1:4-" {
		t.Errorf("P2: a list that came out is %s now", told(second))
	}
	spoil(second)
	stream(t, m, "p", "2@1:1- 3@2:4+")
	amend(t, m, "p", "a", "1@0:5+ 2@1:5- 3@2:5+")
}

func TestTextsOfAmendAreNotKept(t *testing.T) {
	m := newMonitor(t, 10, 60)
	add(t, m, "p", "true", "")
	name, text := []byte("p"), []byte("(a & !b)")
	amend(t, m, unsafe.String(&name[0], len(name)), unsafe.String(&text[0], len(text)), "")
	name[0] = 'z'
	copy(text, "(c & !d)")
	list(t, m, "p")
	event(t, m, 0, "a")
	event(t, m, 1, "c")
	add(t, m, "q", "b", "1@0:1- 2@1:1-")
	event(t, m, 2, "a")
	stream(t, m, "p", "1@0:2+ 2@1:2- 3@2:2+")
}
