package vigil

import (
	"math"
	"slices"
	"strconv"
	"strings"
	"testing"

	"vigil/api"
)

func newMonitor(t *testing.T, retain, room int) *Monitor {
	t.Helper()
	m, e := New(retain, room)
	if m == nil || e != api.OK {
		t.Fatalf("P4: New(%d, %d): error %d", retain, room, e)
	}
	return m
}

// told writes verdicts as event@time:version with + or -.
func told(verdicts []api.Verdict) string {
	var words []string
	for _, v := range verdicts {
		word := strconv.Itoa(v.Event) + "@" + strconv.Itoa(v.Time) + ":" + strconv.Itoa(v.Version)
		if v.Holds {
			words = append(words, word+"+")
		} else {
			words = append(words, word+"-")
		}
	}
	return strings.Join(words, " ")
}

func event(t *testing.T, m *Monitor, time int, atoms ...string) {
	t.Helper()
	eventFails(t, m, time, atoms, api.OK)
}

func eventFails(t *testing.T, m *Monitor, time int, atoms []string, want api.Errno) {
	t.Helper()
	if e := m.Event(time, atoms); e != want {
		t.Errorf("P5: Event(%d, %q) is %d, want %d", time, atoms, e, want)
	}
}

func add(t *testing.T, m *Monitor, name, text, backfill string) {
	t.Helper()
	if got, e := m.Add(name, text); told(got) != backfill || e != api.OK {
		t.Errorf("P7: Add(%q, %q) = %s, %d, want %s", name, text, told(got), e, backfill)
	}
}

func addFails(t *testing.T, m *Monitor, name, text string, want api.Errno) {
	t.Helper()
	if got, e := m.Add(name, text); len(got) != 0 || e != want {
		t.Errorf("P7: Add(%q, %q) = %s, %d, want error %d", name, text, told(got), e, want)
	}
}

func remove(t *testing.T, m *Monitor, name string, want api.Errno) {
	t.Helper()
	if e := m.Remove(name); e != want {
		t.Errorf("P7: Remove(%q) is %d, want %d", name, e, want)
	}
}

func stream(t *testing.T, m *Monitor, name, want string) {
	t.Helper()
	if got, e := m.Stream(name); told(got) != want || e != api.OK {
		t.Errorf("P8: Stream(%q) = %s, %d, want %s", name, told(got), e, want)
	}
}

func ack(t *testing.T, m *Monitor, name string, n int, want api.Errno) {
	t.Helper()
	if e := m.Ack(name, n); e != want {
		t.Errorf("P8: Ack(%q, %d) is %d, want %d", name, n, e, want)
	}
}

func list(t *testing.T, m *Monitor, want ...string) {
	t.Helper()
	if got := m.List(); !slices.Equal(got, want) {
		t.Errorf("P8: List() = %q, want %q", got, want)
	}
}

func kept(t *testing.T, m *Monitor, want int) {
	t.Helper()
	if got := m.Kept(); got != want {
		t.Errorf("P6: Kept() = %d, want %d", got, want)
	}
}

func TestNew(t *testing.T) {
	for _, c := range [][2]int{{0, 1}, {0, api.MaxRoom}, {api.MaxRetain, 1}, {api.MaxRetain, api.MaxRoom}, {7, 5}} {
		m := newMonitor(t, c[0], c[1])
		list(t, m)
		kept(t, m, 0)
	}
	for _, c := range [][2]int{
		{-1, 1}, {api.MaxRetain + 1, 1}, {0, 0}, {0, -1}, {0, api.MaxRoom + 1}, {-1, 0}, {api.MaxRetain + 1, api.MaxRoom + 1},
		{math.MinInt, 5}, {math.MaxInt, 5}, {5, math.MinInt}, {5, math.MaxInt},
	} {
		if m, e := New(c[0], c[1]); m != nil || e != api.ErrArg {
			t.Errorf("P4: New(%d, %d) = %v, %d, want ErrArg", c[0], c[1], m, e)
		}
	}
}

func TestDocumentsExamples(t *testing.T) {
	m := newMonitor(t, 10, 20)
	add(t, m, "p", "O[2,5]a", "")
	event(t, m, 0, "a")
	event(t, m, 3)
	event(t, m, 9)
	stream(t, m, "p", "1@0:1- 2@3:1+ 3@9:1-")
	addFails(t, m, "q", "Y[0,10]Y[0,10]a", api.ErrFar)
	add(t, m, "q", "Y[0,9]a", "1@0:1- 2@3:1+ 3@9:1-")
	kept(t, m, 3)
	event(t, m, 12)
	kept(t, m, 3)
	add(t, m, "r", "O[0,5]a", "3@9:1- 4@12:1-")
	stream(t, m, "q", "4@12:1-")
	stream(t, m, "r", "")
	ack(t, m, "p", 2, api.OK)
	stream(t, m, "p", "3@9:1- 4@12:1-")
}

func TestRetainNothing(t *testing.T) {
	m := newMonitor(t, 0, 1)
	add(t, m, "p", "Y[0,0]true", "")
	add(t, m, "q", "(a S[0,0] b)", "")
	addFails(t, m, "r", "Y[0,1]a", api.ErrFar)
	event(t, m, 5, "b")
	kept(t, m, 1)
	event(t, m, 6, "a")
	event(t, m, 7, "a", "b")
	kept(t, m, 1)
	stream(t, m, "p", "1@5:1- 2@6:1- 3@7:1-")
	stream(t, m, "q", "1@5:1+ 2@6:1- 3@7:1+")
	add(t, m, "r", "!H[0,0]!b", "3@7:1+")
}

func TestTimes(t *testing.T) {
	for _, time := range []int{-1, math.MinInt, api.MaxTime + 1, math.MaxInt} {
		m := newMonitor(t, 5, 5)
		eventFails(t, m, time, nil, api.ErrTime)
		eventFails(t, m, time, []string{"?", "?"}, api.ErrTime)
		kept(t, m, 0)
		event(t, m, 0)
		eventFails(t, m, time, nil, api.ErrTime)
		kept(t, m, 1)
	}
	m := newMonitor(t, 5, 5)
	add(t, m, "p", "true", "")
	event(t, m, 7)
	for _, time := range []int{7, 6, 0} {
		eventFails(t, m, time, nil, api.ErrTime)
	}
	event(t, m, 8)
	event(t, m, api.MaxTime)
	eventFails(t, m, api.MaxTime, nil, api.ErrTime)
	stream(t, m, "p", "1@7:1+ 2@8:1+ 3@1000000000000:1+")
	m = newMonitor(t, api.MaxRetain, 5)
	event(t, m, api.MaxTime)
	kept(t, m, 1)
}

func TestAtoms(t *testing.T) {
	ten := strings.Fields("a b c d e f g h i abcdefgh")
	for _, atoms := range [][]string{
		{""}, {"a", ""}, {"A"}, {"aB"}, {"a "}, {" a"}, {"a1"}, {"é"}, {"`"}, {"{"}, {"\xff"}, {"true"}, {"a", "true"},
		{"abcdefghi"}, {"a", "a"}, {"a", "b", "c", "a"}, {"abcdefgh", "abcdefgh"},
		append(slices.Clone(ten), "k"), make([]string, 1000),
	} {
		m := newMonitor(t, 5, 5)
		add(t, m, "p", "a", "")
		eventFails(t, m, 3, atoms, api.ErrAtoms)
		kept(t, m, 0)
		stream(t, m, "p", "")
		event(t, m, 3)
		stream(t, m, "p", "1@3:1-")
	}
	for _, atoms := range [][]string{nil, {}, {"a"}, {"z"}, {"abcdefgh"}, {"truth", "tru", "truetrue"}, {"b", "a", "ab"}, ten} {
		m := newMonitor(t, 5, 5)
		add(t, m, "x", "abcdefgh", "")
		event(t, m, 3, atoms...)
		if l, _ := m.Stream("x"); len(l) != 1 || l[0].Holds != slices.Contains(atoms, "abcdefgh") {
			t.Errorf("P5: the stream is %s after atoms %q", told(l), atoms)
		}
	}
}

// TestOrderOfEventErrors has a stream that is full and as many events as there is room for.
func TestOrderOfEventErrors(t *testing.T) {
	m := newMonitor(t, 100, api.MaxStream)
	add(t, m, "p", "a", "")
	for i := range api.MaxStream {
		event(t, m, i, "a")
	}
	add(t, m, "o", "a", told(mustStream(t, m, "p")))
	before := told(mustStream(t, m, "p"))
	eventFails(t, m, 29, []string{"?"}, api.ErrTime)
	eventFails(t, m, api.MaxTime+1, []string{"?"}, api.ErrTime)
	eventFails(t, m, 30, []string{"?"}, api.ErrAtoms)
	eventFails(t, m, 500, []string{"a", "a"}, api.ErrAtoms)
	eventFails(t, m, 30, nil, api.ErrStream)
	eventFails(t, m, 500, nil, api.ErrStream)
	stream(t, m, "p", before)
	stream(t, m, "o", "")
	kept(t, m, api.MaxStream)
	ack(t, m, "p", 1, api.OK)
	eventFails(t, m, 30, []string{"?"}, api.ErrAtoms)
	eventFails(t, m, 30, nil, api.ErrRoom)
	eventFails(t, m, 100, nil, api.ErrRoom)
	stream(t, m, "o", "")
	kept(t, m, api.MaxStream)
	event(t, m, 101)
	kept(t, m, api.MaxStream)
	stream(t, m, "o", "31@101:1-")
	eventFails(t, m, 102, nil, api.ErrStream)
	ack(t, m, "p", 30, api.OK)
	event(t, m, 200)
	kept(t, m, 2)
	stream(t, m, "o", "31@101:1- 32@200:1-")
	stream(t, m, "p", "32@200:1-")
}

func mustStream(t *testing.T, m *Monitor, name string) []api.Verdict {
	t.Helper()
	l, e := m.Stream(name)
	if e != api.OK {
		t.Fatalf("P8: Stream(%q): error %d", name, e)
	}
	return l
}

func TestOnlyPoliciesHaveStreamsThatFill(t *testing.T) {
	m := newMonitor(t, 3, 4)
	for i := range 200 {
		event(t, m, i)
		kept(t, m, min(i+1, 4))
	}
	add(t, m, "p", "true", "197@196:1+ 198@197:1+ 199@198:1+ 200@199:1+")
	for i := range api.MaxStream {
		event(t, m, 200+i)
	}
	eventFails(t, m, 300, nil, api.ErrStream)
	remove(t, m, "p", api.OK)
	event(t, m, 300)
}

func TestRoom(t *testing.T) {
	for _, room := range []int{1, 2, 7, api.MaxRoom} {
		m := newMonitor(t, api.MaxRetain, room)
		for i := range room {
			event(t, m, i)
			kept(t, m, i+1)
		}
		for _, time := range []int{room, 50000, api.MaxRetain} {
			eventFails(t, m, time, []string{"a"}, api.ErrRoom)
			kept(t, m, room)
		}
		event(t, m, api.MaxRetain+1)
		kept(t, m, room)
		event(t, m, 3*api.MaxRetain)
		kept(t, m, 1)
		add(t, m, "p", "a", strconv.Itoa(room+2)+"@300000:1-")
	}
}

func TestKept(t *testing.T) {
	for _, retain := range []int{0, 1, 10, api.MaxRetain} {
		m := newMonitor(t, retain, 5)
		event(t, m, 0)
		if retain > 0 {
			event(t, m, retain)
			kept(t, m, 2)
		}
		event(t, m, retain+1)
		kept(t, m, min(retain+1, 2))
		event(t, m, 3*retain+2)
		kept(t, m, 1)
	}
	m := newMonitor(t, 10, 5)
	for i, c := range [][2]int{{0, 1}, {4, 2}, {10, 3}, {11, 3}, {14, 4}, {15, 4}, {21, 4}, {30, 2}} {
		event(t, m, c[0])
		if m.Kept() != c[1] {
			t.Errorf("P6: Kept() = %d behind event %d at %d, want %d", m.Kept(), i+1, c[0], c[1])
		}
	}
}

func TestWhatSentencesSay(t *testing.T) {
	for text, want := range map[string]string{
		"true": "++++++", "!true": "------", "a": "+-+---", "(a & b)": "--+---", "(a | b)": "++++-+",
		"Y[0,1]b": "--+-+-", "Y[2,9]b": "---+--", "Y[4,4]b": "---+--", "Y[5,9]b": "------", "Y[0,9]!b": "-+---+", "!Y[0,9]b": "++---+",
		"O[0,0]a": "+-+---", "O[0,4]a": "++++--", "O[1,4]a": "-+++--", "O[3,3]a": "--+---", "O[8,8]b": "-----+", "O[9,9]b": "------",
		"H[0,0]a": "+-+---", "H[0,1]b": "-+++-+", "H[1,2]b": "+-+++-", "H[20,30]!true": "++++++", "H[0,0]!true": "------",
		"(b S[0,9] a)": "++++--", "(b S[1,9] a)": "-+++--", "(b S[3,4] a)": "--++--", "(a S[0,0] c)": "-----+",
		"(!true S[0,9] b)": "-+++-+", "(!true S[1,9] b)": "------", "(a S[1,1] b)": "--+---",
	} {
		m := newMonitor(t, 100, 60)
		add(t, m, "p", text, "")
		event(t, m, 0, "a")
		event(t, m, 2, "b")
		event(t, m, 3, "a", "b")
		event(t, m, 7, "b")
		event(t, m, 8)
		event(t, m, 10, "b", "c")
		got := ""
		for _, v := range mustStream(t, m, "p") {
			got += map[bool]string{true: "+", false: "-"}[v.Holds]
		}
		if got != want {
			t.Errorf("P5: %s says %s, want %s", text, got, want)
		}
		add(t, m, "q", text, told(mustStream(t, m, "p")))
	}
}

func TestBackfill(t *testing.T) {
	m := newMonitor(t, 10, 60)
	event(t, m, 0, "a")
	event(t, m, 2)
	event(t, m, 5, "b")
	event(t, m, 10)
	// Nothing was dropped: every event is told, however far the sentence reaches.
	add(t, m, "p", "O[0,10]a", "1@0:1+ 2@2:1+ 3@5:1+ 4@10:1+")
	event(t, m, 11)
	// The event at 0 was dropped; kept are those at 2, 5, 10 and 11.
	add(t, m, "q", "O[0,0]b", "2@2:1- 3@5:1+ 4@10:1- 5@11:1-")
	add(t, m, "r", "O[3,3]true", "3@5:1+ 4@10:1- 5@11:1-")
	add(t, m, "s", "O[0,4]a", "4@10:1- 5@11:1-")
	add(t, m, "t", "O[0,8]b", "4@10:1+ 5@11:1+")
	add(t, m, "u", "O[0,9]b", "5@11:1+")
	add(t, m, "v", "O[0,10]a", "")
	for _, name := range []string{"q", "r", "s", "t", "u", "v"} {
		stream(t, m, name, "")
	}
	remove(t, m, "p", api.OK)
	add(t, m, "p", "Y[3,3]Y[0,2]true", "4@10:1- 5@11:1-")
	stream(t, m, "p", "")
	event(t, m, 12)
	stream(t, m, "t", "6@12:1+")
	stream(t, m, "v", "6@12:1-")
}

func TestNothingButThisEventIsDropped(t *testing.T) {
	m := newMonitor(t, 4, 60)
	event(t, m, 0, "a")
	event(t, m, 4)
	add(t, m, "p", "O[4,4]a", "1@0:1- 2@4:1+")
	event(t, m, 5)
	// An event was dropped, so an event that is the oldest kept one itself is not told any more.
	add(t, m, "q", "O[0,1]a", "3@5:1-")
	event(t, m, 100)
	add(t, m, "r", "O[0,1]a", "")
	add(t, m, "s", "O[0,0]a", "4@100:1-")
}

func TestOrderOfAddErrors(t *testing.T) {
	deep := strings.Repeat("O[0,100]", api.MaxDepth) + "a"
	m := newMonitor(t, 10, 5)
	for _, name := range []string{"", "P", "true", "abcdefghi", "a b", "a1", "é", "\xff", strings.Repeat("p", 1<<20)} {
		for _, text := range []string{"", deep, "O[0,11]a", "a"} {
			addFails(t, m, name, text, api.ErrName)
		}
	}
	addFails(t, m, "p", "", api.ErrText)
	addFails(t, m, "p", deep+")", api.ErrText)
	addFails(t, m, "p", deep, api.ErrDeep)
	addFails(t, m, "p", "O[0,11]a", api.ErrFar)
	list(t, m)
	for _, name := range strings.Fields("h g f e d c b abcdefgh") {
		add(t, m, name, "O[0,10]a", "")
	}
	wide := manyNodes(api.MaxNodes)
	addFails(t, m, "c", "O[11,11]a", api.ErrFar)
	addFails(t, m, "new", "Y[0,5]O[0,6]a", api.ErrFar)
	addFails(t, m, "c", "a", api.ErrTwice)
	addFails(t, m, "c", wide, api.ErrTwice)
	addFails(t, m, "new", wide, api.ErrPolicies)
	addFails(t, m, "new", "a", api.ErrPolicies)
	list(t, m, strings.Fields("abcdefgh b c d e f g h")...)
	remove(t, m, "c", api.OK)
	addFails(t, m, "new", wide, api.ErrNodes)
	list(t, m, strings.Fields("abcdefgh b d e f g h")...)
	add(t, m, "new", "a", "")
	list(t, m, strings.Fields("abcdefgh b d e f g h new")...)
}

// manyNodes is a sentence of this many different nodes, none of which has the atom a.
func manyNodes(n int) string {
	parts := []string{"b"}
	for i := 1; 2*i+1 <= n; i++ {
		parts = append(parts, string([]byte{'c', byte('a' + i)}))
	}
	for len(parts) > 1 {
		var pairs []string
		for i := 0; i+1 < len(parts); i += 2 {
			pairs = append(pairs, "("+parts[i]+"&"+parts[i+1]+")")
		}
		if len(parts)%2 == 1 {
			pairs = append(pairs, parts[len(parts)-1])
		}
		parts = pairs
	}
	if n%2 == 0 {
		return "!" + parts[0]
	}
	return parts[0]
}

func TestMaxNodes(t *testing.T) {
	for _, n := range []int{1, 2, 17, 39, 40, 41} {
		if got, e := Nodes([]string{manyNodes(n)}); got != n || e != api.OK {
			t.Fatalf("%q has %d nodes, %d", manyNodes(n), got, e)
		}
	}
	m := newMonitor(t, 10, 5)
	addFails(t, m, "p", manyNodes(41), api.ErrNodes)
	list(t, m)
	add(t, m, "p", manyNodes(40), "")
	event(t, m, 0, "b")
	addFails(t, m, "q", "a", api.ErrNodes)
	addFails(t, m, "q", "O[0,1]b", api.ErrNodes)
	list(t, m, "p")
	// What the policies have in common counts once.
	add(t, m, "q", "b", "1@0:1+")
	add(t, m, "r", manyNodes(39), "1@0:1-")
	remove(t, m, "p", api.OK)
	add(t, m, "s", "!!O[0,1]b", "1@0:1+")
	addFails(t, m, "u", "!b", api.ErrNodes)
	remove(t, m, "s", api.OK)
	add(t, m, "u", "!b", "1@0:1-")
	event(t, m, 1)
	stream(t, m, "q", "2@1:1-")
	stream(t, m, "r", "2@1:1-")
	stream(t, m, "u", "2@1:1+")
}

func TestMaxPolicies(t *testing.T) {
	m := newMonitor(t, 10, 5)
	names := strings.Fields("a b c d e f g h")
	for _, name := range names {
		add(t, m, name, name, "")
	}
	addFails(t, m, "i", "a", api.ErrPolicies)
	list(t, m, names...)
	event(t, m, 3, "a", "h")
	for _, name := range names {
		stream(t, m, name, "1@3:1"+map[bool]string{true: "+", false: "-"}[name == "a" || name == "h"])
	}
}

func TestRemove(t *testing.T) {
	m := newMonitor(t, 10, 60)
	for _, name := range []string{"p", "", "P", "true", "abcdefghi"} {
		remove(t, m, name, api.ErrNone)
	}
	add(t, m, "p", "O[0,5]a", "")
	add(t, m, "q", "(b S[0,5] a)", "")
	event(t, m, 1, "a")
	remove(t, m, "o", api.ErrNone)
	list(t, m, "p", "q")
	remove(t, m, "p", api.OK)
	remove(t, m, "p", api.ErrNone)
	list(t, m, "q")
	event(t, m, 2, "b")
	stream(t, m, "q", "1@1:1+ 2@2:1+")
	add(t, m, "p", "O[0,0]a", "1@1:1+ 2@2:1-")
	stream(t, m, "p", "")
	remove(t, m, "q", api.OK)
	event(t, m, 3, "a")
	stream(t, m, "p", "3@3:1+")
	remove(t, m, "p", api.OK)
	list(t, m)
	event(t, m, 4)
	kept(t, m, 4)
}

func TestStreamAndAck(t *testing.T) {
	m := newMonitor(t, 10, 60)
	for _, name := range []string{"p", "", "P", "true"} {
		if l, e := m.Stream(name); len(l) != 0 || e != api.ErrNone {
			t.Errorf("P8: Stream(%q) = %s, %d, want ErrNone", name, told(l), e)
		}
		for _, n := range []int{-1, 0, 1} {
			ack(t, m, name, n, api.ErrNone)
		}
	}
	add(t, m, "p", "a", "")
	add(t, m, "q", "a", "")
	stream(t, m, "p", "")
	ack(t, m, "p", 0, api.OK)
	ack(t, m, "p", 1, api.ErrArg)
	for i := range 4 {
		event(t, m, i, "a")
	}
	whole := "1@0:1+ 2@1:1+ 3@2:1+ 4@3:1+"
	for _, n := range []int{-1, 5, math.MinInt, math.MaxInt} {
		ack(t, m, "p", n, api.ErrArg)
	}
	ack(t, m, "p", 0, api.OK)
	stream(t, m, "p", whole)
	ack(t, m, "p", 3, api.OK)
	stream(t, m, "p", "4@3:1+")
	ack(t, m, "p", 2, api.ErrArg)
	ack(t, m, "p", 1, api.OK)
	stream(t, m, "p", "")
	event(t, m, 4)
	stream(t, m, "p", "5@4:1-")
	stream(t, m, "q", whole+" 5@4:1-")
}

func TestList(t *testing.T) {
	m := newMonitor(t, 10, 60)
	for _, name := range strings.Fields("b ab zz abcdefgh a ba z") {
		add(t, m, name, "true", "")
	}
	list(t, m, strings.Fields("a ab abcdefgh b ba z zz")...)
}
