package vigil

import (
	"math/rand/v2"
	"regexp"
	"strconv"
	"strings"
	"testing"
	"unicode/utf8"

	"vigil/api"
)

// A second, slow way to what P3 asks, on texts alone: the program's answers are held against it.

var (
	letters = regexp.MustCompile(`[a-z]+`)
	windows = regexp.MustCompile(`\[ *(0|[1-9][0-9]*) *, *(0|[1-9][0-9]*) *\]`)
	made    = regexp.MustCompile(`¬p|[YOH]wp|\(p[∧∨]p\)|\(pSwp\)`)
)

// isSentence puts p for what is a sentence, from within to without, until nothing more is to be put.
func isSentence(text string) bool {
	if len(text) > 300 || !utf8.ValidString(text) {
		return false
	}
	text = strings.NewReplacer("!", "¬", "&", "∧", "|", "∨").Replace(text)
	text = letters.ReplaceAllStringFunc(text, func(word string) string {
		if len(word) > 8 {
			return "#"
		}
		return "p"
	})
	text = windows.ReplaceAllStringFunc(text, func(window string) string {
		parts := windows.FindStringSubmatch(window)
		from, err := strconv.Atoi(parts[1])
		to, err2 := strconv.Atoi(parts[2])
		if err != nil || err2 != nil || from > to || to > 1000000 {
			return "#"
		}
		return "w"
	})
	text = strings.ReplaceAll(text, " ", "")
	for {
		next := made.ReplaceAllString(text, "p")
		if next == text {
			return text == "p"
		}
		text = next
	}
}

func checkText(t *testing.T, text string) bool {
	t.Helper()
	printed, e := Print(text)
	reach, e2 := Reach(text)
	nodes, e3 := Nodes([]string{text})
	if e != e2 || e != e3 || e != api.OK && (printed != "" || reach != 0 || nodes != 0) {
		t.Fatalf("P1: %q: Print %q, %d, Reach %d, %d, Nodes %d, %d", text, printed, e, reach, e2, nodes, e3)
	}
	if want := isSentence(text); want != (e != api.ErrText) {
		t.Fatalf("P3: Print(%q) = %q, %d, but a sentence: %v", text, printed, e, want)
	}
	return e == api.OK
}

func TestAllShortTexts(t *testing.T) {
	pieces := []string{"a", "true", " ", "¬", "&", "|", "(", ")", "O[0,1]", "S[0,1]", "S", "[0,0]"}
	good := 0
	var extend func(text string, left int)
	extend = func(text string, left int) {
		if checkText(t, text) {
			good++
		}
		if left > 0 {
			for _, piece := range pieces {
				extend(text+piece, left-1)
			}
		}
	}
	extend("", 5)
	if good < 100 {
		t.Errorf("only %d of the texts are sentences", good)
	}
}

// sample is a sentence that the tests made, with all that is to be told of it.
type sample struct {
	text, printed, core string
	depth, reach        int
}

func oneOf(r *rand.Rand, list ...string) string { return list[r.IntN(len(list))] }

func blank(r *rand.Rand) string { return oneOf(r, "", "", "", " ", "  ") }

func negated(core string) string {
	if rest, ok := strings.CutPrefix(core, "¬"); ok {
		return rest
	}
	return "¬" + core
}

func makeWindow(r *rand.Rand) (text, printed string, to int) {
	from := r.IntN(4)
	to = from + r.IntN(3)*r.IntN(300000)
	a, b := strconv.Itoa(from), strconv.Itoa(to)
	text = blank(r) + "[" + blank(r) + a + blank(r) + "," + blank(r) + b + blank(r) + "]"
	return text, "[" + a + "," + b + "]", to
}

func makeSample(r *rand.Rand, depth int) sample {
	if depth <= 1 || r.IntN(6) == 0 {
		word := oneOf(r, "true", "a", "b", "truex", "abcdefgh")
		return sample{blank(r) + word + blank(r), word, word, 1, 0}
	}
	p := makeSample(r, depth-1)
	window, printed, to := makeWindow(r)
	switch r.IntN(8) {
	case 0, 1:
		return sample{blank(r) + oneOf(r, "!", "¬") + p.text, "¬" + p.printed, negated(p.core), p.depth + 1, p.reach}
	case 2:
		return sample{blank(r) + "H" + window + p.text, "H" + printed + p.printed, "¬O" + printed + negated(p.core), p.depth + 1, p.reach + to}
	case 3, 4:
		sign := oneOf(r, "O", "Y")
		return sample{blank(r) + sign + window + p.text, sign + printed + p.printed, sign + printed + p.core, p.depth + 1, p.reach + to}
	}
	q := makeSample(r, 1+r.IntN(depth-1))
	if r.IntN(2) == 0 {
		p, q = q, p
	}
	s := sample{depth: max(p.depth, q.depth) + 1, reach: max(p.reach, q.reach)}
	sign := ""
	switch r.IntN(3) {
	case 0:
		sign, printed = oneOf(r, "&", "∧"), "∧"
		s.core = "(" + p.core + " ∧ " + q.core + ")"
	case 1:
		sign, printed = oneOf(r, "|", "∨"), "∨"
		s.core = "¬(" + negated(p.core) + " ∧ " + negated(q.core) + ")"
	default:
		sign, printed = "S"+window, "S"+printed
		s.reach += to
		s.core = "(" + p.core + " " + printed + " " + q.core + ")"
	}
	s.text = blank(r) + "(" + p.text + sign + q.text + ")" + blank(r)
	s.printed = "(" + p.printed + " " + printed + " " + q.printed + ")"
	return s
}

func (s sample) errno() api.Errno {
	switch {
	case len(s.text) > 300:
		return api.ErrText
	case s.depth > 12:
		return api.ErrDeep
	}
	return api.OK
}

// addParts takes a core, as it is printed, apart at the place where its brackets are even.
func addParts(parts map[string]bool, core string) {
	parts[core] = true
	switch {
	case strings.HasPrefix(core, "¬"):
		addParts(parts, core[len("¬"):])
	case core[0] == 'Y' || core[0] == 'O':
		addParts(parts, core[strings.Index(core, "]")+1:])
	case core[0] == '(':
		open, place := 0, 1
		for ; core[place] != ' ' || open > 0; place++ {
			switch core[place] {
			case '(':
				open++
			case ')':
				open--
			}
			// The blanks around a sign inside of brackets are passed over, as open is above 0 there.
		}
		addParts(parts, core[1:place])
		behind := place + 1 + strings.Index(core[place+1:], " ")
		addParts(parts, core[behind+1:len(core)-1])
	}
}

func TestMadeSentences(t *testing.T) {
	r := rand.New(rand.NewPCG(1, 2))
	seen := map[api.Errno]int{}
	for range 20000 {
		s := makeSample(r, 1+r.IntN(14))
		want := s.errno()
		seen[want]++
		if want != api.OK {
			refuses(t, s.text, want)
			continue
		}
		prints(t, s.text, s.printed)
		if n, e := Reach(s.text); n != s.reach || e != api.OK {
			t.Fatalf("P3: Reach(%q) = %d, %d, want %d", s.text, n, e, s.reach)
		}
	}
	if seen[api.OK] < 1000 || seen[api.ErrDeep] < 100 || seen[api.ErrText] < 100 {
		t.Errorf("too few of a kind: %v", seen)
	}
}

func TestNodesOfMadeSentences(t *testing.T) {
	r := rand.New(rand.NewPCG(3, 4))
	for range 3000 {
		var texts []string
		parts := map[string]bool{}
		for range r.IntN(5) {
			if s := makeSample(r, 1+r.IntN(8)); s.errno() == api.OK {
				texts = append(texts, s.text)
				addParts(parts, s.core)
			}
		}
		if n, e := Nodes(texts); n != len(parts) || e != api.OK {
			t.Fatalf("P3: Nodes(%q) = %d, %d, want %d", texts, n, e, len(parts))
		}
	}
}

func TestTextsWithOneSlip(t *testing.T) {
	r := rand.New(rand.NewPCG(5, 6))
	slips := []string{"", " ", "a", "0", "1", "!", "&", "(", ")", "[", "]", ",", "S", "O", "∨", "\xe2", "\x00"}
	for range 300 {
		text := makeSample(r, 1+r.IntN(6)).text
		for place := range len(text) {
			slip := slips[r.IntN(len(slips))]
			checkText(t, text[:place]+slip+text[place+1:])
			checkText(t, text[:place]+slip+text[place:])
		}
	}
}
