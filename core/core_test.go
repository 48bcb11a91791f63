package core

import (
	"testing"

	"vigil/sentence"
)

func mustRead(t *testing.T, text string) *sentence.Sentence {
	t.Helper()
	s, err := sentence.Read(text)
	if err != nil {
		t.Fatalf("Read(%q): %v", text, err)
	}
	return s
}

func TestOf(t *testing.T) {
	for _, c := range []struct{ text, want string }{
		{"true", "true"},
		{"a", "a"},
		{"!a", "¬a"},
		{"!!a", "a"},
		{"!!!a", "¬a"},
		{"(a & !!b)", "(a ∧ b)"},
		{"(a | b)", "¬(¬a ∧ ¬b)"},
		{"(!a | !b)", "¬(a ∧ b)"},
		{"!(a | b)", "(¬a ∧ ¬b)"},
		{"((a | b) | c)", "¬((¬a ∧ ¬b) ∧ ¬c)"},
		{"Y[1,2]!!a", "Y[1,2]a"},
		{"O[1,2](a | b)", "O[1,2]¬(¬a ∧ ¬b)"},
		{"H[1,2]a", "¬O[1,2]¬a"},
		{"H[1,2]!a", "¬O[1,2]a"},
		{"!H[1,2]!a", "O[1,2]a"},
		{"H[1,2]H[3,4]a", "¬O[1,2]O[3,4]¬a"},
		{"(!!a S[1,2] H[0,1]b)", "(a S[1,2] ¬O[0,1]¬b)"},
	} {
		s := mustRead(t, c.text)
		before := s.String()
		if got := Of(s).String(); got != c.want {
			t.Errorf("Of(%q) = %q, want %q", c.text, got, c.want)
		}
		if s.String() != before {
			t.Errorf("Of(%q) changed it to %q", c.text, s.String())
		}
	}
}

func TestTableTellsNodesApart(t *testing.T) {
	different := []string{
		"true", "a", "b", "!a", "(a & b)", "(b & a)", "(a & a)",
		"Y[0,1]a", "O[0,1]a", "O[0,2]a", "O[1,2]a", "O[0,1]b",
		"(a S[0,1] b)", "(b S[0,1] a)", "(a S[0,2] b)",
	}
	var table Table
	if table.Count() != 0 {
		t.Errorf("a new table has %d nodes", table.Count())
	}
	seen := map[int]string{}
	for _, text := range different {
		n := table.Put(mustRead(t, text))
		if seen[n] != "" {
			t.Errorf("%q and %q are both node %d", text, seen[n], n)
		}
		seen[n] = text
	}
	if table.Count() != len(different) {
		t.Errorf("%d nodes, want %d", table.Count(), len(different))
	}
	for n, text := range seen {
		if again := table.Put(mustRead(t, "!!"+text)); again != n {
			t.Errorf("%q is node %d, then %d", text, n, again)
		}
	}
	if table.Count() != len(different) {
		t.Errorf("%d nodes at the second time, want %d", table.Count(), len(different))
	}
}

func TestNodesStandBehindTheirParts(t *testing.T) {
	var table Table
	for _, text := range []string{"H[0,1](a | b)", "(a S[0,1] Y[2,3](a | b))", "b"} {
		number := table.Put(mustRead(t, text))
		if got := table.Nodes(); len(got) != table.Count() || number > len(got) {
			t.Errorf("%d nodes for %d, and one of number %d", len(got), table.Count(), number)
		}
	}
	nodes := table.Nodes()
	for i, n := range nodes {
		if n.Left > i || n.Right > i {
			t.Errorf("node %d has the parts %d and %d", i+1, n.Left, n.Right)
		}
	}
	nodes[0] = Node{}
	if table.Nodes()[0] == nodes[0] {
		t.Error("the list of nodes is the table's own")
	}
}
