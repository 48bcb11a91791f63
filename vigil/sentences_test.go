package vigil

import (
	"strings"
	"testing"

	"vigil/api"
)

// refuses checks that each call of P3 answers this error of a text, and nothing beside it.
func refuses(t *testing.T, text string, want api.Errno) {
	t.Helper()
	if s, e := Print(text); s != "" || e != want {
		t.Errorf("P3: Print(%q) = %q, %d, want error %d", text, s, e, want)
	}
	if n, e := Reach(text); n != 0 || e != want {
		t.Errorf("P3: Reach(%q) = %d, %d, want error %d", text, n, e, want)
	}
	if n, e := Nodes([]string{"(b & c)", text}); n != 0 || e != want {
		t.Errorf("P3: Nodes with %q = %d, %d, want error %d", text, n, e, want)
	}
}

func prints(t *testing.T, text, want string) {
	t.Helper()
	if s, e := Print(text); s != want || e != api.OK {
		t.Errorf("P3: Print(%q) = %q, %d, want %q", text, s, e, want)
	}
}

func TestPrintWritesInOneWay(t *testing.T) {
	for _, c := range []struct{ text, want string }{
		{"( a&!b )", "(a ∧ ¬b)"},
		{"O [0 , 5]( p S[1,2] true )", "O[0,5](p S[1,2] true)"},
		{"!a", "¬a"}, {"¬a", "¬a"}, {"! ¬ a", "¬¬a"},
		{"(a&b)", "(a ∧ b)"}, {"(a∧b)", "(a ∧ b)"},
		{"(a|b)", "(a ∨ b)"}, {"(a∨b)", "(a ∨ b)"},
		{"Y[1,2]a", "Y[1,2]a"}, {"O[1,2]a", "O[1,2]a"}, {"H[1,2]a", "H[1,2]a"},
		{"(aS[0,5]b)", "(a S[0,5] b)"}, {"(trueS[0,5]true)", "(true S[0,5] true)"},
		{"  (  a  S  [  0  ,  5  ]  b  )  ", "(a S[0,5] b)"},
		{" ! Y [ 0 , 10 ] H [ 3 , 3 ] a ", "¬Y[0,10]H[3,3]a"},
	} {
		prints(t, c.text, c.want)
		prints(t, c.want, c.want)
	}
}

func TestNames(t *testing.T) {
	for _, name := range []string{"a", "z", "az", "abcdefgh", "tru", "truth", "truetrue", "xtrue", "true"} {
		prints(t, name, name)
	}
	for _, text := range []string{"abcdefghi", "trueeeeee", "A", "Z", "aB", "a1", "1a", "a_", "é", "ａ", "a b", "tru e", "`", "{"} {
		refuses(t, text, api.ErrText)
	}
}

func TestWindows(t *testing.T) {
	for _, window := range []string{"[0,0]", "[0,1]", "[7,7]", "[9,10]", "[0,1000000]", "[999999,1000000]", "[1000000,1000000]"} {
		for _, sign := range []string{"Y", "O", "H"} {
			prints(t, sign+window+"a", sign+window+"a")
		}
		prints(t, "(a S"+window+"b)", "(a S"+window+" b)")
	}
	for _, window := range []string{
		"", "[", "[]", "[,]", "[0]", "[0,]", "[,0]", "[0,0", "0,0]", "[0 0]", "[0,0,0]", "[[0,0]]", "(0,0)", "[0;0]",
		"[1,0]", "[10,9]", "[1000000,999999]",
		"[0,1000001]", "[1000001,1000001]", "[0,10000000]", "[0,18446744073709551617]", "[0,99999999999999999999999]",
		"[00,1]", "[01,2]", "[0,00]", "[0,01]", "[0,0000000]",
		"[-1,0]", "[-0,0]", "[+0,1]", "[0,+1]", "[0,1.5]", "[0,1e3]", "[0,0x1]", "[0,1_0]", "[a,b]", "[0,٣]",
		"[0,1 0]", "[1 0,20]", "[0,1][0,1]",
	} {
		for _, sign := range []string{"Y", "O", "H"} {
			refuses(t, sign+window+"a", api.ErrText)
		}
		refuses(t, "(a S"+window+" b)", api.ErrText)
	}
	for _, sign := range []string{"!", "&", "|"} {
		refuses(t, sign+"[0,1]a", api.ErrText)
		refuses(t, "(a "+sign+"[0,1] b)", api.ErrText)
	}
}

func TestNoSentence(t *testing.T) {
	for _, text := range []string{
		"", " ", "(a)", "()", "(", ")", "a & b", "(a & b & c)", "((a & b))", "(a & b))", "((a & b)", "(a b)", "(a & b", "a & b)",
		"(a &)", "(& b)", "&", "¬", "!", "a!", "(!& a)", "O p", "O[0,1]", "(a S b)", "S[0,1]a", "a S[0,1] b", "(S[0,1] b)",
		"(a O[0,1] b)", "(a ! b)", "[0,1]a", "0", ",", "a,b", "a b",
		"y[0,1]a", "o[0,1]a", "h[0,1]a", "(a s[0,1] b)",
		"~a", "(a ^ b)", "(a && b)", "(a || b)", "(a ∩ b)", "(a ⋀ b)", "￢a", "true true", "(true)",
	} {
		refuses(t, text, api.ErrText)
	}
}

func TestOnlyByte32IsABlank(t *testing.T) {
	for b := range 256 {
		text := string([]byte{'a', byte(b)})
		switch {
		case b == ' ':
			prints(t, text, "a")
		case 'a' <= b && b <= 'z':
			prints(t, text, text)
		default:
			refuses(t, text, api.ErrText)
		}
	}
	for _, blank := range []string{"\u00a0", "\u0085", "\u2003", "\u200b", "\u3000", "\ufeff"} {
		refuses(t, blank+"a", api.ErrText)
		refuses(t, "(a"+blank+"& b)", api.ErrText)
	}
}

func TestNoUTF8(t *testing.T) {
	for _, bytes := range []string{
		"\xac", "\xc2", "\x88\xa7", "\xe2\x88", "\xe2", "\xff", "\x80",
		"\xc0\xa0", "\xc1\xa1", "\xe0\x82\xac", "\xed\xa0\x80", "\xf4\x90\x80\x80", "\ufffd",
	} {
		for _, text := range []string{bytes, bytes + "a", "a" + bytes, "(a " + bytes + " b)", "(a & b" + bytes + ")"} {
			refuses(t, text, api.ErrText)
		}
	}
}

func TestMaxTextCountsBytes(t *testing.T) {
	prints(t, "a"+strings.Repeat(" ", api.MaxText-1), "a")
	prints(t, strings.Repeat(" ", api.MaxText-1)+"a", "a")
	refuses(t, "a"+strings.Repeat(" ", api.MaxText), api.ErrText)
	refuses(t, strings.Repeat(" ", api.MaxText)+"a", api.ErrText)
	signs := "(¬a ∧ ¬b)"
	prints(t, signs+strings.Repeat(" ", api.MaxText-len(signs)), signs)
	refuses(t, signs+strings.Repeat(" ", api.MaxText-len(signs)+1), api.ErrText)
	refuses(t, strings.Repeat("(", 1000000), api.ErrText)
	refuses(t, strings.Repeat("!", 1000000)+"a", api.ErrText)
}

func TestMaxDepth(t *testing.T) {
	for _, c := range []struct{ ahead, behind string }{
		{"!", ""}, {"¬", ""}, {"Y[0,1]", ""}, {"O[0,1]", ""}, {"H[0,1]", ""},
		{"(", "&b)"}, {"(b|", ")"}, {"(", "S[0,1]b)"}, {"(b S[0,1]", ")"},
	} {
		nested := func(n int) string { return strings.Repeat(c.ahead, n) + "a" + strings.Repeat(c.behind, n) }
		for depth := 1; depth <= api.MaxDepth; depth++ {
			if s, e := Print(nested(depth - 1)); s == "" || e != api.OK {
				t.Errorf("P3: Print(%q) = %q, %d", nested(depth-1), s, e)
			}
		}
		refuses(t, nested(api.MaxDepth), api.ErrDeep)
		refuses(t, nested(api.MaxDepth+5), api.ErrDeep)
	}
	eleven := strings.Repeat("!", api.MaxDepth-1) + "a"
	refuses(t, "("+eleven+" & b)", api.ErrDeep)
	refuses(t, "(b & "+eleven+")", api.ErrDeep)
}

func TestErrTextComesAheadOfErrDeep(t *testing.T) {
	deep := strings.Repeat("!", api.MaxDepth) + "a"
	refuses(t, deep, api.ErrDeep)
	refuses(t, strings.Repeat("!", api.MaxText-1)+"a", api.ErrDeep)
	for _, text := range []string{
		deep + " b", deep + ")", deep + "\xff", deep + "bcdefghi", deep + strings.Repeat(" ", api.MaxText),
		strings.Repeat("!", api.MaxText-1), strings.Repeat("!", api.MaxText) + "a", strings.Repeat("(", api.MaxText),
		"(" + deep + " & O[2,1]b)",
	} {
		refuses(t, text, api.ErrText)
	}
}

func TestReach(t *testing.T) {
	for _, c := range []struct {
		text string
		want int
	}{
		{"true", 0}, {"a", 0}, {"(a ∧ ¬b)", 0}, {"(a | b)", 0},
		{"Y[0,3]O[1,5]p", 8}, {"H[5,5]a", 5}, {"O[0,0]a", 0},
		{"(O[0,3]a & H[0,7]b)", 7}, {"(O[0,7]a | H[0,3]b)", 7}, {"!Y[2,4]!a", 4},
		{"(O[0,3]a S[1,10] H[0,7]b)", 17}, {"(O[0,7]a S[1,10] H[0,3]b)", 17},
		{strings.Repeat("O[0,1000000]", api.MaxDepth-1) + "a", 11000000},
	} {
		if n, e := Reach(c.text); n != c.want || e != api.OK {
			t.Errorf("P3: Reach(%q) = %d, %d, want %d", c.text, n, e, c.want)
		}
	}
}

func TestNodes(t *testing.T) {
	for _, c := range []struct {
		texts []string
		want  int
	}{
		{nil, 0}, {[]string{}, 0},
		{[]string{"(a ∨ b)"}, 6}, {[]string{"(a ∨ b)", "¬(¬a & ¬b)"}, 6}, {[]string{"¬¬a"}, 1},
		{[]string{"true"}, 1}, {[]string{"true", "!true"}, 2}, {[]string{"a", "b", "c"}, 3},
		{[]string{"a", "!a", "!!a", "!!!a"}, 2},
		{[]string{"(a & b)", "(b & a)", "( a∧b )"}, 4},
		{[]string{"((a & b) & c)", "(a & (b & c))"}, 7},
		{[]string{"H[1,2]a"}, 4}, {[]string{"H[1,2]!a"}, 3}, {[]string{"!H[1,2]!a", "O[1,2]a"}, 2},
		{[]string{"Y[0,1]a", "O[0,1]a"}, 3}, {[]string{"O[0,1]a", "O[0,2]a", "O[1,2]a"}, 4},
		{[]string{"(a S[0,1] b)", "(a & b)", "(b S[0,1] a)"}, 5},
		{[]string{"(!a | !b)"}, 4}, {[]string{"((a | b) | c)"}, 9},
		{[]string{"O[0,5](a | b)", "(b | a)"}, 9},
	} {
		if n, e := Nodes(c.texts); n != c.want || e != api.OK {
			t.Errorf("P3: Nodes(%q) = %d, %d, want %d", c.texts, n, e, c.want)
		}
	}
}

func TestNodesTellsTheFirstError(t *testing.T) {
	deep := strings.Repeat("!", api.MaxDepth) + "a"
	for _, c := range []struct {
		texts []string
		want  api.Errno
	}{
		{[]string{""}, api.ErrText}, {[]string{deep}, api.ErrDeep},
		{[]string{"a", deep, "A"}, api.ErrDeep}, {[]string{"a", "A", deep}, api.ErrText},
		{[]string{"a", "b", "c", "c c"}, api.ErrText}, {[]string{deep, "a"}, api.ErrDeep},
	} {
		if n, e := Nodes(c.texts); n != 0 || e != c.want {
			t.Errorf("P3: Nodes(%q) = %d, %d, want error %d", c.texts, n, e, c.want)
		}
	}
}
