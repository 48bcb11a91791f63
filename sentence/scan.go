package sentence

import (
	"strings"
	"unicode/utf8"
)

// What stands for a token's sign where it is none of the document's signs.
const (
	noSign     rune = -2
	endSign    rune = -1
	blankSign  rune = ' '
	nameSign   rune = 'a'
	numberSign rune = '0'
)

// token is a sign, a name or a number, with the place in the text where it begins.
type token struct {
	sign  rune
	place int
	word  string
}

// scan takes a text apart into its tokens; the last one stands for the text's end.
func scan(text string) ([]token, error) {
	var tokens []token
	last := blankSign
	for place, r := range text {
		sign := signOf(r)
		switch {
		case sign == noSign:
			return nil, &Fault{place, whyNoSign(text[place:], r)}
		case sign == last && joins(sign):
			grown := &tokens[len(tokens)-1]
			grown.word = text[grown.place : place+1]
		case sign != blankSign:
			tokens = append(tokens, token{sign, place, string(r)})
		}
		last = sign
	}
	return append(tokens, token{endSign, len(text), ""}), nil
}

// signOf gives one sign to all ways of writing it.
func signOf(r rune) rune {
	switch r {
	case '!':
		return rune(Not)
	case '&':
		return rune(And)
	case '|':
		return rune(Or)
	case '¬', '∧', '∨', 'Y', 'O', 'H', 'S', '(', ')', '[', ']', ',', ' ':
		return r
	}
	switch {
	case 'a' <= r && r <= 'z':
		return nameSign
	case '0' <= r && r <= '9':
		return numberSign
	}
	return noSign
}

// joins tells whether two of a kind that stand together are one token.
func joins(sign rune) bool {
	return sign == nameSign || sign == numberSign
}

// whyNoSign tells a byte that is no UTF-8 from a U+FFFD that is written out:
// range gives the same rune for both.
func whyNoSign(rest string, r rune) string {
	if r == utf8.RuneError && !strings.HasPrefix(rest, string(utf8.RuneError)) {
		return "what is not UTF-8"
	}
	return "what is no sign"
}
