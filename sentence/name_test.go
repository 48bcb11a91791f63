package sentence

import (
	"strings"
	"testing"
)

func TestIsName(t *testing.T) {
	for _, text := range []string{"a", "z", "truth", "tru", "truetrue", "abcdefgh"} {
		if !IsName(text) {
			t.Errorf("%q is no name", text)
		}
	}
	for _, text := range []string{"", "true", "abcdefghi", "A", "aB", "a ", " a", "a1", "`", "{", "é", "ａ", "a\x00", "\xff", strings.Repeat("a", 1<<20)} {
		if IsName(text) {
			t.Errorf("%q is a name", text)
		}
	}
}
