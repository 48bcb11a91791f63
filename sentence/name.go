package sentence

import "vigil/api"

// IsName tells whether a text is a name, of an atom or of a policy.
func IsName(text string) bool {
	if text == "" || len(text) > api.MaxName || text == trueWord {
		return false
	}
	for _, r := range text {
		if r < 'a' || r > 'z' {
			return false
		}
	}
	return true
}
