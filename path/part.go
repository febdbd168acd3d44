package path

import (
	"strings"

	"garrison/api"
	"garrison/dir"
)

// mostLetters: how many a label's name has at most.
const mostLetters = 8

// Part: a text between two / as a part: a name, @ and a label's name, or one of them.
func Part(s string) (api.Part, api.Errno) {
	name, at, wanted := strings.Cut(s, "@")
	if wanted && !isLabel(at) {
		return api.Part{}, api.ErrInvalid
	}
	if wanted && name == "" || !wanted && isDots(name) {
		return api.Part{Name: name, At: at}, api.OK
	}
	// Dots with a label come here on purpose: they are no name.
	if e := dir.Name(name); e != api.OK {
		return api.Part{}, e
	}
	return api.Part{Name: name, At: at}, api.OK
}

// isLabel: may a text be a label's name? Whether there is such a label, a path doesn't know.
func isLabel(s string) bool {
	if len(s) < 1 || len(s) > mostLetters {
		return false
	}
	for i := range len(s) {
		if s[i] < 'a' || s[i] > 'z' {
			return false
		}
	}
	return true
}

// isDots: is it a step that no directory has an entry of?
func isDots(s string) bool { return s == "." || s == ".." }
