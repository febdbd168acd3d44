package label

import (
	"strings"

	"garrison/api"
)

// Parse: a text as a label: what Text prints.
func Parse(s string) (api.Label, api.Errno) {
	word, rest, more := strings.Cut(s, ":")
	level, ok := number(word)
	if !ok {
		return api.Label{}, api.ErrForm
	}
	// A form that isn't right comes ahead of a range that isn't: so nothing is made till all is read.
	var cats []int
	last := -1
	for more {
		word, rest, more = strings.Cut(rest, ",")
		c, ok := number(word)
		if !ok || c <= last {
			return api.Label{}, api.ErrForm
		}
		cats = append(cats, c)
		last = c
	}
	return Make(level, cats...)
}

// number: one or two digits, without noughts ahead. (strconv would take signs and longer texts too.)
func number(s string) (int, bool) {
	if len(s) < 1 || len(s) > 2 || len(s) == 2 && s[0] == '0' {
		return 0, false
	}
	n := 0
	for i := range len(s) {
		if s[i] < '0' || s[i] > '9' {
			return 0, false
		}
		n = n*10 + int(s[i]-'0')
	}
	return n, true
}
