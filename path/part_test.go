package path_test

import (
	"regexp"
	"strings"
	"testing"

	"garrison/api"
	"garrison/dir"
	"garrison/path"
)

var letters = regexp.MustCompile(`^[a-z]{1,8}$`)

// wantPart: the chapter's words for Part.
func wantPart(s string) (api.Part, api.Errno) {
	if i := strings.IndexByte(s, '@'); i >= 0 {
		name, at := s[:i], s[i+1:]
		if !letters.MatchString(at) {
			return api.Part{}, api.ErrInvalid
		}
		if name == "" {
			return api.Part{At: at}, api.OK
		}
		if name == "." || name == ".." {
			return api.Part{}, api.ErrInvalid
		}
		if e := dir.Name(name); e != api.OK {
			return api.Part{}, e
		}
		return api.Part{Name: name, At: at}, api.OK
	}
	if s == "." || s == ".." {
		return api.Part{Name: s}, api.OK
	}
	if e := dir.Name(s); e != api.OK {
		return api.Part{}, e
	}
	return api.Part{Name: s}, api.OK
}

func holdPart(t *testing.T, s string) {
	t.Helper()
	x, e := path.Part(s)
	if want, wantE := wantPart(s); x != want || e != wantE {
		t.Errorf("Part(%.60q) = %v, %d, wanted %v, %d", s, x, e, want, wantE)
	}
}

// P11.1
func TestPart(t *testing.T) {
	for s, want := range map[string]api.Part{
		"a": {Name: "a"}, "Z": {Name: "Z"}, "0": {Name: "0"}, "~!": {Name: "~!"}, "abcdefghijklmn": {Name: "abcdefghijklmn"}, "low": {Name: "low"},
		".": {Name: "."}, "..": {Name: ".."}, "...": {Name: "..."}, ".a": {Name: ".a"}, "..a": {Name: "..a"}, "a.": {Name: "a."}, "a..": {Name: "a.."},
		"a@low": {Name: "a", At: "low"}, "a@a": {Name: "a", At: "a"}, "a@z": {Name: "a", At: "z"}, "A@abcdefgh": {Name: "A", At: "abcdefgh"}, "abcdefghijklmn@abcdefgh": {Name: "abcdefghijklmn", At: "abcdefgh"},
		"...@low": {Name: "...", At: "low"}, ".a@low": {Name: ".a", At: "low"}, "low@low": {Name: "low", At: "low"}, "~@z": {Name: "~", At: "z"},
		"@low": {At: "low"}, "@a": {At: "a"}, "@z": {At: "z"}, "@zyxwvuts": {At: "zyxwvuts"},
	} {
		if x, e := path.Part(s); x != want || e != api.OK {
			t.Errorf("Part(%q) = %v, %d, wanted %v", s, x, e, want)
		}
	}
}

// P11.1: the label is looked at ahead of the name; behind the first @ all is the label.
func TestPartErrors(t *testing.T) {
	for s, want := range map[string]api.Errno{
		"": api.ErrInvalid, "/": api.ErrInvalid, "a/b": api.ErrInvalid, "a b": api.ErrInvalid, " ": api.ErrInvalid, "a\x00": api.ErrInvalid, "\x7f": api.ErrInvalid, "ä": api.ErrInvalid, "\xff": api.ErrInvalid,
		"@": api.ErrInvalid, "@@": api.ErrInvalid, "a@": api.ErrInvalid, ".@": api.ErrInvalid, "..@": api.ErrInvalid, "a@@": api.ErrInvalid, "@@a": api.ErrInvalid, "a@b@c": api.ErrInvalid, "a@b@": api.ErrInvalid, "a@@b": api.ErrInvalid,
		".@low": api.ErrInvalid, "..@low": api.ErrInvalid, " @low": api.ErrInvalid, "a b@low": api.ErrInvalid, "/@low": api.ErrInvalid, "\x00@low": api.ErrInvalid, "ä@low": api.ErrInvalid,
		"a@Low": api.ErrInvalid, "a@lOw": api.ErrInvalid, "a@loW": api.ErrInvalid, "a@low1": api.ErrInvalid, "a@0": api.ErrInvalid, "a@ low": api.ErrInvalid, "a@low ": api.ErrInvalid, "a@low\n": api.ErrInvalid, "a@lo\x00": api.ErrInvalid,
		"a@.": api.ErrInvalid, "a@..": api.ErrInvalid, "a@l/w": api.ErrInvalid, "a@`": api.ErrInvalid, "a@{": api.ErrInvalid, "a@ä": api.ErrInvalid, "a@\xff": api.ErrInvalid, "a@ſ": api.ErrInvalid,
		"a@abcdefghi": api.ErrInvalid, "@abcdefghi": api.ErrInvalid, "@Low": api.ErrInvalid, "@1": api.ErrInvalid, "@ ": api.ErrInvalid,
		"abcdefghijklmno": api.ErrLong, "/bcdefghijklmno": api.ErrLong, "...............": api.ErrLong, "abcdefghijklmno@low": api.ErrLong, "/bcdefghijklmno@low": api.ErrLong,
		"abcdefghijklmno@": api.ErrInvalid, "abcdefghijklmno@Low": api.ErrInvalid, "abcdefghijklmno@abcdefghi": api.ErrInvalid, "abcdefghijklmno@a@b": api.ErrInvalid, "/@abcdefghi": api.ErrInvalid,
		strings.Repeat("a", 1<<20): api.ErrLong, strings.Repeat("a", 1<<20) + "@low": api.ErrLong, "a@" + strings.Repeat("a", 1<<20): api.ErrInvalid, strings.Repeat("@", 1<<20): api.ErrInvalid, strings.Repeat("a", 1<<20) + "@": api.ErrInvalid,
	} {
		if x, e := path.Part(s); x != (api.Part{}) || e != want {
			t.Errorf("Part(%.40q) = %v, %d, wanted %d", s, x, e, want)
		}
	}
}

// P11.1: names and labels of each length, up to what they may have and beyond, and with neither.
func TestPartLengths(t *testing.T) {
	for long := range 20 {
		name := strings.Repeat("N", long)
		holdPart(t, name)
		for more := range 12 {
			holdPart(t, name+"@"+strings.Repeat("q", more))
		}
	}
}

// P11.1: each byte at each place, with a label and without one.
func TestPartBytes(t *testing.T) {
	for _, s := range []string{"k", "kkkkkkkkkkkkkk", "k@low", "@low", "kk@a", "kkk@abcdefgh", "..", "..@low", "kkkkkkkkkkkkkkk@low"} {
		for at := range len(s) {
			for v := range 256 {
				b := []byte(s)
				b[at] = byte(v)
				holdPart(t, string(b))
			}
		}
	}
}

// eachShort goes over all texts of these bytes that begin so and have so many more at most.
func eachShort(t *testing.T, alphabet, begin string, more int, hold func(t *testing.T, s string)) {
	t.Helper()
	hold(t, begin)
	if more == 0 || t.Failed() {
		return
	}
	for i := range len(alphabet) {
		eachShort(t, alphabet, begin+alphabet[i:i+1], more-1, hold)
	}
}

// P11.1: all short texts of the bytes that matter.
func TestPartAllShort(t *testing.T) {
	const alphabet = ".@/aZ0 \xff"
	eachShort(t, alphabet, "", 5, holdPart)
	for _, begin := range []string{"a@abcdef", "@abcdefg", "abcdefghijklm", "abcdefghijklmn@abcdef"} {
		eachShort(t, alphabet, begin, 3, holdPart)
	}
}

// P1, P11.1: any text at all.
func FuzzPart(f *testing.F) {
	for _, s := range []string{"", "a@low", "@low", "..", "..@low", "abcdefghijklmno@low", "a@@b", "\xff@a"} {
		f.Add(s)
	}
	f.Fuzz(holdPart)
}
