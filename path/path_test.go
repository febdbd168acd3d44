package path_test

import (
	"slices"
	"strings"
	"testing"

	"garrison/api"
	"garrison/path"
)

// parts: as they stand in a text, one behind the other, with blanks between.
func parts(s string) []api.Part {
	var out []api.Part
	for _, w := range strings.Fields(s) {
		name, at, _ := strings.Cut(w, "@")
		out = append(out, api.Part{Name: name, At: at})
	}
	return out
}

func rel(s string) path.Path { return path.Path{Parts: parts(s)} }

func abs(s string) path.Path { return path.Path{Abs: true, Parts: parts(s)} }

// same: are they one path? A list that is empty may be nil.
func same(a, b path.Path) bool { return a.Abs == b.Abs && slices.Equal(a.Parts, b.Parts) }

// zero: is it what stands beside an error?
func zero(p path.Path) bool { return !p.Abs && len(p.Parts) == 0 }

// wantPath: the chapter's words for Parse, byte by byte.
func wantPath(s string) (path.Path, api.Errno) {
	if len(s) == 0 {
		return path.Path{}, api.ErrInvalid
	}
	if len(s) > 120 {
		return path.Path{}, api.ErrLong
	}
	p := path.Path{Abs: s[0] == '/'}
	var between []byte
	for i := range len(s) + 1 {
		if i < len(s) && s[i] != '/' {
			between = append(between, s[i])
			continue
		}
		if len(between) == 0 {
			continue
		}
		x, e := wantPart(string(between))
		if e != api.OK {
			return path.Path{}, e
		}
		p.Parts, between = append(p.Parts, x), nil
	}
	return p, api.OK
}

func holdParse(t *testing.T, s string) {
	t.Helper()
	p, e := path.Parse(s)
	want, wantE := wantPath(s)
	if !same(p, want) || e != wantE {
		t.Errorf("Parse(%.130q) = %v, %d, wanted %v, %d", s, p, e, want, wantE)
	}
	if e != api.OK {
		return
	}
	if q, e := path.Parse(path.Text(p)); !same(p, q) || e != api.OK {
		t.Errorf("Parse(Text(%v)) = %v, %d", p, q, e)
	}
}

// The chapter's example.
func TestExample(t *testing.T) {
	p, e := path.Parse("/a@low//b")
	if !p.Abs || !slices.Equal(p.Parts, []api.Part{{Name: "a", At: "low"}, {Name: "b"}}) || e != api.OK {
		t.Errorf("Parse = %v, %d", p, e)
	}
	if s := path.Text(p); s != "/a@low/b" {
		t.Errorf("Text = %q", s)
	}
}

// P11.1
func TestParse(t *testing.T) {
	for s, want := range map[string]path.Path{
		"/": abs(""), "//": abs(""), strings.Repeat("/", 120): abs(""),
		"a": rel("a"), "/a": abs("a"), "a/": rel("a"), "/a/": abs("a"), "//a//": abs("a"), "a//b": rel("a b"), "a/b/c": rel("a b c"), "///a///b///c///": abs("a b c"),
		".": rel("."), "..": rel(".."), "/.": abs("."), "/..": abs(".."), "../..": rel(".. .."), "./a/../b": rel(". a .. b"), "a/a/a": rel("a a a"), "...": rel("..."),
		"a@low": rel("a@low"), "/a@low/b": abs("a@low b"), "@low": rel("@low"), "/@low": abs("@low"), "/@low/": abs("@low"), "@low/@high": rel("@low @high"), "a@low/b@mid/c": rel("a@low b@mid c"), "../@low/.": rel(".. @low ."),
		"abcdefghijklmn@abcdefgh/abcdefghijklmn": rel("abcdefghijklmn@abcdefgh abcdefghijklmn"),
	} {
		if p, e := path.Parse(s); !same(p, want) || e != api.OK {
			t.Errorf("Parse(%q) = %v, %d, wanted %v", s, p, e, want)
		}
	}
}

// P11.1: Part's error, of the first part that isn't right, wherever it stands.
func TestParseErrors(t *testing.T) {
	for s, want := range map[string]api.Errno{
		"a b": api.ErrInvalid, "/a/b c/d": api.ErrInvalid, "a@/b": api.ErrInvalid, "/@": api.ErrInvalid, "a/.@low": api.ErrInvalid, "..@low": api.ErrInvalid, "..@low/a": api.ErrInvalid, "a@low@mid": api.ErrInvalid, "a@Low/b": api.ErrInvalid,
		"a\x00": api.ErrInvalid, "\x00": api.ErrInvalid, "a/b\n": api.ErrInvalid, " /a": api.ErrInvalid, "/ä": api.ErrInvalid, "a/\xff/b": api.ErrInvalid, "a@abcdefghi": api.ErrInvalid, "a\\b c": api.ErrInvalid,
		"abcdefghijklmno": api.ErrLong, "/abcdefghijklmno": api.ErrLong, "a/abcdefghijklmno@low/b": api.ErrLong,
		"abcdefghijklmno/a b": api.ErrLong, "a b/abcdefghijklmno": api.ErrInvalid, "a@/abcdefghijklmno": api.ErrInvalid, "a/abcdefghijklmno/@": api.ErrLong,
	} {
		if p, e := path.Parse(s); !zero(p) || e != want {
			t.Errorf("Parse(%q) = %v, %d, wanted %d", s, p, e, want)
		}
	}
}

// P11.1: 120 bytes, empty texts between / counted, and not one more; how long it is, is told ahead of what is in it.
func TestParseLong(t *testing.T) {
	full := strings.Repeat("/abcdefghi", 12)
	if p, e := path.Parse(full); !same(p, abs(strings.Repeat("abcdefghi ", 12))) || e != api.OK {
		t.Errorf("Parse of 120 bytes = %v, %d", p, e)
	}
	many := strings.Repeat("a/", 60)
	if p, e := path.Parse(many); !same(p, rel(strings.Repeat("a ", 60))) || e != api.OK {
		t.Errorf("Parse of 60 parts = %v, %d", p, e)
	}
	for _, s := range []string{
		full + "j", full + "/", "/" + full, many + "a", strings.Repeat("/", 121), strings.Repeat(" ", 121), strings.Repeat("a", 121), strings.Repeat("@", 121), strings.Repeat("\x00", 121), "a b/" + full,
		strings.Repeat("a/", 1<<20), strings.Repeat("/", 1<<20), strings.Repeat("\xff", 1<<20),
	} {
		if p, e := path.Parse(s); !zero(p) || e != api.ErrLong {
			t.Errorf("Parse(%.10q) of %d bytes = %v, %d", s, len(s), p, e)
		}
	}
	for long := range 130 {
		for _, s := range []string{"a", "/", " ", "/a", "../", "a@b/", "ä"} {
			holdParse(t, strings.Repeat(s, long)[:long])
		}
	}
	if p, e := path.Parse(""); !zero(p) || e != api.ErrInvalid {
		t.Errorf("Parse of nothing = %v, %d", p, e)
	}
}

// P11.1: all short texts of the bytes that matter.
func TestParseAllShort(t *testing.T) {
	eachShort(t, "/.@aZ ", "", 6, holdParse)
	for _, begin := range []string{"/a@low/", "../b", "a//@", "abcdefghijklmn"} {
		eachShort(t, "/.@aZ ", begin, 4, holdParse)
	}
}

// P1, P11.1: any text at all.
func FuzzParse(f *testing.F) {
	for _, s := range []string{"", "/", "/a@low//b", "../@low/.", "..@low", "a/abcdefghijklmno", strings.Repeat("/a", 60), strings.Repeat("a/", 61), "\xff/@"} {
		f.Add(s)
	}
	f.Fuzz(holdParse)
}

// P11.2
func TestText(t *testing.T) {
	for want, p := range map[string]path.Path{
		"": rel(""), "/": abs(""), "a": rel("a"), "/a": abs("a"), "a/b": rel("a b"), "/a/b/c": abs("a b c"), "..": rel(".."), "/../.": abs(".. ."), "./a": rel(". a"),
		"@low": rel("@low"), "/@low": abs("@low"), "a@low": rel("a@low"), "/a@low/b": abs("a@low b"), "/a/b@low/@mid/c": abs("a b@low @mid c"), "a@a/b@b": rel("a@a b@b"),
		"abcdefghijklmn@abcdefgh": rel("abcdefghijklmn@abcdefgh"),
	} {
		if s := path.Text(p); s != want {
			t.Errorf("Text(%v) = %q, wanted %q", p, s, want)
		}
	}
}

// P11.2: Text asks nothing of parts: they stand there as they are, / between, longer than a path may be too.
func TestTextWrong(t *testing.T) {
	for _, x := range []struct {
		p    path.Path
		want string
	}{
		{path.Path{Parts: []api.Part{{}}}, ""},
		{path.Path{Abs: true, Parts: []api.Part{{}}}, "/"},
		{path.Path{Parts: []api.Part{{}, {}}}, "/"},
		{path.Path{Abs: true, Parts: []api.Part{{}, {Name: "a"}, {}}}, "//a/"},
		{path.Path{Parts: []api.Part{{Name: "a/b", At: "Low@1"}, {Name: "..", At: "low"}}}, "a/b@Low@1/..@low"},
		{path.Path{Parts: []api.Part{{Name: "\x00\xff"}, {At: "\xff "}}}, "\x00\xff/@\xff "},
		{path.Path{Abs: true, Parts: slices.Repeat([]api.Part{{Name: "abcdefghij"}}, 100000)}, strings.Repeat("/abcdefghij", 100000)},
		{path.Path{Parts: []api.Part{{Name: strings.Repeat("n", 1<<20), At: strings.Repeat("l", 1<<20)}}}, strings.Repeat("n", 1<<20) + "@" + strings.Repeat("l", 1<<20)},
	} {
		if s := path.Text(x.p); s != x.want {
			t.Errorf("Text = %.60q, wanted %.60q", s, x.want)
		}
	}
}

// P11.1, P11.2: what Text says of a path that was read is the text without what is between / and empty.
func TestTextParse(t *testing.T) {
	for s, want := range map[string]string{
		"/": "/", "///": "/", "a": "a", "a/": "a", "//a": "/a", "/a//b/": "/a/b", "a@low//b": "a@low/b", ".//..": "./..", "//@low//": "/@low", strings.Repeat("a/", 60): strings.Repeat("a/", 59) + "a",
	} {
		p, e := path.Parse(s)
		if got := path.Text(p); got != want || e != api.OK {
			t.Errorf("Text of %q = %q, %d, wanted %q", s, got, e, want)
		}
	}
}

// P11.2
func TestJoin(t *testing.T) {
	for _, x := range []struct{ a, b, want path.Path }{
		{rel(""), rel(""), rel("")},
		{abs(""), rel(""), abs("")},
		{rel(""), abs(""), abs("")},
		{abs(""), abs(""), abs("")},
		{rel("a"), rel(""), rel("a")},
		{rel(""), rel("b"), rel("b")},
		{abs(""), rel("b"), abs("b")},
		{abs("a"), rel(""), abs("a")},
		{rel("a"), rel("b"), rel("a b")},
		{abs("a"), rel("b"), abs("a b")},
		{rel("a"), abs("b"), abs("b")},
		{abs("a"), abs("b"), abs("b")},
		{rel("a b"), abs(""), abs("")},
		{abs("a b"), abs(""), abs("")},
		{abs("a b"), rel(".. c"), abs("a b .. c")},
		{rel(".."), rel("."), rel(".. .")},
		{rel("a@low @mid"), rel("b@high"), rel("a@low @mid b@high")},
		{abs("a a"), rel("a a"), abs("a a a a")},
		{rel("a@low"), abs("@low b"), abs("@low b")},
		{path.Path{Parts: []api.Part{{}, {Name: "/"}}}, path.Path{Parts: []api.Part{{At: "@"}}}, path.Path{Parts: []api.Part{{}, {Name: "/"}, {At: "@"}}}},
		{abs(strings.Repeat("a ", 1000)), rel(strings.Repeat("b ", 1000)), abs(strings.Repeat("a ", 1000) + strings.Repeat("b ", 1000))},
	} {
		if p := path.Join(x.a, x.b); !same(p, x.want) {
			t.Errorf("Join(%v, %v) = %v, wanted %v", x.a, x.b, p, x.want)
		}
	}
}

// P11.2
func TestBase(t *testing.T) {
	for _, x := range []struct {
		p, want path.Path
		last    api.Part
	}{
		{rel("a"), rel(""), api.Part{Name: "a"}},
		{abs("a"), abs(""), api.Part{Name: "a"}},
		{rel("a b"), rel("a"), api.Part{Name: "b"}},
		{abs("a b c"), abs("a b"), api.Part{Name: "c"}},
		{abs("a@low b@mid"), abs("a@low"), api.Part{Name: "b", At: "mid"}},
		{rel("@low"), rel(""), api.Part{At: "low"}},
		{abs("a @low"), abs("a"), api.Part{At: "low"}},
		{rel(".. .."), rel(".."), api.Part{Name: ".."}},
		{abs("."), abs(""), api.Part{Name: "."}},
		{path.Path{Parts: []api.Part{{}}}, rel(""), api.Part{}},
		{path.Path{Abs: true, Parts: []api.Part{{Name: "/"}, {Name: "..", At: "L"}}}, path.Path{Abs: true, Parts: []api.Part{{Name: "/"}}}, api.Part{Name: "..", At: "L"}},
		{abs(strings.Repeat("a ", 1000) + "b"), abs(strings.Repeat("a ", 1000)), api.Part{Name: "b"}},
	} {
		if p, last, ok := path.Base(x.p); !same(p, x.want) || last != x.last || !ok {
			t.Errorf("Base(%v) = %v, %v, %v, wanted %v, %v", x.p, p, last, ok, x.want, x.last)
		}
	}
}

// P11.2: without parts: p itself, absolute if it is; R5: a list that is empty may be nil.
func TestBaseNone(t *testing.T) {
	for _, is := range []bool{true, false} {
		for _, none := range [][]api.Part{nil, {}, parts("a b")[:0]} {
			if p, last, ok := path.Base(path.Path{Abs: is, Parts: none}); p.Abs != is || len(p.Parts) > 0 || last != (api.Part{}) || ok {
				t.Errorf("Base of no parts, absolute %v = %v, %v, %v", is, p, last, ok)
			}
		}
	}
}

// P11.2: Base and Join are each other's way back.
func TestBaseJoin(t *testing.T) {
	for _, s := range []string{"a", "/a", "a/b@low", "/a/../@low/c", "..", strings.Repeat("/a", 60)} {
		p, _ := path.Parse(s)
		ahead, last, ok := path.Base(p)
		if q := path.Join(ahead, path.Path{Parts: []api.Part{last}}); !ok || !same(p, q) {
			t.Errorf("Join of Base of %q = %v, wanted %v", s, q, p)
		}
	}
}
