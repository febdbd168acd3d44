package path_test

import (
	"slices"
	"testing"

	"garrison/api"
	"garrison/path"
)

// roomy: a path whose parts have spare room behind them; all of its memory.
func roomy(is bool, s string) (path.Path, []api.Part) {
	whole := append(parts(s), parts("spare@room x y@z spare")...)
	return path.Path{Abs: is, Parts: whole[:len(parts(s))]}, whole
}

// spoil writes into a path, and into its spare room.
func spoil(p path.Path) {
	whole := p.Parts[:cap(p.Parts)]
	for i := range whole {
		whole[i] = api.Part{Name: "spoilt", At: "spoilt"}
	}
}

// made: what a call answers of two paths.
type made struct {
	name string
	do   func(a, b path.Path) path.Path
}

// makers: all calls that answer a path of paths.
func makers() []made {
	return []made{
		{"Join", path.Join},
		{"Join of one twice", func(a, b path.Path) path.Path { return path.Join(a, a) }},
		{"Base", func(a, b path.Path) path.Path {
			p, _, _ := path.Base(a)
			return p
		}},
		{"Base of Join", func(a, b path.Path) path.Path {
			p, _, _ := path.Base(path.Join(a, b))
			return p
		}},
	}
}

// each goes over paths with spare room, of all kinds, and over the calls; was is what they are at first.
func each(t *testing.T, hold func(t *testing.T, m made, a, b path.Path, wholeA, wholeB []api.Part)) {
	t.Helper()
	texts := []string{"", "a", "a b@low", "@low .. c d@mid e"}
	for _, m := range makers() {
		for _, s := range texts {
			for _, z := range texts {
				for kinds := range 4 {
					a, wholeA := roomy(kinds&1 != 0, s)
					b, wholeB := roomy(kinds&2 != 0, z)
					hold(t, m, a, b, wholeA, wholeB)
				}
			}
		}
	}
}

// P2, R6: what is handed in isn't changed, spare room included.
func TestArgumentsStay(t *testing.T) {
	each(t, func(t *testing.T, m made, a, b path.Path, wholeA, wholeB []api.Part) {
		wasA, wasB := slices.Clone(wholeA), slices.Clone(wholeB)
		p := m.do(a, b)
		path.Text(a)
		path.Text(p)
		if !slices.Equal(wholeA, wasA) || !slices.Equal(wholeB, wasB) {
			t.Errorf("%s of %v, %v changes what it is handed", m.name, a, b)
		}
	})
}

// P2, R6: what is written into an answer, or behind it, doesn't come to the arguments, nor to another answer.
func TestAnswersAreNew(t *testing.T) {
	each(t, func(t *testing.T, m made, a, b path.Path, wholeA, wholeB []api.Part) {
		wasA, wasB := slices.Clone(wholeA), slices.Clone(wholeB)
		p, q := m.do(a, b), m.do(a, b)
		want := slices.Clone(q.Parts)
		spoil(p)
		_ = append(p.Parts, api.Part{Name: "more"})
		if !slices.Equal(wholeA, wasA) || !slices.Equal(wholeB, wasB) {
			t.Errorf("%s of %v, %v answers its arguments' memory", m.name, a, b)
		}
		if r := m.do(a, b); !slices.Equal(q.Parts, want) || !slices.Equal(r.Parts, want) || r.Abs != q.Abs {
			t.Errorf("%s of %v, %v answers the memory of another answer", m.name, a, b)
		}
	})
}

// P2, R6: what is handed in isn't kept: what is written into it later doesn't come to the answer.
func TestArgumentsAreNotKept(t *testing.T) {
	each(t, func(t *testing.T, m made, a, b path.Path, wholeA, wholeB []api.Part) {
		p := m.do(a, b)
		want := slices.Clone(p.Parts)
		spoil(a)
		spoil(b)
		if !slices.Equal(p.Parts, want) {
			t.Errorf("%s keeps what it is handed: %v, wanted %v", m.name, p.Parts, want)
		}
	})
}

// P2, R6: the last part stays with the one who is answered it, whatever becomes of the path.
func TestLastStays(t *testing.T) {
	p, _ := roomy(true, "a b@low")
	ahead, last, ok := path.Base(p)
	spoil(p)
	spoil(ahead)
	if last != (api.Part{Name: "b", At: "low"}) || !ok {
		t.Errorf("the last part became %v", last)
	}
}

// P2, R6, R8: each Parse of a text answers the same, in memory of its own.
func TestParsesAreNew(t *testing.T) {
	for _, s := range []string{"/", "a", "/a@low//b", "../@low/a/b/c"} {
		p, _ := path.Parse(s)
		q, _ := path.Parse(s)
		spoil(p)
		_ = append(p.Parts, api.Part{Name: "more"})
		r, _ := path.Parse(s)
		if want, _ := wantPath(s); !same(q, want) || !same(r, want) {
			t.Errorf("Parse(%q) = %v, then %v, wanted %v", s, q, r, want)
		}
	}
}

// P2, R5: a list of no parts is the same as none at all.
func TestEmptyLists(t *testing.T) {
	for _, none := range [][]api.Part{nil, {}, parts("a b")[:0]} {
		for _, is := range []bool{true, false} {
			p := path.Path{Abs: is, Parts: none}
			if want := map[bool]string{true: "/", false: ""}[is]; path.Text(p) != want {
				t.Errorf("Text of no parts = %q", path.Text(p))
			}
			if q := path.Join(p, rel("a")); !same(q, path.Path{Abs: is, Parts: parts("a")}) {
				t.Errorf("Join of no parts = %v", q)
			}
			if q := path.Join(rel("a"), p); is && !same(q, abs("")) || !is && !same(q, rel("a")) {
				t.Errorf("Join with no parts = %v", q)
			}
		}
	}
}
