package walk_test

import (
	"fmt"
	"math/rand"
	"slices"
	"strings"
	"testing"

	"garrison/api"
	"garrison/path"
	"garrison/walk"
)

// wanted: the chapter's words for the directory of a place; whether it is there.
func (w world) wanted(subject int, place api.Ino, at string) (api.Ino, bool, api.Errno) {
	x := w.things[place]
	if x == nil {
		return root, false, api.ErrStale
	}
	lab := subject
	if at != "" {
		lab = slices.Index([]string{"low", "left", "right", "high"}, at)
		if lab < 0 {
			return root, false, api.ErrNone
		}
		if x.kind == api.KDir && int(place.Lab) != lab {
			return root, false, api.ErrAway
		}
		if lab != subject && lab != low && subject != high {
			return root, false, api.ErrPerm
		}
	}
	if x.kind == api.KDir {
		return place, true, api.OK
	}
	if x.kind != api.KMulti {
		return root, false, api.ErrNotDir
	}
	own, ok := x.own[lab]
	if !ok {
		return api.Ino{Lab: uint8(lab)}, false, api.OK
	}
	if w.things[own] == nil {
		return root, false, api.ErrNone
	}
	return own, true, api.OK
}

// dots: the chapter's words for . at a place.
func (w world) dots(place api.Ino) api.Errno {
	x := w.things[place]
	if x == nil {
		return api.ErrStale
	}
	if x.kind != api.KDir && x.kind != api.KMulti {
		return api.ErrNotDir
	}
	return api.OK
}

// goes: the chapter's words for a way: the first part of what is left, then the others.
func (w world) goes(subject int, at []api.Ino, left []api.Part, follow bool, links int) (walk.Found, api.Errno) {
	here := at[len(at)-1]
	if len(left) == 0 {
		if w.things[here] == nil {
			return walk.Found{}, api.ErrStale
		}
		return walk.Found{Stack: at, Node: here, Kind: w.things[here].kind}, api.OK
	}
	p, rest := left[0], left[1:]
	if p.Name == "." || p.Name == ".." {
		if p.Name == ".." && len(at) > 1 {
			at = at[:len(at)-1]
		}
		if e := w.dots(at[len(at)-1]); e != api.OK {
			return walk.Found{}, e
		}
		return w.goes(subject, at, rest, follow, links)
	}
	d, there, e := w.wanted(subject, here, p.At)
	if e != api.OK {
		return walk.Found{}, e
	}
	if p.Name == "" {
		if !there {
			return walk.Found{}, api.ErrNone
		}
		return w.goes(subject, slices.Concat(at, []api.Ino{d}), rest, follow, links)
	}
	f := walk.Found{Stack: at, Dir: d, Name: p.Name}
	var is bool
	if there {
		f.Node, is = w.things[d].names[p.Name]
	}
	return w.comes(subject, f, is, rest, follow, links)
}

// comes: the chapter's words for a name in a directory.
func (w world) comes(subject int, f walk.Found, is bool, rest []api.Part, follow bool, links int) (walk.Found, api.Errno) {
	if !is && len(rest) > 0 {
		return walk.Found{}, api.ErrNone
	}
	if !is {
		return f, api.OK
	}
	x := w.things[f.Node]
	if x == nil {
		return walk.Found{}, api.ErrStale
	}
	if x.kind == api.KLink && (len(rest) > 0 || follow) {
		if links == 8 {
			return walk.Found{}, api.ErrLoop
		}
		p, e := path.Parse(x.target)
		if e != api.OK {
			return walk.Found{}, e
		}
		at := f.Stack
		if p.Abs {
			at = []api.Ino{root}
		}
		return w.goes(subject, at, slices.Concat(p.Parts, rest), follow, links+1)
	}
	if len(rest) == 0 {
		f.Kind = x.kind
		return f, api.OK
	}
	if x.kind != api.KDir && x.kind != api.KMulti {
		return walk.Found{}, api.ErrNotDir
	}
	return w.goes(subject, slices.Concat(f.Stack, []api.Ino{f.Node}), rest, follow, links)
}

// model: the chapter's words for Walk.
func (w world) model(subject int, from []api.Ino, s string, follow bool) (walk.Found, api.Errno) {
	p, e := path.Parse(s)
	if e != api.OK {
		return walk.Found{}, e
	}
	if p.Abs || len(from) == 0 {
		from = []api.Ino{root}
	}
	return w.goes(subject, from, p.Parts, follow, 0)
}

// modelDir: the chapter's words for Dir.
func (w world) modelDir(subject int, from []api.Ino, s string) ([]api.Ino, api.Errno) {
	f, e := w.model(subject, from, s, true)
	switch {
	case e != api.OK:
		return nil, e
	case f.Name == "":
		return f.Stack, api.OK
	case f.Node == root:
		return nil, api.ErrNone
	case f.Kind != api.KDir && f.Kind != api.KMulti:
		return nil, api.ErrNotDir
	}
	return slices.Concat(f.Stack, []api.Ino{f.Node}), api.OK
}

// oneOf: by chance.
func oneOf[T any](r *rand.Rand, l ...T) T { return l[r.Intn(len(l))] }

// text: a path of chance, of so many parts at most, most of which are right.
func text(r *rand.Rand, most int) string {
	var parts []string
	for range 1 + r.Intn(most) {
		name := oneOf(r, "a", "b", "c", "a", "b", "c", "d", "e", "..", ".")
		at := oneOf(r, "", "", "", "", "", "@low", "@left", "@right", "@high", "@none")
		switch {
		case r.Intn(9) == 0:
			parts = append(parts, oneOf(r, "@low", "@low", "@left", "@right", "@high", "@none"))
		case name[0] == '.':
			parts = append(parts, name)
		default:
			parts = append(parts, name+at)
		}
	}
	return oneOf(r, "", "/") + strings.Join(parts, "/")
}

// random: a world of chance: names in all directories, links to anywhere, own directories of some labels, some nodes that aren't there any more.
func random(t *testing.T, r *rand.Rand) world {
	t.Helper()
	w := begun(t)
	dirs, multis := []api.Ino{w.own(low), w.own(left), w.own(right), w.own(high)}, []api.Ino{}
	for range 70 {
		d, name := dirs[r.Intn(len(dirs))], oneOf(r, "a", "b", "c", "d")
		if len(multis) > 0 && r.Intn(4) == 0 {
			of := multis[r.Intn(len(multis))]
			lab := r.Intn(labels)
			if _, ok := w.things[of].own[lab]; !ok && w.c.Leq(int(of.Lab), lab) {
				dirs = append(dirs, w.need(t, lab, of))
			}
			continue
		}
		if _, ok := w.things[d].names[name]; ok {
			continue
		}
		switch k := oneOf(r, api.KDir, api.KDir, api.KMulti, api.KMulti, api.KFile, api.KFifo, api.KLink, api.KLink); k {
		case api.KLink:
			w.link(t, d, name, oneOf(r, text(r, 3), text(r, 2), "/", "a b"))
		case api.KDir:
			dirs = append(dirs, w.add(t, d, name, k))
		case api.KMulti:
			multis = append(multis, w.add(t, d, name, k))
		default:
			w.add(t, d, name, k)
		}
	}
	for _, of := range append(dirs[labels:], multis...) {
		if r.Intn(12) == 0 {
			w.end(t, of)
		}
	}
	return w
}

// begins: where a way of a subject begins, by chance: at the root, where one of its ways came to, or anywhere; whether that is its own.
func (w world) begins(r *rand.Rand, subject int, known []api.Ino) ([]api.Ino, bool) {
	switch r.Intn(4) {
	case 0:
		return nil, true
	case 1, 2:
		l, e := w.modelDir(subject, nil, text(r, 4))
		return l, e == api.OK
	}
	var l []api.Ino
	for range r.Intn(4) {
		l = append(l, known[r.Intn(len(known))])
	}
	return l, len(l) == 0
}

// P12.2, P12.3, P3: ways of chance are as the chapter says, and what they come to is at or below who goes them.
func TestModel(t *testing.T) {
	seen := map[string]int{}
	for seed := range int64(60) {
		r := rand.New(rand.NewSource(seed))
		w := random(t, r)
		v := w.view()
		known := []api.Ino{root, root, {Lab: low, Num: 60}, {Lab: left, Num: 5, Gen: 77}}
		for num := range uint16(40) {
			for lab := range labels {
				if i := (api.Ino{Lab: uint8(lab), Num: num, Gen: 1}); w.things[i] != nil {
					known = append(known, i)
				}
			}
		}
		for range 1500 {
			subject, s, follow := r.Intn(labels), text(r, 6), r.Intn(2) == 0
			from, its := w.begins(r, subject, known)
			f, e := v.Walk(subject, from, s, follow)
			want, wantE := w.model(subject, from, s, follow)
			if !same(f, want) || e != wantE {
				t.Fatalf("seed %d: Walk(%d, %v, %q, %v) = %v, %d, wanted %v, %d", seed, subject, from, s, follow, f, e, want, wantE)
			}
			l, e := v.Dir(subject, from, s)
			wantL, wantLE := w.modelDir(subject, from, s)
			if !slices.Equal(l, wantL) || e != wantLE {
				t.Fatalf("seed %d: Dir(%d, %v, %q) = %v, %d, wanted %v, %d", seed, subject, from, s, l, e, wantL, wantLE)
			}
			if its {
				w.below(t, subject, s, f, l)
			}
			seen[fmt.Sprint(wantE, len(want.Name) > 0, want.Kind)]++
		}
	}
	for _, e := range []api.Errno{api.ErrNone, api.ErrNotDir, api.ErrAway, api.ErrPerm, api.ErrLoop, api.ErrStale, api.ErrInvalid} {
		if seen[fmt.Sprint(e, false, 0)] < 10 {
			t.Errorf("error %d came %d times", e, seen[fmt.Sprint(e, false, 0)])
		}
	}
	for k := range api.Kind(6) {
		if n := seen[fmt.Sprint(api.OK, true, k)]; n < 10 {
			t.Errorf("kind %d came %d times", k, n)
		}
	}
}

// below: is all that a subject's way comes to of a label at or below it?
func (w world) below(t *testing.T, subject int, s string, f walk.Found, l []api.Ino) {
	t.Helper()
	for _, i := range slices.Concat(f.Stack, l, []api.Ino{f.Dir, f.Node}) {
		if i != root && !w.c.Leq(int(i.Lab), subject) {
			t.Errorf("P3: %q of %d comes to %v", s, subject, i)
		}
	}
}
