package tree_test

import (
	"fmt"
	"maps"
	"math/rand"
	"slices"
	"strings"
	"testing"

	"garrison/api"
	"garrison/inst"
	"garrison/path"
	"garrison/walk"
)

// who is a subject, and where it is.
type who struct {
	subject int
	from    []api.Ino
}

// fresh: the chapter's words for a new place.
func (m *model) fresh(w who, s string) (d api.Ino, name string, e api.Errno) {
	f, e := m.way(w.subject, w.from, s, false)
	if e != api.OK {
		return root, "", e
	}
	if f.Kind != api.KFree || f.Name == "" {
		return root, "", api.ErrExists
	}
	return m.room(w, f)
}

// room: the same, behind the way.
func (m *model) room(w who, f walk.Found) (d api.Ino, name string, e api.Errno) {
	if int(f.Dir.Lab) != w.subject {
		return root, "", api.ErrPerm
	}
	d = f.Dir
	if d.Num == 0 {
		d, e = m.need(w.subject, f.Stack[len(f.Stack)-1])
	}
	return d, f.Name, e
}

// begin: a new node, and its name.
func (m *model) begin(w who, s string, x thing) (api.Ino, api.Errno) {
	d, name, e := m.fresh(w, s)
	if e != api.OK {
		return root, e
	}
	if x.kind == api.KFree {
		return root, api.ErrRange
	}
	i, e := m.create(w.subject, x)
	if e != api.OK {
		return root, e
	}
	m.add(d, name, i)
	return i, api.OK
}

// symlink: the chapter's words for Symlink.
func (m *model) symlink(w who, target, s string) (api.Ino, api.Errno) {
	if len(target) > 60 {
		return root, api.ErrLong
	}
	if _, e := path.Parse(target); e != api.OK {
		return root, e
	}
	return m.begin(w, s, thing{kind: api.KLink, target: target})
}

// named: the chapter's words for a name of one's own.
func (m *model) named(w who, s string) (walk.Found, api.Errno) {
	f, e := m.way(w.subject, w.from, s, false)
	switch {
	case e != api.OK:
		return walk.Found{}, e
	case f.Kind == api.KFree:
		return walk.Found{}, api.ErrNone
	case f.Name == "":
		return walk.Found{}, api.ErrBusy
	case int(f.Dir.Lab) != w.subject || int(f.Node.Lab) != w.subject:
		return walk.Found{}, api.ErrPerm
	case f.Node.Num <= 3:
		return walk.Found{}, api.ErrBusy
	}
	return f, api.OK
}

// link: the chapter's words for Link.
func (m *model) link(w who, old, s string) api.Errno {
	f, e := m.named(w, old)
	if e != api.OK {
		return e
	}
	if isDir(f.Kind) {
		return api.ErrIsDir
	}
	d, name, e := m.fresh(w, s)
	if e != api.OK {
		return e
	}
	m.add(d, name, f.Node)
	m.things[f.Node].links++
	return api.OK
}

// less: a node has one name less.
func (m *model) less(i api.Ino) {
	m.things[i].links--
	if m.things[i].links == 0 {
		delete(m.things, i)
	}
}

// unlink: the chapter's words for Unlink.
func (m *model) unlink(w who, s string) api.Errno {
	f, e := m.named(w, s)
	if e != api.OK {
		return e
	}
	if isDir(f.Kind) {
		return api.ErrIsDir
	}
	m.drop(f.Dir, f.Name)
	m.less(f.Node)
	return api.OK
}

// empty: the chapter's words for what has to be.
func (m *model) empty(w who, i api.Ino) api.Errno {
	d := i
	if m.things[i].kind == api.KMulti {
		own, ok := m.own(w.subject, i)
		if !ok {
			return api.OK
		}
		d = own
	}
	if len(m.things[d].names) > 0 {
		return api.ErrNotEmpty
	}
	if d != i {
		delete(m.things, d)
		at := slices.Index(m.tables[w.subject], record{i, d})
		m.tables[w.subject][at] = record{}
	}
	return api.OK
}

// rmdir: the chapter's words for Rmdir.
func (m *model) rmdir(w who, s string) api.Errno {
	f, e := m.named(w, s)
	if e != api.OK {
		return e
	}
	if !isDir(f.Kind) {
		return api.ErrNotDir
	}
	if e := m.empty(w, f.Node); e != api.OK {
		return e
	}
	m.drop(f.Dir, f.Name)
	delete(m.things, f.Node)
	return api.OK
}

// ahead: in what each directory is.
func (m *model) ahead() map[api.Ino]api.Ino {
	in := map[api.Ino]api.Ino{}
	for d, x := range m.things {
		for _, i := range x.names {
			in[i] = d
		}
	}
	for lab := range labels {
		for _, r := range m.tables[lab] {
			in[r.own] = r.of
		}
	}
	delete(in, root)
	return in
}

// into: does a way come to what a directory holds?
func (m *model) into(f walk.Found, i api.Ino) bool {
	if slices.Contains(f.Stack, i) {
		return true
	}
	if f.Name == "" {
		return false
	}
	in, at := m.ahead(), f.Dir
	if at.Num == 0 {
		at = f.Stack[len(f.Stack)-1]
	}
	for at != root {
		if at == i {
			return true
		}
		at = in[at]
	}
	return false
}

// rename: the chapter's words for Rename.
func (m *model) rename(w who, old, s string) api.Errno {
	f, e := m.named(w, old)
	if e != api.OK {
		return e
	}
	g, e := m.way(w.subject, w.from, s, false)
	if e != api.OK {
		return e
	}
	if isDir(f.Kind) && m.into(g, f.Node) {
		return api.ErrInvalid
	}
	if g.Kind == api.KFree {
		d, name, e := m.room(w, g)
		if e != api.OK {
			return e
		}
		m.drop(f.Dir, f.Name)
		m.add(d, name, f.Node)
		return api.OK
	}
	if g, e = m.named(w, s); e != api.OK {
		return e
	}
	switch {
	case g.Node == f.Node:
		return api.OK
	case isDir(f.Kind) && !isDir(g.Kind):
		return api.ErrNotDir
	case !isDir(f.Kind) && isDir(g.Kind):
		return api.ErrIsDir
	}
	if isDir(g.Kind) {
		if e := m.empty(w, g.Node); e != api.OK {
			return e
		}
		delete(m.things, g.Node)
	} else {
		m.less(g.Node)
	}
	m.things[g.Dir].names[g.Name] = f.Node
	m.drop(f.Dir, f.Name)
	return api.OK
}

// oneOf: by chance.
func oneOf[T any](r *rand.Rand, l ...T) T { return l[r.Intn(len(l))] }

// name: one by chance, that may be there or not.
func name(r *rand.Rand) string { return string(rune('a' + r.Intn(8))) }

// odd: a part that is none of a name that one may have, by chance, rarely.
func odd(r *rand.Rand, s string) string {
	if r.Intn(12) > 0 {
		return s
	}
	return oneOf(r, ".", "..", "@low", "@left", "a b", "z/z")
}

// some: a path of chance along what is there; at its end a name that mostly is, or mostly isn't.
func (m *model) some(r *rand.Rand, w who, fresh bool) string {
	var parts []string
	at, abs := w.from, r.Intn(2) == 0 || len(w.from) == 0
	if abs {
		at = stack()
	}
	here := at[len(at)-1]
	for {
		wanted := oneOf(r, "", "", "", "", "", "", "low", "left", "right", "high")
		d, there, e := m.directory(w.subject, here, wanted)
		if e != api.OK && r.Intn(4) > 0 {
			wanted = ""
			d, there, e = m.directory(w.subject, here, "")
		}
		if wanted != "" {
			wanted = "@" + wanted
		}
		if e != api.OK || !there || len(m.things[d].names) == 0 || r.Intn(15) == 0 {
			parts = append(parts, odd(r, name(r)+wanted))
			break
		}
		names := slices.Sorted(maps.Keys(m.things[d].names))
		next := names[r.Intn(len(names))]
		here = m.things[d].names[next]
		if stop := !isDir(m.things[here].kind) && r.Intn(8) > 0 || r.Intn(3) == 0 || len(parts) == 4; stop {
			if fresh && r.Intn(4) > 0 {
				next = name(r)
			}
			parts = append(parts, odd(r, next+wanted))
			break
		}
		parts = append(parts, next+wanted)
	}
	s := strings.Join(parts, "/")
	if abs {
		return "/" + s
	}
	return s
}

// act: something that a subject does, by chance, to the disk and to the model: what both answer.
func (w world) act(r *rand.Rand, m *model, by who) (what string, got, want api.Errno, i, j api.Ino) {
	tr := w.tree(by.subject, by.from...)
	k := r.Intn(20)
	a, b := m.some(r, by, k < 11 || k%2 == 0), m.some(r, by, false)
	switch k {
	case 0, 1, 2, 3, 4, 5, 6:
		kind := oneOf(r, api.KFile, api.KDir, api.KDir, api.KDir, api.KMulti, api.KMulti, api.KFifo, api.KFree)
		i, got = tr.Make(a, kind)
		j, want = m.begin(by, a, thing{kind: kind})
		return fmt.Sprint("Make ", a, kind), got, want, i, j
	case 7, 8:
		i, got = tr.Symlink(b, a)
		j, want = m.symlink(by, b, a)
		what = "Symlink"
	case 9, 10:
		got, want = tr.Link(b, a), m.link(by, b, a)
		what = "Link"
	case 11:
		got, want = tr.Unlink(a), m.unlink(by, a)
		what = "Unlink"
	case 12, 13:
		got, want = tr.Rmdir(a), m.rmdir(by, a)
		what = "Rmdir"
	default:
		got, want = tr.Rename(b, a), m.rename(by, b, a)
		what = "Rename"
	}
	return what + " " + b + " " + a, got, want, i, j
}

// asModel: is on the disk what is in the model, no more, no less?
func (w world) asModel(t *testing.T, m *model) {
	t.Helper()
	var many [labels]int
	for i, x := range m.things {
		if i == root {
			continue
		}
		many[i.Lab]++
		n := w.node(t, i)
		if n.Kind != x.kind || int(n.Links) != x.links || int(n.Size) != m.size(i) {
			t.Fatalf("%v is %v, wanted %v", i, n, *x)
		}
		if x.kind == api.KDir {
			var want []api.Entry
			for _, name := range x.places {
				if name != "" {
					want = append(want, entry(name, x.names[name]))
				}
			}
			w.list(t, i, want...)
		}
	}
	for lab := range labels {
		var want []inst.Record
		for _, r := range m.tables[lab] {
			if r.own != root {
				want = append(want, inst.Record{Of: r.of, Own: r.own.Num})
			}
		}
		if l, e := inst.List(w.open(t, lab)); e != api.OK || !slices.Equal(l, want) {
			t.Fatalf("records of %d: %v, %d, wanted %v", lab, l, e, want)
		}
		if _, nodes, e := w.open(t, lab).Usage(); e != api.OK || nodes != many[lab] {
			t.Fatalf("%d has %d nodes, %d, wanted %d", lab, nodes, e, many[lab])
		}
	}
}

// asTold: do Stat and List answer what the model says?
func (w world) asTold(t *testing.T, r *rand.Rand, m *model, by who) {
	t.Helper()
	tr, s, follow := w.tree(by.subject, by.from...), m.some(r, by, false), r.Intn(2) == 0
	f, e := m.way(by.subject, by.from, s, follow)
	var want api.Stat
	if e == api.OK && f.Kind == api.KFree {
		e = api.ErrNone
	}
	if e == api.OK {
		want = api.Stat{Ino: f.Node, Kind: f.Kind, Links: uint8(m.things[f.Node].links), Size: uint32(m.size(f.Node))}
	}
	if st, se := tr.Stat(s, follow); st != want || se != e {
		t.Fatalf("Stat(%q, %v) for %v = %v, %d, wanted %v, %d", s, follow, by, st, se, want, e)
	}
	f, e = m.way(by.subject, by.from, s, true)
	if e == api.OK && f.Kind == api.KFree {
		e = api.ErrNone
	}
	if e == api.OK && !isDir(f.Kind) {
		e = api.ErrNotDir
	}
	var list []api.Entry
	if e == api.OK {
		d, _, _ := m.directory(by.subject, f.Node, "")
		if x := m.things[d]; x != nil && d != root {
			for _, name := range x.places {
				if name != "" {
					list = append(list, entry(name, x.names[name]))
				}
			}
		}
	}
	if l, le := tr.List(s); !slices.Equal(l, list) || le != e {
		t.Fatalf("List(%q) for %v = %v, %d, wanted %v, %d", s, by, l, le, list, e)
	}
}

// by: a subject of chance, at the root, or where a way of its own, or of one below, came to once.
func (m *model) by(r *rand.Rand, places [][]api.Ino) who {
	w := who{subject: r.Intn(labels)}
	if len(places) > 0 && r.Intn(3) > 0 {
		l := places[r.Intn(len(places))]
		for _, i := range l {
			if !leq(int(i.Lab), w.subject) {
				return w
			}
		}
		w.from = l
	}
	return w
}

// P13.1 to P13.4, P3: whatever is done, by whomever, in whatever order, comes to what the chapter's words come to; and the disk is right.
func TestModel(t *testing.T) {
	seen := map[string]int{}
	for seed := range int64(60) {
		r := rand.New(rand.NewSource(seed))
		w, m := begun(t, four), newModel(60)
		var places [][]api.Ino
		for step := range 400 {
			by, was := m.by(r, places), m.clone()
			what, got, want, i, j := w.act(r, m, by)
			if got != want || i != j {
				t.Fatalf("seed %d, step %d: %s by %v = %d, %v, wanted %d, %v", seed, step, what, by, got, i, want, j)
			}
			if want != api.OK {
				*m = *was
			}
			w.done(t, by.subject, what, got, want)
			seen[fmt.Sprint(strings.Fields(what)[0], int(want))]++
			w.asTold(t, r, m, by)
			if f, e := m.way(by.subject, by.from, m.some(r, by, false), true); e == api.OK && isDir(f.Kind) {
				if f.Name != "" {
					f.Stack = slices.Concat(f.Stack, []api.Ino{f.Node})
				}
				places = append(places, f.Stack)
			}
			if step%10 == 0 {
				w.asModel(t, m)
				w.right(t)
			}
		}
		w.asModel(t, m)
		w.right(t)
	}
	t.Log(seen)
	for _, x := range []string{"Make0", "Make3", "Make4", "Make2", "Make7", "Symlink0", "Symlink4", "Link0", "Link6", "Link4", "Unlink0", "Unlink6", "Unlink2", "Rmdir0", "Rmdir15", "Rmdir5", "Rename0", "Rename2", "Rename3", "Rename5", "Rename6", "Rename7", "Rename14", "Rename15", "Rename16", "Rename22"} {
		if seen[x] < 5 {
			t.Errorf("%s came %d times", x, seen[x])
		}
	}
}

// P13.2, P6: with few nodes likewise: what there is no node for isn't made.
func TestModelScarce(t *testing.T) {
	many := 0
	for seed := range int64(30) {
		r := rand.New(rand.NewSource(seed))
		w, m := begun(t, strings.ReplaceAll(four, "nodes 60", "nodes 12")), newModel(12)
		for step := range 300 {
			by, was := who{subject: r.Intn(labels)}, m.clone()
			what, got, want, i, j := w.act(r, m, by)
			if got != want || i != j {
				t.Fatalf("seed %d, step %d: %s by %v = %d, %v, wanted %d, %v", seed, step, what, by, got, i, want, j)
			}
			if want != api.OK {
				*m = *was
			}
			if want == api.ErrSpace {
				many++
			}
			w.done(t, by.subject, what, got, want)
		}
		w.asModel(t, m)
		w.right(t)
	}
	if many < 50 {
		t.Errorf("there was no space %d times", many)
	}
}
