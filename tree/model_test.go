package tree_test

import (
	"maps"
	"slices"

	"garrison/api"
	"garrison/path"
	"garrison/walk"
)

// thing is what a node is, as the model knows it: a directory's places (without a name: empty), and what they name.
type thing struct {
	kind   api.Kind
	links  int
	target string
	places []string
	names  map[string]api.Ino
}

// record is a label's own directory of a node, as the model knows it; empty ones have no node of their own.
type record struct{ of, own api.Ino }

// model is what should be on the disk by the words of the chapter, and of those ahead of it.
type model struct {
	things map[api.Ino]*thing
	gens   map[api.Ino]uint16 // of a node, whatever its generation (0 here)
	tables [labels][]record
	nodes  int
}

// newModel: of groups that have their own nodes, and so many in all.
func newModel(nodes int) *model {
	m := &model{things: map[api.Ino]*thing{root: {kind: api.KMulti, links: 1}}, gens: map[api.Ino]uint16{}, nodes: nodes}
	for lab := range labels {
		for _, k := range []api.Kind{api.KDir, api.KFile, api.KFile} {
			m.create(lab, thing{kind: k})
		}
	}
	return m
}

// clone: as it is, to be taken again where something fails.
func (m *model) clone() *model {
	c := &model{things: map[api.Ino]*thing{}, gens: maps.Clone(m.gens), nodes: m.nodes}
	for i, x := range m.things {
		y := *x
		y.places, y.names = slices.Clone(x.places), maps.Clone(x.names)
		c.things[i] = &y
	}
	for lab := range labels {
		c.tables[lab] = slices.Clone(m.tables[lab])
	}
	return c
}

// create: the first node that is free is so.
func (m *model) create(lab int, x thing) (api.Ino, api.Errno) {
	for num := 1; num <= m.nodes; num++ {
		at := api.Ino{Lab: uint8(lab), Num: uint16(num)}
		i := at
		i.Gen = m.gens[at]
		if m.things[i] != nil {
			continue
		}
		i.Gen++
		m.gens[at]++
		x.links, x.names = 1, map[string]api.Ino{}
		m.things[i] = &x
		return i, api.OK
	}
	return root, api.ErrSpace
}

// add: a directory's first empty place, or one behind all, has a name.
func (m *model) add(d api.Ino, name string, i api.Ino) {
	x := m.things[d]
	at := slices.Index(x.places, "")
	if at < 0 {
		at = len(x.places)
		x.places = append(x.places, "")
	}
	x.places[at] = name
	x.names[name] = i
}

// drop: a directory's name goes, and the empty places at the end.
func (m *model) drop(d api.Ino, name string) {
	x := m.things[d]
	x.places[slices.Index(x.places, name)] = ""
	delete(x.names, name)
	for len(x.places) > 0 && x.places[len(x.places)-1] == "" {
		x.places = x.places[:len(x.places)-1]
	}
}

// own: a label's own directory of a node, if it has one.
func (m *model) own(lab int, of api.Ino) (api.Ino, bool) {
	if of == root {
		return api.Ino{Lab: uint8(lab), Num: 1, Gen: 1}, true
	}
	for _, r := range m.tables[lab] {
		if r.own != root && r.of == of {
			return r.own, true
		}
	}
	return root, false
}

// reap: chapter 10's Reap.
func (m *model) reap(lab int) {
	many := 0
	for i, r := range m.tables[lab] {
		alive := m.things[r.of] != nil && m.things[r.of].kind == api.KMulti
		if r.own != root && many < 4 && !alive && len(m.things[r.own].names) == 0 {
			delete(m.things, r.own)
			m.tables[lab][i] = record{}
			many++
		}
	}
}

// need: chapter 10's Need.
func (m *model) need(lab int, of api.Ino) (api.Ino, api.Errno) {
	if own, ok := m.own(lab, of); ok {
		return own, api.OK
	}
	m.reap(lab)
	own, e := m.create(lab, thing{kind: api.KDir})
	if e != api.OK {
		return root, e
	}
	at := slices.Index(m.tables[lab], record{})
	if at < 0 {
		at = len(m.tables[lab])
		m.tables[lab] = append(m.tables[lab], record{})
	}
	m.tables[lab][at] = record{of, own}
	return own, api.OK
}

// leq: is a label at or below another one?
func leq(a, b int) bool { return a == b || a == low || b == high }

// directory: chapter 12's words for the directory of a place, of a wanted label.
func (m *model) directory(subject int, place api.Ino, at string) (api.Ino, bool, api.Errno) {
	x := m.things[place]
	if x == nil {
		return root, false, api.ErrStale
	}
	lab := subject
	if at != "" {
		lab = slices.Index([]string{"low", "left", "right", "high"}, at)
		if lab < 0 {
			return root, false, api.ErrNone
		}
		if x.kind == api.KDir && int(place.Lab) != lab {
			return root, false, api.ErrAway
		}
		if !leq(lab, subject) {
			return root, false, api.ErrPerm
		}
	}
	switch x.kind {
	case api.KDir:
		return place, true, api.OK
	case api.KMulti:
		if own, ok := m.own(lab, place); ok {
			return own, true, api.OK
		}
		return api.Ino{Lab: uint8(lab)}, false, api.OK
	}
	return root, false, api.ErrNotDir
}

// goes: chapter 12's words for a way, part by part.
func (m *model) goes(subject int, at []api.Ino, left []api.Part, follow bool, links int) (walk.Found, api.Errno) {
	for len(left) > 0 {
		p := left[0]
		left = left[1:]
		if p.Name == ".." && len(at) > 1 {
			at = at[:len(at)-1]
		}
		here := at[len(at)-1]
		if p.Name == "." || p.Name == ".." {
			if m.things[here] == nil {
				return walk.Found{}, api.ErrStale
			}
			if !isDir(m.things[here].kind) {
				return walk.Found{}, api.ErrNotDir
			}
			continue
		}
		d, there, e := m.directory(subject, here, p.At)
		if e != api.OK {
			return walk.Found{}, e
		}
		if p.Name == "" {
			if !there {
				return walk.Found{}, api.ErrNone
			}
			at = slices.Concat(at, []api.Ino{d})
			continue
		}
		f := walk.Found{Stack: at, Dir: d, Name: p.Name}
		if there {
			f.Node = m.things[d].names[p.Name]
		}
		if f.Node == root {
			if len(left) > 0 {
				return walk.Found{}, api.ErrNone
			}
			return f, api.OK
		}
		x := m.things[f.Node]
		f.Kind = x.kind
		if x.kind == api.KLink && (len(left) > 0 || follow) {
			return m.along(subject, at, x.target, left, follow, links)
		}
		if len(left) == 0 {
			return f, api.OK
		}
		if !isDir(x.kind) {
			return walk.Found{}, api.ErrNotDir
		}
		at = slices.Concat(at, []api.Ino{f.Node})
	}
	here := at[len(at)-1]
	if m.things[here] == nil {
		return walk.Found{}, api.ErrStale
	}
	return walk.Found{Stack: at, Node: here, Kind: m.things[here].kind}, api.OK
}

// along: chapter 12's words for a link on the way.
func (m *model) along(subject int, at []api.Ino, target string, left []api.Part, follow bool, links int) (walk.Found, api.Errno) {
	if links == 8 {
		return walk.Found{}, api.ErrLoop
	}
	p, e := path.Parse(target)
	if e != api.OK {
		return walk.Found{}, e
	}
	if p.Abs {
		at = stack()
	}
	return m.goes(subject, at, slices.Concat(p.Parts, left), follow, links+1)
}

// way: chapter 12's Walk.
func (m *model) way(subject int, from []api.Ino, s string, follow bool) (walk.Found, api.Errno) {
	p, e := path.Parse(s)
	if e != api.OK {
		return walk.Found{}, e
	}
	if p.Abs || len(from) == 0 {
		from = stack()
	}
	return m.goes(subject, from, p.Parts, follow, 0)
}

// isDir: has it entries?
func isDir(k api.Kind) bool { return k == api.KDir || k == api.KMulti }

// size: a node's length.
func (m *model) size(i api.Ino) int {
	switch x := m.things[i]; {
	case i == root:
		return 0
	case i.Num == 2:
		return 8 * len(m.tables[i.Lab])
	case x.kind == api.KLink:
		return len(x.target)
	default:
		return 16 * len(x.places)
	}
}
