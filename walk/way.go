package walk

import (
	"slices"

	"garrison/api"
	"garrison/dir"
	"garrison/path"
)

// way is one that a subject goes: by which files, where it is, what is left of it.
type way struct {
	*View
	subject int
	follow  bool
	stack   []api.Ino // it may be the asker's: it isn't written into
	left    []api.Part
	links   int // so many were followed
	ended   bool
	found   Found
}

// walk goes all that is left.
func (w *way) walk() (Found, api.Errno) {
	for !w.ended && len(w.left) > 0 {
		p := w.left[0]
		w.left = w.left[1:]
		step := w.step(p)
		if e := step(p); e != api.OK {
			return Found{}, e
		}
	}
	if w.ended {
		return w.found, api.OK
	}
	return w.here()
}

// step: how a part is gone.
func (w *way) step(p api.Part) func(api.Part) api.Errno {
	switch p.Name {
	case "..":
		return w.up
	case ".":
		return w.stay
	case "":
		return w.own
	}
	return w.name
}

// up: the place is left. Nothing is above the first.
func (w *way) up(p api.Part) api.Errno {
	if len(w.stack) > 1 {
		w.stack = w.stack[:len(w.stack)-1]
	}
	return w.stay(p)
}

// stay: the place has to be a directory all the same.
func (w *way) stay(api.Part) api.Errno {
	n, e := w.Node(w.place())
	if e != api.OK {
		return e
	}
	if !isDir(n.Kind) {
		return api.ErrNotDir
	}
	return api.OK
}

// own: the wanted label's own directory is gone into.
func (w *way) own(p api.Part) api.Errno {
	d, there, e := w.directory(p.At)
	if e != api.OK {
		return e
	}
	if !there {
		return api.ErrNone
	}
	w.stack = with(w.stack, d)
	return api.OK
}

// name: what has a name in the place's directory is gone into, or followed; or the way ends there.
func (w *way) name(p api.Part) api.Errno {
	d, there, e := w.directory(p.At)
	if e != api.OK {
		return e
	}
	var i api.Ino
	var n api.Node
	if there {
		if i, n, e = w.find(d, p.Name); e != api.OK {
			return e
		}
	}
	last := len(w.left) == 0
	if n.Kind == api.KLink && (w.follow || !last) {
		return w.along(i)
	}
	if last {
		w.end(Found{Dir: d, Name: p.Name, Node: i, Kind: n.Kind})
		return api.OK
	}
	if n.Kind == api.KFree {
		return api.ErrNone
	}
	if !isDir(n.Kind) {
		return api.ErrNotDir
	}
	w.stack = with(w.stack, i)
	return api.OK
}

// directory: that of the place, of the label that is wanted; false: it isn't there: only its label is told.
func (w *way) directory(at string) (api.Ino, bool, api.Errno) {
	place := w.place()
	n, e := w.Node(place)
	if e != api.OK {
		return api.Ino{}, false, e
	}
	lab := w.subject
	if at != "" {
		if lab, e = w.wanted(at, place, n.Kind); e != api.OK {
			return api.Ino{}, false, e
		}
	}
	switch n.Kind {
	case api.KDir:
		return place, true, api.OK
	case api.KMulti:
		d, there, e := w.Own(place, lab)
		if e == api.OK && !there {
			d.Lab = uint8(lab)
		}
		return d, there, e
	}
	return api.Ino{}, false, api.ErrNotDir
}

// wanted: which label is, at a place. Whose directories the subject may not look at, it doesn't hear of.
func (w *way) wanted(at string, place api.Ino, k api.Kind) (int, api.Errno) {
	lab, ok := w.C.Named(at)
	if !ok {
		return 0, api.ErrNone
	}
	if k == api.KDir && int(place.Lab) != lab {
		return 0, api.ErrAway
	}
	if !w.C.Leq(lab, w.subject) {
		return 0, api.ErrPerm
	}
	return lab, api.OK
}

// find: what has a name in a directory; a free node, if there is no such name.
func (w *way) find(d api.Ino, name string) (api.Ino, api.Node, api.Errno) {
	g, e := w.Group(int(d.Lab))
	if e != api.OK {
		return api.Ino{}, api.Node{}, e
	}
	num, e := dir.Find(g, int(d.Num), name)
	if e == api.ErrNone {
		return api.Ino{}, api.Node{}, api.OK
	}
	if e != api.OK {
		return api.Ino{}, api.Node{}, e
	}
	return meant(g, num)
}

// along: a link is followed: its parts are gone ahead of those that are left.
func (w *way) along(link api.Ino) api.Errno {
	if w.links == api.MaxLinks {
		return api.ErrLoop
	}
	w.links++
	s, e := w.Target(link)
	if e != api.OK {
		return e
	}
	p, e := path.Parse(s)
	if e != api.OK {
		return e
	}
	if p.Abs {
		w.stack = Start()
	}
	w.left = slices.Concat(p.Parts, w.left)
	return api.OK
}

// end: the way ends with a name.
func (w *way) end(f Found) {
	f.Stack = slices.Clone(w.stack)
	w.found, w.ended = f, true
}

// here: the way has come to its place, without a name.
func (w *way) here() (Found, api.Errno) {
	n, e := w.Node(w.place())
	if e != api.OK {
		return Found{}, e
	}
	return Found{Stack: slices.Clone(w.stack), Node: w.place(), Kind: n.Kind}, api.OK
}

// place: where the way is.
func (w *way) place() api.Ino { return w.stack[len(w.stack)-1] }

// with: a list of directories and one more. There may be others' directories in the room behind the list: without that room it is copied.
func with(l []api.Ino, d api.Ino) []api.Ino {
	return append(l[:len(l):len(l)], d)
}
