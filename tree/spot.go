package tree

import (
	"garrison/api"
	"garrison/dir"
	"garrison/file"
	"garrison/group"
	"garrison/inst"
	"garrison/walk"
)

// spot is where a name of the subject's own group stands, and what it is; or where there may be one: then that is nothing.
type spot struct {
	group *group.Group
	dir   int
	name  string
	node  api.Ino
	kind  api.Kind
}

// fresh: a path's, at which nothing is yet.
func (t *Tree) fresh(s string) (spot, api.Errno) {
	f, e := t.way(s, false)
	if e != api.OK {
		return spot{}, e
	}
	if there(f) || f.Name == "" {
		return spot{}, api.ErrExists
	}
	return t.room(f)
}

// room: for a name that a way came to. The subject's own directory is made only now that it is needed.
func (t *Tree) room(f walk.Found) (spot, api.Errno) {
	if int(f.Dir.Lab) != t.Subject {
		return spot{}, api.ErrPerm
	}
	g, e := t.Group(t.Subject)
	if e != api.OK {
		return spot{}, e
	}
	num := int(f.Dir.Num)
	if num == 0 {
		if num, e = inst.Need(t.T, t.C, g, last(f)); e != api.OK {
			return spot{}, e
		}
	}
	return spot{group: g, dir: num, name: f.Name}, api.OK
}

// named: a path's, at which something is that the subject may change.
func (t *Tree) named(s string) (spot, api.Errno) {
	f, e := t.way(s, false)
	if e != api.OK {
		return spot{}, e
	}
	return t.mine(f)
}

// mine: what a way came to, if the subject may change it.
func (t *Tree) mine(f walk.Found) (spot, api.Errno) {
	if !there(f) {
		return spot{}, api.ErrNone
	}
	if f.Name == "" {
		return spot{}, api.ErrBusy
	}
	if int(f.Dir.Lab) != t.Subject || int(f.Node.Lab) != t.Subject {
		return spot{}, api.ErrPerm
	}
	if f.Node.Num <= inst.Fixed {
		return spot{}, api.ErrBusy
	}
	g, e := t.Group(t.Subject)
	if e != api.OK {
		return spot{}, e
	}
	return spot{group: g, dir: int(f.Dir.Num), name: f.Name, node: f.Node, kind: f.Kind}, api.OK
}

// add: the name comes, of a node.
func (p spot) add(num int) api.Errno {
	return dir.Add(p.group, p.dir, api.Entry{Name: p.name, Num: uint16(num)})
}

// turn: the name is another node's from now on.
func (p spot) turn(num int) api.Errno {
	return dir.Turn(p.group, p.dir, api.Entry{Name: p.name, Num: uint16(num)})
}

// drop: the name goes.
func (p spot) drop() api.Errno { return dir.Drop(p.group, p.dir, p.name) }

// num: which node it is.
func (p spot) num() int { return int(p.node.Num) }

// more: the node has one name more.
func (p spot) more() api.Errno {
	n, e := p.group.Node(p.num())
	if e != api.OK {
		return e
	}
	if n.Links >= mostLinks {
		return api.ErrMany
	}
	n.Links++
	return p.group.Set(p.num(), n)
}

// less: the node has one name less, and goes with its last one.
func (p spot) less() api.Errno {
	n, e := p.group.Node(p.num())
	if e != api.OK {
		return e
	}
	if n.Links <= 1 {
		return p.remove()
	}
	n.Links--
	return p.group.Set(p.num(), n)
}

// remove: the node goes.
func (p spot) remove() api.Errno { return file.Remove(p.group, p.num()) }

// empty: it is a directory that may go. Of one that each label has its own of the subject's own goes at once; of others' it must not hear.
func (p spot) empty() api.Errno {
	if p.kind == api.KMulti {
		return inst.Drop(p.group, p.node)
	}
	is, e := dir.Empty(p.group, p.num())
	if e != api.OK {
		return e
	}
	if !is {
		return api.ErrNotEmpty
	}
	return api.OK
}

// last: the place where a way is.
func last(f walk.Found) api.Ino { return f.Stack[len(f.Stack)-1] }
