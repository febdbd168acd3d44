package tree

import (
	"garrison/api"
	"garrison/path"
)

// mostLinks: so many names a node may have. Their number stands in one byte.
const mostLinks = 250

// Make: a new node of a kind (no symbolic link) with a name.
func (t *Tree) Make(s string, k api.Kind) (api.Ino, api.Errno) {
	p, e := t.fresh(s)
	if e != api.OK {
		return api.Ino{}, e
	}
	num, e := p.group.Make(k)
	if e != api.OK {
		return api.Ino{}, e
	}
	return p.begin(num)
}

// Symlink: a new symbolic link with a name, and a text that is a path.
func (t *Tree) Symlink(target, s string) (api.Ino, api.Errno) {
	if t == nil {
		return api.Ino{}, api.ErrNil
	}
	if len(target) > api.MaxTarget {
		return api.Ino{}, api.ErrLong
	}
	if _, e := path.Parse(target); e != api.OK {
		return api.Ino{}, e
	}
	p, e := t.fresh(s)
	if e != api.OK {
		return api.Ino{}, e
	}
	num, e := p.link(target)
	if e != api.OK {
		return api.Ino{}, e
	}
	return p.begin(num)
}

// Link: another name of a node that is no directory.
func (t *Tree) Link(old, s string) api.Errno {
	p, e := t.named(old)
	if e != api.OK {
		return e
	}
	if isDir(p.kind) {
		return api.ErrIsDir
	}
	q, e := t.fresh(s)
	if e != api.OK {
		return e
	}
	if e := q.add(p.num()); e != api.OK {
		return e
	}
	return p.more()
}

// Unlink: a name of what is no directory goes.
func (t *Tree) Unlink(s string) api.Errno {
	p, e := t.named(s)
	if e != api.OK {
		return e
	}
	if isDir(p.kind) {
		return api.ErrIsDir
	}
	if e := p.drop(); e != api.OK {
		return e
	}
	return p.less()
}

// Rmdir: a directory goes, if it is empty.
func (t *Tree) Rmdir(s string) api.Errno {
	p, e := t.named(s)
	if e != api.OK {
		return e
	}
	if !isDir(p.kind) {
		return api.ErrNotDir
	}
	if e := p.empty(); e != api.OK {
		return e
	}
	if e := p.drop(); e != api.OK {
		return e
	}
	return p.remove()
}

// link: a new link, that has no name yet: its number.
func (p spot) link(target string) (int, api.Errno) {
	n, e := p.group.Take()
	if e != api.OK {
		return 0, e
	}
	var b api.Block
	copy(b[:], target)
	if e := p.group.Put(n, b); e != api.OK {
		return 0, e
	}
	return p.group.MakeLink(len(target), int(n))
}

// begin: a new node has its name: which one it is.
func (p spot) begin(num int) (api.Ino, api.Errno) {
	if e := p.add(num); e != api.OK {
		return api.Ino{}, e
	}
	return p.group.Ino(num)
}
