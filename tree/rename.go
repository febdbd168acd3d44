package tree

import (
	"slices"
	"strings"

	"garrison/api"
	"garrison/dir"
	"garrison/group"
	"garrison/inst"
	"garrison/walk"
)

// Rename: a node's name is another one, perhaps in another directory; what had that name goes, if it may.
func (t *Tree) Rename(old, s string) api.Errno {
	p, e := t.named(old)
	if e != api.OK {
		return e
	}
	f, e := t.way(s, false)
	if e != api.OK {
		return e
	}
	if e := t.outside(p, s, f); e != api.OK {
		return e
	}
	if there(f) {
		q, e := t.mine(f)
		if e != api.OK {
			return e
		}
		return p.onto(q)
	}
	q, e := t.room(f)
	if e != api.OK {
		return e
	}
	if e := p.drop(); e != api.OK {
		return e
	}
	return q.add(p.num())
}

// onto: what has the other name goes, and this has it.
func (p spot) onto(q spot) api.Errno {
	if p.node == q.node {
		return api.OK
	}
	if isDir(p.kind) && !isDir(q.kind) {
		return api.ErrNotDir
	}
	if !isDir(p.kind) && isDir(q.kind) {
		return api.ErrIsDir
	}
	if isDir(q.kind) {
		if e := q.empty(); e != api.OK {
			return e
		}
	}
	if e := q.turn(p.num()); e != api.OK {
		return e
	}
	if e := p.drop(); e != api.OK {
		return e
	}
	if isDir(q.kind) {
		return q.remove()
	}
	return q.less()
}

// outside: a directory can't come into itself: it, and all that is in it, would be nowhere.
func (t *Tree) outside(p spot, s string, f walk.Found) api.Errno {
	if !isDir(p.kind) {
		return api.OK
	}
	if slices.Contains(f.Stack, p.node) {
		return api.ErrInvalid
	}
	if f.Name == "" || t.fromRoot(s) {
		return api.OK
	}
	to := f.Dir
	if to.Num == 0 { // it is still to be made, in the place
		to = last(f)
	}
	if int(to.Lab) != t.Subject {
		return api.OK
	}
	in, e := lies(p.group, int(to.Num), p.num())
	if e == api.OK && in {
		return api.ErrInvalid
	}
	return e
}

// fromRoot: does a way begin at the root? Then it goes through all that its end is in. The subject may be elsewhere than when it went where it is: what is ahead of it has perhaps another name since.
func (t *Tree) fromRoot(s string) bool {
	return strings.HasPrefix(s, "/") || len(t.Cwd) == 0 || slices.Equal(t.Cwd, walk.Start())
}

// lies: is a directory in another one of its group, however deep, or that one itself?
func lies(g *group.Group, num, in int) (bool, api.Errno) {
	all := []int{in}
	for i := 0; i < len(all); i++ {
		if all[i] == num {
			return true, api.OK
		}
		inner, e := inside(g, all[i])
		if e != api.OK {
			return false, e
		}
		for _, x := range inner {
			// On a disk that isn't right it may be come to once more, without end.
			if !slices.Contains(all, x) {
				all = append(all, x)
			}
		}
	}
	return false, api.OK
}

// inside: the nodes of a group that are in one of it. Of one that each label has its own of, others' directories are in their own groups.
func inside(g *group.Group, num int) ([]int, api.Errno) {
	n, e := g.Node(num)
	if e != api.OK {
		return nil, e
	}
	var inner []int
	switch n.Kind {
	case api.KDir:
		list, e := dir.List(g, num)
		if e != api.OK {
			return nil, e
		}
		for _, x := range list {
			inner = append(inner, int(x.Num))
		}
	case api.KMulti:
		own, e := inst.Find(g, api.Ino{Lab: uint8(g.Lab()), Num: uint16(num), Gen: n.Gen})
		if e != api.OK {
			return nil, e
		}
		if own > 0 {
			inner = append(inner, own)
		}
	}
	return inner, api.OK
}
