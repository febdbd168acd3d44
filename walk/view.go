package walk

import (
	"garrison/api"
	"garrison/conf"
	"garrison/file"
	"garrison/group"
	"garrison/inst"
	"garrison/wal"
)

// View is the files as a transaction has them.
type View struct {
	T *wal.Txn
	C *conf.Conf
}

// Group: a label's group.
func (v *View) Group(lab int) (*group.Group, api.Errno) {
	if v == nil {
		return nil, api.ErrNil
	}
	return group.Open(v.T, v.C, lab)
}

// Node: what is meant by an Ino, if it is still that. The root stands in no table.
func (v *View) Node(i api.Ino) (api.Node, api.Errno) {
	if v == nil {
		return api.Node{}, api.ErrNil
	}
	if isRoot(i) {
		return api.Node{Kind: api.KMulti, Links: 1}, api.OK
	}
	g, e := v.Group(int(i.Lab))
	if e != api.OK {
		return api.Node{}, e
	}
	now, n, e := meant(g, int(i.Num))
	if e != api.OK {
		return api.Node{}, e
	}
	if now != i {
		return api.Node{}, api.ErrStale
	}
	return n, api.OK
}

// Own: a label's own directory of one that each label has its own of; false: it has none yet.
func (v *View) Own(of api.Ino, lab int) (api.Ino, bool, api.Errno) {
	g, e := v.Group(lab)
	if e != api.OK {
		return api.Ino{}, false, e
	}
	num, e := ownOf(g, of)
	if e != api.OK || num == 0 {
		return api.Ino{}, false, e
	}
	i, e := g.Ino(num)
	return i, e == api.OK, e
}

// Target: a symbolic link's text.
func (v *View) Target(i api.Ino) (string, api.Errno) {
	n, e := v.Node(i)
	if e != api.OK {
		return "", e
	}
	if n.Kind != api.KLink {
		return "", api.ErrInvalid
	}
	g, e := v.Group(int(i.Lab))
	if e != api.OK {
		return "", e
	}
	b, e := file.Read(g, int(i.Num), 0, int(n.Size))
	return string(b), e
}

// meant: which one a group's node of a number is now, and the node.
func meant(g *group.Group, num int) (api.Ino, api.Node, api.Errno) {
	n, e := g.Node(num)
	if e != api.OK {
		return api.Ino{}, api.Node{}, e
	}
	if n.Kind == api.KFree {
		return api.Ino{}, api.Node{}, api.ErrStale
	}
	return api.Ino{Lab: uint8(g.Lab()), Num: uint16(num), Gen: n.Gen}, n, api.OK
}

// ownOf: the number of a group's own directory; 0: it has none. That of the root is always there, and needs no record.
func ownOf(g *group.Group, of api.Ino) (int, api.Errno) {
	if isRoot(of) {
		return inst.Root, api.OK
	}
	return inst.Find(g, of)
}

// isRoot: is the root meant?
func isRoot(i api.Ino) bool { return i == api.Ino{} }

// isDir: can it be gone into?
func isDir(k api.Kind) bool { return k == api.KDir || k == api.KMulti }
