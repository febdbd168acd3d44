package file

import (
	"garrison/api"
	"garrison/group"
)

// lists is a node's blocks, as they are come to.
type lists struct {
	group          *group.Group
	data, pointers []uint16
}

// Blocks: all blocks that a node has, of data, then of pointers, in the order of its ways. What it has is what it points to, whatever its length: of a node that isn't right there may be more, or less.
func Blocks(g *group.Group, n api.Node) (data, pointers []uint16, e api.Errno) {
	if g == nil {
		return nil, nil, api.ErrNil
	}
	l := lists{group: g}
	if e := l.addAll(n); e != api.OK {
		return nil, nil, e
	}
	return l.data, l.pointers, api.OK
}

// addAll: what a node points to.
func (l *lists) addAll(n api.Node) api.Errno {
	for _, p := range n.Direct {
		if e := l.add(p, 0); e != api.OK {
			return e
		}
	}
	if e := l.add(n.Single, 1); e != api.OK {
		return e
	}
	return l.add(n.Double, 2)
}

// add: a block, and all that it points to, if data is still so many pointers away.
func (l *lists) add(p uint16, away int) api.Errno {
	if p == 0 {
		return api.OK
	}
	if away == 0 {
		l.data = append(l.data, p)
		return api.OK
	}
	l.pointers = append(l.pointers, p)
	row, e := l.group.Get(p)
	if e != api.OK {
		return e
	}
	for i := range api.Pointers {
		if e := l.add(number(row, i+1), away-1); e != api.OK {
			return e
		}
	}
	return api.OK
}
