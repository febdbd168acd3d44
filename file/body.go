package file

import (
	"garrison/api"
	"garrison/group"
	"garrison/node"
)

// body is a node and its blocks. What is changed of the blocks is so in the group at once; the node is, when it is stored.
type body struct {
	group *group.Group
	node  api.Node
}

// open: of a node that isn't free.
func open(g *group.Group, num int) (*body, api.Errno) {
	n, e := g.Node(num)
	if e != api.OK {
		return nil, e
	}
	if n.Kind == api.KFree {
		return nil, api.ErrStale
	}
	return &body{group: g, node: n}, api.OK
}

// size: how many bytes it has.
func (b *body) size() int { return int(b.node.Size) }

// own: the node's own pointer that a way begins with.
func (b *body) own(step int) *uint16 {
	switch step {
	case singleStep:
		return &b.node.Single
	case doubleStep:
		return &b.node.Double
	}
	return &b.node.Direct[step-1]
}

// at: the number of the block that a way leads to; 0: it has none there.
func (b *body) at(w way) (uint16, api.Errno) {
	p := *b.own(w[0])
	for _, step := range w[1:w.steps()] {
		if p == 0 {
			break
		}
		row, e := b.group.Get(p)
		if e != api.OK {
			return 0, e
		}
		p = number(row, step)
	}
	return p, api.OK
}

// point: the block that a way leads to has this number from now on. What is gone through on the way has to be there.
func (b *body) point(w way, p uint16) api.Errno {
	last := w.steps() - 1
	if last == 0 {
		*b.own(w[0]) = p
		return api.OK
	}
	q, e := b.at(w.up())
	if e != api.OK {
		return e
	}
	row, e := b.group.Get(q)
	if e != api.OK {
		return e
	}
	putNumber(&row, w[last], p)
	return b.group.Put(q, row)
}

// lay: the number of the block that a way leads to. It is taken, if it lacks, and so is what is gone through on the way, ahead of it.
func (b *body) lay(w way) (uint16, api.Errno) {
	var p uint16
	for i := range w.steps() {
		part := w.first(i + 1)
		var e api.Errno
		if p, e = b.at(part); e != api.OK {
			return 0, e
		}
		if p > 0 {
			continue
		}
		if p, e = b.group.Take(); e != api.OK {
			return 0, e
		}
		if e := b.point(part, p); e != api.OK {
			return 0, e
		}
	}
	return p, api.OK
}

// read: the block that byte off stands in, and its number.
func (b *body) read(off int) (uint16, api.Block, api.Errno) {
	p, e := b.at(wayTo(off / api.BlockSize))
	if e != api.OK {
		return 0, api.Block{}, e
	}
	block, e := b.group.Get(p)
	return p, block, e
}

// put: bytes from off on, as far as their block goes: how many.
func (b *body) put(off int, bytes []byte) (int, api.Errno) {
	p, e := b.lay(wayTo(off / api.BlockSize))
	if e != api.OK {
		return 0, e
	}
	block, e := b.group.Get(p)
	if e != api.OK {
		return 0, e
	}
	many := copy(block[off%api.BlockSize:], bytes)
	return many, b.group.Put(p, block)
}

// giveFrom: data blocks from keep on are given, and the blocks of pointers that only they needed; what stays doesn't point to them any more.
func (b *body) giveFrom(keep int) api.Errno {
	data, _ := node.Spread(b.size())
	stay := wayTo(keep - 1)
	// The last one first: a block of pointers has to tell of all behind it till it is given itself.
	for i := data - 1; i >= keep; i-- {
		ahead := wayTo(i - 1)
		for w := wayTo(i); !ahead.passes(w); w = w.up() {
			if e := b.giveAt(w, stay); e != api.OK {
				return e
			}
		}
	}
	return api.OK
}

// giveAt: the block that a way leads to is given. A block of pointers that doesn't stay keeps telling of it: it would be put for nothing.
func (b *body) giveAt(w, stay way) api.Errno {
	p, e := b.at(w)
	if e != api.OK || p == 0 {
		return e
	}
	if e := b.group.Give(p); e != api.OK {
		return e
	}
	if !stay.passes(w.up()) {
		return api.OK
	}
	return b.point(w, 0)
}

// wipeBehind: the bytes behind an end are noughts in its block.
func (b *body) wipeBehind(end int) api.Errno {
	from := end % api.BlockSize
	if from == 0 {
		return api.OK
	}
	p, block, e := b.read(end)
	if e != api.OK {
		return e
	}
	clear(block[from:])
	return b.group.Put(p, block)
}

// number: which one a block of pointers tells at a step.
func number(row api.Block, step int) uint16 {
	at := 2 * (step - 1)
	return uint16(row[at]) | uint16(row[at+1])<<8
}

// putNumber: two bytes, the lowest first.
func putNumber(row *api.Block, step int, p uint16) {
	at := 2 * (step - 1)
	row[at] = byte(p)
	row[at+1] = byte(p >> 8)
}
