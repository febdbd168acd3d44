package group

import (
	"garrison/api"
)

// Take: the first block that wasn't taken is, and is to be of noughts: its number (from 1 on).
func (g *Group) Take() (uint16, api.Errno) {
	if g == nil {
		return 0, api.ErrNil
	}
	i, e := g.taken.Free()
	if e != api.OK {
		return 0, e
	}
	if i < 0 {
		return 0, api.ErrSpace
	}
	if e := g.taken.Set(i, true); e != api.OK {
		return 0, e
	}
	n := uint16(i + 1)
	// Whoever gets it must not see what it held when it was another's.
	if e := g.Put(n, api.Block{}); e != api.OK {
		return 0, e
	}
	return n, api.OK
}

// Give: a block isn't taken any more. What it holds stays: Take makes it noughts.
func (g *Group) Give(n uint16) api.Errno {
	if e := g.reach(int(n)); e != api.OK {
		return e
	}
	on, e := g.taken.Has(bit(n))
	if e != api.OK {
		return e
	}
	if !on {
		return api.ErrNone
	}
	return g.taken.Set(bit(n), false)
}

// Get: a data block, be it taken or not.
func (g *Group) Get(n uint16) (api.Block, api.Errno) {
	if e := g.reach(int(n)); e != api.OK {
		return api.Block{}, e
	}
	return g.txn.Get(g.place(n))
}

// Put: a data block is to be so, be it taken or not.
func (g *Group) Put(n uint16, b api.Block) api.Errno {
	if e := g.reach(int(n)); e != api.OK {
		return e
	}
	return g.txn.Put(g.place(n), b)
}

// reach: is there a data block of that number? It may be beyond all that a block's number can be: it is asked ahead of a conversion.
func (g *Group) reach(n int) api.Errno {
	if g == nil {
		return api.ErrNil
	}
	if n < 1 || n > g.geo.Blocks {
		return api.ErrRange
	}
	return api.OK
}

// place: where data block n stands on the disk.
func (g *Group) place(n uint16) int { return g.geo.Data + bit(n) }

// bit: which one tells whether data block n is taken. Numbers begin at 1, as 0 is no block; bits at 0.
func bit(n uint16) int { return int(n) - 1 }
