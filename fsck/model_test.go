package fsck_test

import (
	"bytes"
	"strings"

	"garrison/api"
	"garrison/conf"
	"garrison/wal"
)

// The chapter's words, once more, on a disk's bytes alone, from above to below: what a length needs is gone to, not what there is is counted.

// modelNode is a node's bytes as numbers, and what it has.
type modelNode struct {
	kind, links, gen, size int
	direct                 []int
	single, double         int
	bytes                  []byte
	kids                   []int
	names                  int
}

// modelGroup is a label's group.
type modelGroup struct {
	c     *conf.Conf
	lab   int
	bits  []byte
	table []byte
	data  [][]byte // from 1 on
	nodes []*modelNode
	taken []int // how often each data block is had
}

// rightDisk: do the chapter's words say that a disk is right, as a transaction has it?
func rightDisk(c *conf.Conf, x *wal.Txn) bool {
	var super api.Block
	copy(super[:], []byte{0x72, 0x6a, 0, 0})
	total, sum := c.Total(), c.Sum()
	for i := range 4 {
		super[4+i] = byte(total >> (8 * i))
		super[8+i] = byte(sum >> (8 * i))
	}
	if b, e := x.Get(0); e != api.OK || b != super {
		return false
	}
	for lab := range c.Len() {
		g, ok := modelOf(c, x, lab)
		if !ok || !g.right() {
			return false
		}
	}
	return true
}

// modelOf: a label's group as bytes.
func modelOf(c *conf.Conf, x *wal.Txn, lab int) (*modelGroup, bool) {
	geo, _ := c.Geo(lab)
	g := &modelGroup{c: c, lab: lab, data: [][]byte{nil}, taken: make([]int, geo.Blocks+1)}
	for i := range geo.Bitmap + geo.Table + geo.Blocks {
		b, e := x.Get(geo.Base + i)
		if e != api.OK {
			return nil, false
		}
		switch {
		case i < geo.Bitmap:
			g.bits = append(g.bits, b[:]...)
		case i < geo.Bitmap+geo.Table:
			g.table = append(g.table, b[:]...)
		default:
			g.data = append(g.data, bytes.Clone(b[:]))
		}
	}
	return g, true
}

// right: is a group?
func (g *modelGroup) right() bool {
	g.nodes = []*modelNode{nil}
	for at := 0; at < len(g.table); at += 32 {
		n, ok := g.node(g.table[at : at+32])
		if !ok {
			return false
		}
		g.nodes = append(g.nodes, n)
	}
	for bit := range 8 * len(g.bits) {
		want := 0
		if bit+1 < len(g.taken) {
			want = g.taken[bit+1]
		}
		if int(g.bits[bit/8]>>(bit%8)&1) != want { // one that is had twice isn't right, either
			return false
		}
	}
	for i, kind := range []int{2, 1, 1} {
		if g.nodes[i+1].kind != kind {
			return false
		}
		g.nodes[i+1].names++
	}
	if !g.records() {
		return false
	}
	for _, n := range g.nodes[1:] {
		if n.kind == 2 && !g.entries(n) {
			return false
		}
	}
	for _, n := range g.nodes[1:] {
		if n.names != n.links || (n.kind == 2 || n.kind == 3) && n.links != 1 {
			return false
		}
	}
	// Only now: where each directory has one name, no way comes to one twice but around.
	for num := range g.nodes {
		if num > 0 && g.reaches(num, num, len(g.nodes)) {
			return false
		}
	}
	return true
}

// node: a right one's bytes, and all that it has.
func (g *modelGroup) node(b []byte) (*modelNode, bool) {
	n := &modelNode{kind: int(b[0]), links: int(b[1]), gen: pair(b, 2), size: pair(b, 4) + pair(b, 6)<<16}
	for i := range 6 {
		n.direct = append(n.direct, pair(b, 8+2*i))
	}
	n.single, n.double = pair(b, 20), pair(b, 22)
	if !nought(b[24:]) {
		return nil, false
	}
	switch n.kind {
	case 0:
		return n, b[1] == 0 && nought(b[4:])
	case 1:
	case 2:
		if n.size%16 > 0 {
			return nil, false
		}
	case 3, 5:
		if n.size > 0 {
			return nil, false
		}
	case 4:
		if n.size < 1 || n.size > 60 {
			return nil, false
		}
	default:
		return nil, false
	}
	if n.links == 0 || n.size > 16384 {
		return nil, false
	}
	for i, p := range n.direct {
		if !g.need(n, p, i, 1) {
			return nil, false
		}
	}
	if !g.need(n, n.single, 6, 32) || !g.need(n, n.double, 38, 1024) || !nought(n.bytes[n.size:]) {
		return nil, false
	}
	n.bytes = n.bytes[:n.size]
	return n, true
}

// need: what a pointer leads to is a node's data blocks from one on, so many: it is there, if the length comes so far.
func (g *modelGroup) need(n *modelNode, p, from, many int) bool {
	if 64*from >= n.size {
		return p == 0
	}
	if p < 1 || p >= len(g.data) {
		return false
	}
	g.taken[p]++
	if many == 1 {
		n.bytes = append(n.bytes, g.data[p]...)
		return true
	}
	for i := range 32 {
		if !g.need(n, pair(g.data[p], 2*i), from+i*many/32, many/32) {
			return false
		}
	}
	return true
}

// records: are those of the table right?
func (g *modelGroup) records() bool {
	b := g.nodes[2].bytes
	if len(b)%8 > 0 {
		return false
	}
	seen := map[string]int{}
	for at := 0; at < len(b); at += 8 {
		r := b[at : at+8]
		if nought(r) {
			continue
		}
		lab, num, own := int(r[0]), pair(r, 2), pair(r, 6)
		seen[string(r[:6])]++
		if r[1] != 1 || num == 0 || own <= 3 || own >= len(g.nodes) || g.nodes[own].kind != 2 || !g.c.Leq(lab, g.lab) || seen[string(r[:6])] > 1 {
			return false
		}
		g.nodes[own].names++
		if lab == g.lab && num < len(g.nodes) && g.nodes[num].kind == 3 && g.nodes[num].gen == pair(r, 4) {
			g.nodes[num].kids = append(g.nodes[num].kids, own)
		}
	}
	return true
}

// entries: are those of a directory right?
func (g *modelGroup) entries(n *modelNode) bool {
	seen := map[string]int{}
	for at := 0; at < len(n.bytes); at += 16 {
		b := n.bytes[at : at+16]
		if nought(b) {
			continue
		}
		num, name := pair(b, 0), string(b[2:])
		if end := strings.IndexByte(name, 0); end >= 0 {
			if !nought(b[2+end:]) {
				return false
			}
			name = name[:end]
		}
		if name == "" || name == "." || name == ".." || seen[name] > 0 || num <= 3 || num >= len(g.nodes) || g.nodes[num].kind == 0 {
			return false
		}
		for i := range len(name) {
			if name[i] < 33 || name[i] > 126 || name[i] == '/' || name[i] == '@' {
				return false
			}
		}
		seen[name]++
		g.nodes[num].names++
		n.kids = append(n.kids, num)
	}
	return true
}

// reaches: is a node in another one, so deep at most?
func (g *modelGroup) reaches(from, num, deep int) bool {
	if deep == 0 {
		return false
	}
	for _, k := range g.nodes[from].kids {
		if k == num || g.reaches(k, num, deep-1) {
			return true
		}
	}
	return false
}

// nought: are all of them?
func nought(b []byte) bool { return len(bytes.Trim(b, "\x00")) == 0 }

// pair: a number of two bytes, the lowest first.
func pair(b []byte, at int) int { return int(b[at]) + 256*int(b[at+1]) }
