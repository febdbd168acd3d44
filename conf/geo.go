package conf

import (
	"garrison/api"
)

// Geo is where a label's group lies on the disk: its first block, how many its bitmap and its table of nodes have, where its data begins; how many data blocks, and nodes.
type Geo struct {
	Base, Bitmap, Table, Data int
	Blocks, Nodes             int
}

// First: where the groups begin: behind the block that says what the disk is, the log's head, and the log.
const First = 2 + api.LogBlocks

// The number that Sum begins with, and what it is multiplied by.
const (
	sumStart  = 2166136261
	sumFactor = 16777619
)

// lay: the labels' groups, one behind the other.
func lay(regs []api.Reg) []Geo {
	groups := make([]Geo, 0, len(regs))
	base := First
	for _, r := range regs {
		g := Geo{Base: base, Blocks: r.Blocks, Nodes: r.Nodes}
		g.Bitmap = blocks((r.Blocks + 7) / 8)
		g.Table = blocks(r.Nodes * api.NodeSize)
		g.Data = base + g.Bitmap + g.Table
		base = g.end()
		groups = append(groups, g)
	}
	return groups
}

// blocks: how many hold so many bytes.
func blocks(bytes int) int { return (bytes + api.BlockSize - 1) / api.BlockSize }

// end: the block behind a group.
func (g Geo) end() int { return g.Data + g.Blocks }

// Geo: where a label's group lies.
func (c *Conf) Geo(i int) (Geo, bool) {
	if i < 0 || i >= c.Len() {
		return Geo{}, false
	}
	return c.groups[i], true
}

// Total: how many blocks the disk has.
func (c *Conf) Total() int {
	last, ok := c.Geo(c.Len() - 1)
	if !ok {
		return 0
	}
	return last.end()
}

// Group: in which group a block lies, and which of its data blocks it is (from 1 on; 0: none of them); false: in none.
func (c *Conf) Group(block int) (int, int, bool) {
	for i := range c.Len() {
		g := c.groups[i]
		if block >= g.Base && block < g.end() {
			return i, max(0, block-g.Data+1), true
		}
	}
	return 0, 0, false
}

// Sum: a number that tells configurations of other groups apart, as a rule.
func (c *Conf) Sum() uint32 {
	sum := uint32(sumStart)
	for i := range c.Len() {
		g := c.groups[i]
		for _, n := range [...]int{g.Base, g.Blocks, g.Nodes} {
			sum = (sum ^ uint32(n)) * sumFactor
		}
	}
	return sum
}
