package fsck

import (
	"garrison/api"
	"garrison/conf"
	"garrison/group"
	"garrison/wal"
)

// look is a group that is looked over, and what was seen of it so far. What isn't right may be told more than once: what hangs on it isn't right either.
type look struct {
	txn   *wal.Txn
	conf  *conf.Conf
	group *group.Group
	geo   conf.Geo

	// By a node's number; there is none of number 0.
	nodes []api.Node // of one that isn't right a free one
	torn  []bool     // whose blocks aren't its own, or not those of its length: what it holds isn't looked at
	names []int      // how many it has
	in    []int      // which directory of the group it is in; 0: none

	owners []int // by a block's number (there is none of number 0, either): which node has it; 0: none
	faults []Fault
}

// checkGroup: what isn't right of a label's group. What others have doesn't count, not even whether what it has its own directories of is still there: who is below may take that away, and never hears of who is above.
func checkGroup(t *wal.Txn, c *conf.Conf, lab int) []Fault {
	g, e := group.Open(t, c, lab)
	if e != api.OK {
		return []Fault{{Lab: lab, Code: e}}
	}
	geo, _ := c.Geo(lab)
	l := &look{
		txn: t, conf: c, group: g, geo: geo,
		nodes:  make([]api.Node, geo.Nodes+1),
		torn:   make([]bool, geo.Nodes+1),
		names:  make([]int, geo.Nodes+1),
		in:     make([]int, geo.Nodes+1),
		owners: make([]int, geo.Blocks+1),
	}
	l.readNodes()
	l.checkBlocks()
	l.checkTaken()
	l.checkFixed()
	l.checkRecords()
	l.checkDirs()
	l.checkLinks()
	l.checkLoops()
	return l.faults
}

// fault: something of a node (0: of none) isn't right.
func (l *look) fault(num int, code api.Errno) {
	l.faults = append(l.faults, Fault{Lab: l.group.Lab(), Num: num, Code: code})
}

// check: it is right, unless there is an error.
func (l *look) check(num int, e api.Errno) {
	if e != api.OK {
		l.fault(num, e)
	}
}

// readNodes: all of the table.
func (l *look) readNodes() {
	for i := range l.geo.Nodes {
		n, e := l.group.Node(i + 1)
		l.check(i+1, e)
		l.nodes[i+1] = n
	}
}

// node: of any number; a free one, if there is none.
func (l *look) node(num int) api.Node {
	if num < 0 || num >= len(l.nodes) {
		return api.Node{}
	}
	return l.nodes[num]
}

// isDir: is it one that others are in?
func isDir(k api.Kind) bool { return k == api.KDir || k == api.KMulti }
