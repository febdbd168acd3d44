package tree_test

import (
	"testing"

	"garrison/api"
	"garrison/dir"
	"garrison/file"
	"garrison/inst"
)

// right: are all groups so as a disk has to be that is right? Each node has as many names as links, directories one; none lies in itself; the blocks that are taken are those of nodes, each of one.
func (w world) right(t *testing.T) {
	t.Helper()
	for lab := range labels {
		nodes := w.nodesOf(t, lab)
		names, ahead := w.namesOf(t, lab, nodes)
		for num, n := range nodes {
			if names[num] != int(n.Links) || (n.Kind == api.KDir || n.Kind == api.KMulti) && n.Links != 1 {
				t.Errorf("node %d of %d has %d names, and is %v", num, lab, names[num], n)
			}
			at := num
			for range nodes {
				at = ahead[at]
			}
			if at != 0 {
				t.Errorf("node %d of %d lies in itself", num, lab)
			}
		}
		w.blocksRight(t, lab, nodes)
	}
}

// nodesOf: a label's nodes that aren't free.
func (w world) nodesOf(t *testing.T, lab int) map[int]api.Node {
	t.Helper()
	g, nodes := w.open(t, lab), map[int]api.Node{}
	geo, _ := w.c.Geo(lab)
	for num := 1; num <= geo.Nodes; num++ {
		n, e := g.Node(num)
		if e != api.OK {
			t.Fatalf("Node(%d) of %d = %d", num, lab, e)
		}
		if n.Kind != api.KFree {
			nodes[num] = n
		}
	}
	return nodes
}

// namesOf: how many names each of a label's nodes has, its own ones and own directories one ahead; and in which node of the group each is.
func (w world) namesOf(t *testing.T, lab int, nodes map[int]api.Node) (names, ahead map[int]int) {
	t.Helper()
	g := w.open(t, lab)
	names, ahead = map[int]int{1: 1, 2: 1, 3: 1}, map[int]int{}
	for num, n := range nodes {
		if n.Kind != api.KDir {
			continue
		}
		l, e := dir.List(g, num)
		if e != api.OK {
			t.Fatalf("List(%d) of %d = %d", num, lab, e)
		}
		for _, x := range l {
			if nodes[int(x.Num)].Kind == api.KFree {
				t.Errorf("%s in %d of %d is no node", x.Name, num, lab)
			}
			names[int(x.Num)]++
			ahead[int(x.Num)] = num
		}
	}
	records, e := inst.List(g)
	if e != api.OK {
		t.Fatalf("records of %d: %d", lab, e)
	}
	for _, r := range records {
		names[int(r.Own)]++
		if !w.c.Leq(int(r.Of.Lab), lab) {
			t.Errorf("%d has its own directory of %v", lab, r.Of)
		}
		if int(r.Of.Lab) == lab {
			ahead[int(r.Own)] = int(r.Of.Num)
		}
	}
	return names, ahead
}

// blocksRight: are just those of a label's blocks taken that its nodes have?
func (w world) blocksRight(t *testing.T, lab int, nodes map[int]api.Node) {
	t.Helper()
	g, seen := w.open(t, lab), map[uint16]int{}
	for num, n := range nodes {
		data, pointers, e := file.Blocks(g, n)
		if e != api.OK {
			t.Fatalf("Blocks of %d of %d = %d", num, lab, e)
		}
		for _, b := range append(data, pointers...) {
			if was, ok := seen[b]; ok {
				t.Errorf("block %d of %d is %d's and %d's", b, lab, was, num)
			}
			seen[b] = num
		}
	}
	if blocks, many, e := g.Usage(); e != api.OK || blocks != len(seen) || many != len(nodes) {
		t.Errorf("Usage of %d = %d, %d, %d, nodes have %d blocks, and are %d", lab, blocks, many, e, len(seen), len(nodes))
	}
}
