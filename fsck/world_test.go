package fsck_test

import (
	"bytes"
	"testing"

	"garrison/api"
	"garrison/conf"
	"garrison/dir"
	"garrison/disk"
	"garrison/file"
	"garrison/fsck"
	"garrison/group"
	"garrison/inst"
	"garrison/node"
	"garrison/tree"
	"garrison/wal"
	"garrison/walk"
)

// four: a configuration of a label, two above it that aren't comparable, and one above all.
const four = `
label low 0 blocks 200 nodes 30 frames 1 procs 1 opens 1 clear low
label left 1:2 blocks 60 nodes 20 frames 4 procs 2 opens 3 clear left
label right 1:3 blocks 60 nodes 20 frames 4 procs 2 opens 3 clear right
label high 2:2,3 blocks 60 nodes 20 frames 4 procs 2 opens 3 clear high
`

// edges: one of the least and the most that a label may have, and of a block, or node, more than stand in a byte's bits, or less.
const edges = `
label least 0 blocks 4 nodes 4 frames 1 procs 1 opens 1 clear least
label most 1 blocks 512 nodes 128 frames 1 procs 1 opens 1 clear most
label nearly 2 blocks 511 nodes 126 frames 1 procs 1 opens 1 clear nearly
label nine 3 blocks 9 nodes 6 frames 1 procs 1 opens 1 clear nine
`

// The labels of four.
const (
	low = iota
	left
	right
	high
	labels
)

// root: where all ways begin.
var root = api.Ino{}

// world is a disk, its log at block 1, and a transaction.
type world struct {
	c *conf.Conf
	d *disk.Disk
	l *wal.Log
	x *wal.Txn
}

// parsed: a configuration.
func parsed(t *testing.T, text string) *conf.Conf {
	t.Helper()
	c, line, e := conf.Parse(text)
	if e != api.OK {
		t.Fatalf("Parse = %d, %d", line, e)
	}
	return c
}

// onto: a disk of these blocks, as it is.
func onto(t *testing.T, c *conf.Conf, bs []api.Block) world {
	t.Helper()
	d, e := disk.Of(bs)
	if e != api.OK {
		t.Fatalf("Of = %d", e)
	}
	l, e := wal.Open(d, 1)
	if e != api.OK {
		t.Fatalf("Open = %d", e)
	}
	return world{c, d, l, l.Begin()}
}

// begun: a disk as it begins: its block 0, an empty log, the groups' own nodes, all else noughts.
func begun(t *testing.T, text string) world {
	t.Helper()
	c := parsed(t, text)
	w := onto(t, c, make([]api.Block, c.Total()))
	if e := w.l.Format(); e != api.OK {
		t.Fatalf("Format = %d", e)
	}
	w.put(t, 0, fsck.Super(c))
	for lab := range c.Len() {
		for i, k := range []api.Kind{api.KDir, api.KFile, api.KFile} {
			w.set(t, lab, i+1, api.Node{Kind: k, Links: 1, Gen: 1})
		}
	}
	return w
}

// copied: another disk that is the same.
func (w world) copied(t *testing.T) world {
	t.Helper()
	return onto(t, w.c, w.d.Image())
}

// commit: what was done is on the disk.
func (w world) commit(t *testing.T) {
	t.Helper()
	if e := w.x.Commit(); e != api.OK {
		t.Fatalf("Commit = %d", e)
	}
}

// get: a block of the disk.
func (w world) get(t *testing.T, at int) api.Block {
	t.Helper()
	b, e := w.x.Get(at)
	if e != api.OK {
		t.Fatalf("Get(%d) = %d", at, e)
	}
	return b
}

// put: a block of the disk is so.
func (w world) put(t *testing.T, at int, b api.Block) {
	t.Helper()
	if e := w.d.Write(at, b); e != api.OK {
		t.Fatalf("Write(%d) = %d", at, e)
	}
}

// poke: a byte of a block of the disk is so.
func (w world) poke(t *testing.T, block, at int, x byte) {
	t.Helper()
	b := w.get(t, block)
	b[at] = x
	w.put(t, block, b)
}

// geo: where a label's group lies.
func (w world) geo(t *testing.T, lab int) conf.Geo {
	t.Helper()
	g, ok := w.c.Geo(lab)
	if !ok {
		t.Fatalf("no group of %d", lab)
	}
	return g
}

// data: where a data block of a label stands on the disk.
func (w world) data(t *testing.T, lab int, n uint16) int {
	t.Helper()
	return w.geo(t, lab).Data + int(n) - 1
}

// node: a label's, as it is, be it right or not.
func (w world) node(t *testing.T, lab, num int) api.Node {
	t.Helper()
	b, at := w.nodeAt(t, lab, num)
	n := api.Node{Kind: api.Kind(b[at]), Links: b[at+1], Gen: two(b, at+2), Size: uint32(two(b, at+4)) | uint32(two(b, at+6))<<16}
	for i := range n.Direct {
		n.Direct[i] = two(b, at+8+2*i)
	}
	n.Single, n.Double = two(b, at+20), two(b, at+22)
	return n
}

// nodeAt: the block that a label's node stands in, and where in it.
func (w world) nodeAt(t *testing.T, lab, num int) (api.Block, int) {
	t.Helper()
	block, at, ok := node.Place(w.geo(t, lab), num)
	if !ok {
		t.Fatalf("%d has no node %d", lab, num)
	}
	return w.get(t, block), at
}

// set: a label's node is so, on the disk, be it right or not.
func (w world) set(t *testing.T, lab, num int, n api.Node) {
	t.Helper()
	b, at := w.nodeAt(t, lab, num)
	x := node.Encode(n)
	copy(b[at:], x[:])
	block, _, _ := node.Place(w.geo(t, lab), num)
	w.put(t, block, b)
}

// change: a label's node is another one, on the disk, be it right or not.
func (w world) change(t *testing.T, lab, num int, f func(n *api.Node)) {
	t.Helper()
	n := w.node(t, lab, num)
	f(&n)
	w.set(t, lab, num, n)
}

// mark: a bit of a label is set, or not, on the disk.
func (w world) mark(t *testing.T, lab, bit int, on bool) {
	t.Helper()
	at := w.geo(t, lab).Base + bit/512
	b := w.get(t, at)
	b[bit%512/8] &^= 1 << (bit % 8)
	if on {
		b[bit%512/8] |= 1 << (bit % 8)
	}
	w.put(t, at, b)
}

// row: a number in a label's block of pointers is so, on the disk.
func (w world) row(t *testing.T, lab int, block uint16, i int, to uint16) {
	t.Helper()
	at := w.data(t, lab, block)
	w.poke(t, at, 2*i, byte(to))
	w.poke(t, at, 2*i+1, byte(to>>8))
}

// open: a label's group.
func (w world) open(t *testing.T, lab int) *group.Group {
	t.Helper()
	g, e := group.Open(w.x, w.c, lab)
	if e != api.OK {
		t.Fatalf("Open of %d = %d", lab, e)
	}
	return g
}

// do: what is done in a label's group is on the disk.
func (w world) do(t *testing.T, lab int, f func(g *group.Group) api.Errno) {
	t.Helper()
	if e := f(w.open(t, lab)); e != api.OK {
		t.Fatalf("an error of %d: %d", lab, e)
	}
	w.commit(t)
}

// enter: a directory has one name more, whatever node that is of.
func (w world) enter(t *testing.T, lab, num int, name string, of int) {
	t.Helper()
	w.do(t, lab, func(g *group.Group) api.Errno {
		return dir.Add(g, num, api.Entry{Name: name, Num: uint16(of)})
	})
}

// leave: a directory has a name less.
func (w world) leave(t *testing.T, lab, num int, name string) {
	t.Helper()
	w.do(t, lab, func(g *group.Group) api.Errno { return dir.Drop(g, num, name) })
}

// lay: a node has just these bytes, be they right or not.
func (w world) lay(t *testing.T, lab, num int, b []byte) {
	t.Helper()
	w.do(t, lab, func(g *group.Group) api.Errno { return file.Cut(g, num, 0) })
	for at := 0; at < len(b); at += 640 {
		part := b[at:min(at+640, len(b))]
		w.do(t, lab, func(g *group.Group) api.Errno { return file.Write(g, num, at, part) })
	}
}

// bytes: what a node has.
func (w world) bytes(t *testing.T, lab, num int) []byte {
	t.Helper()
	b, e := file.Read(w.open(t, lab), num, 0, api.MaxFile)
	if e != api.OK {
		t.Fatalf("Read(%d) of %d = %d", num, lab, e)
	}
	return b
}

// records: a label's table is of these, then on the disk.
func (w world) records(t *testing.T, lab int, l ...inst.Record) {
	t.Helper()
	var b []byte
	for _, r := range l {
		x := inst.Pack(r)
		b = append(b, x[:]...)
	}
	w.lay(t, lab, inst.Table, b)
}

// tree: a subject's, from the root on.
func (w world) tree(subject int) *tree.Tree {
	return &tree.Tree{View: &walk.View{T: w.x, C: w.c}, Subject: subject}
}

// make: a subject's new node with a name.
func (w world) make(t *testing.T, subject int, s string, k api.Kind) api.Ino {
	t.Helper()
	i, e := w.tree(subject).Make(s, k)
	if e != api.OK {
		t.Fatalf("Make(%s) of %d = %d", s, subject, e)
	}
	w.commit(t)
	return i
}

// grow: a subject's new file of so many bytes.
func (w world) grow(t *testing.T, subject int, s string, size int) api.Ino {
	t.Helper()
	i := w.make(t, subject, s, api.KFile)
	w.lay(t, subject, int(i.Num), bytes.Repeat([]byte("garrison"), size/8+1)[:size])
	return i
}

// own: a label's own directory of a node: its number.
func (w world) own(t *testing.T, lab int, of api.Ino) int {
	t.Helper()
	num, e := inst.Find(w.open(t, lab), of)
	if e != api.OK || num == 0 {
		t.Fatalf("Find(%v) of %d = %d, %d", of, lab, num, e)
	}
	return num
}

// isRight: does Check find nothing, and do the chapter's words say so, too?
func (w world) isRight(t *testing.T, what string) {
	t.Helper()
	if l := fsck.Check(w.x, w.c); len(l) > 0 {
		t.Errorf("P14.2: %s: %v", what, l)
	}
	if !rightDisk(w.c, w.x) {
		t.Errorf("%s: the model says that it isn't right", what)
	}
}

// isWrong: does Check find something, and do the chapter's words say so, too?
func (w world) isWrong(t *testing.T, what string) {
	t.Helper()
	l := fsck.Check(w.x, w.c)
	if len(l) == 0 {
		t.Errorf("P14.2: %s: nothing is found", what)
	}
	w.told(t, l)
	if rightDisk(w.c, w.x) {
		t.Errorf("%s: the model says that it is right", what)
	}
}

// told: is each fault one, of a label and a node that may be?
func (w world) told(t *testing.T, l []fsck.Fault) {
	t.Helper()
	for _, x := range l {
		g, ok := w.c.Geo(x.Lab)
		if !ok || x.Num < 0 || x.Num > g.Nodes || x.Code == api.OK {
			t.Errorf("a fault %v", x)
		}
	}
}

// two: a number of two bytes, the lowest first.
func two(b api.Block, at int) uint16 { return uint16(b[at]) | uint16(b[at+1])<<8 }
