package tree_test

import (
	"slices"
	"testing"

	"garrison/api"
	"garrison/conf"
	"garrison/dir"
	"garrison/disk"
	"garrison/file"
	"garrison/group"
	"garrison/inst"
	"garrison/node"
	"garrison/tree"
	"garrison/wal"
	"garrison/walk"
)

// four: a configuration of a label, two above it that aren't comparable, and one above all.
const four = `
label low 0 blocks 200 nodes 60 frames 1 procs 1 opens 1 clear low
label left 1:2 blocks 200 nodes 60 frames 4 procs 2 opens 3 clear left
label right 1:3 blocks 200 nodes 60 frames 4 procs 2 opens 3 clear right
label high 2:2,3 blocks 200 nodes 60 frames 4 procs 2 opens 3 clear high
`

// scarce: one of few blocks, and of few nodes.
const scarce = `
label low 0 blocks 4 nodes 60 frames 1 procs 1 opens 1 clear low
label left 1:2 blocks 200 nodes 6 frames 4 procs 2 opens 3 clear left
label right 1:3 blocks 200 nodes 60 frames 4 procs 2 opens 3 clear right
label high 2:2,3 blocks 200 nodes 60 frames 4 procs 2 opens 3 clear high
`

// The labels of both.
const (
	low = iota
	left
	right
	high
	labels
)

// root: where all ways begin.
var root = api.Ino{}

// world is a disk, its log at block 1, and a transaction.
type world struct {
	c *conf.Conf
	d *disk.Disk
	x *wal.Txn
}

// onto: of these blocks.
func onto(t *testing.T, text string, bs []api.Block) world {
	t.Helper()
	c, line, e := conf.Parse(text)
	if e != api.OK {
		t.Fatalf("Parse = %d, %d", line, e)
	}
	if bs == nil {
		bs = make([]api.Block, c.Total())
	}
	d, e := disk.Of(bs)
	if e != api.OK {
		t.Fatalf("Of = %d", e)
	}
	l, e := wal.Open(d, 1)
	if e != api.OK || l.Format() != api.OK {
		t.Fatalf("Open = %d", e)
	}
	return world{c, d, l.Begin()}
}

// begun: a disk whose groups have their own nodes.
func begun(t *testing.T, text string) world {
	t.Helper()
	w := onto(t, text, nil)
	for lab := range labels {
		for i, k := range []api.Kind{api.KDir, api.KFile, api.KFile} {
			if num, e := w.open(t, lab).Make(k); num != i+1 || e != api.OK {
				t.Fatalf("node %d of a new group of %d is %d, %d", i+1, lab, num, e)
			}
		}
		w.commit(t)
	}
	return w
}

// view: of the files as they are now.
func (w world) view() *walk.View { return &walk.View{T: w.x, C: w.c} }

// tree: a subject's, from directories on.
func (w world) tree(subject int, from ...api.Ino) *tree.Tree {
	return &tree.Tree{View: w.view(), Subject: subject, Cwd: from}
}

// open: a label's group.
func (w world) open(t *testing.T, lab int) *group.Group {
	t.Helper()
	g, e := group.Open(w.x, w.c, lab)
	if e != api.OK {
		t.Fatalf("Open of %d = %d", lab, e)
	}
	return g
}

// commit: what was done is on the disk.
func (w world) commit(t *testing.T) {
	t.Helper()
	if e := w.x.Commit(); e != api.OK {
		t.Fatalf("Commit = %d", e)
	}
}

// own: a label's own root.
func (w world) own(lab int) api.Ino { return api.Ino{Lab: uint8(lab), Num: inst.Root, Gen: 1} }

// node: what a node is.
func (w world) node(t *testing.T, i api.Ino) api.Node {
	t.Helper()
	n, e := w.view().Node(i)
	if e != api.OK {
		t.Fatalf("Node(%v) = %d", i, e)
	}
	return n
}

// gone: isn't a node there any more?
func (w world) gone(t *testing.T, l ...api.Ino) {
	t.Helper()
	for _, i := range l {
		if n, e := w.view().Node(i); e != api.ErrStale {
			t.Errorf("%v is %v, %d", i, n, e)
		}
	}
}

// list: does a directory have just these entries, in that order?
func (w world) list(t *testing.T, d api.Ino, want ...api.Entry) {
	t.Helper()
	l, e := dir.List(w.open(t, int(d.Lab)), int(d.Num))
	if e != api.OK || !slices.Equal(l, want) {
		t.Errorf("in %v there is %v, %d, wanted %v", d, l, e, want)
	}
}

// entry: a directory's, of a name and a node.
func entry(name string, i api.Ino) api.Entry { return api.Entry{Name: name, Num: i.Num} }

// done: what a subject did answers want; it put blocks of its own group alone (P3); without an error they are written, else dropped.
func (w world) done(t *testing.T, subject int, what string, e, want api.Errno) {
	t.Helper()
	if e != want {
		t.Errorf("%s of %d = %d, wanted %d", what, subject, e, want)
	}
	geo, _ := w.c.Geo(subject)
	for _, at := range w.x.Blocks() {
		if at < geo.Base || at >= geo.Data+geo.Blocks {
			t.Errorf("P3: %s of %d puts block %d", what, subject, at)
		}
	}
	if e != api.OK {
		w.x.Drop()
		return
	}
	w.commit(t)
}

// make: a subject's new node with a name.
func (w world) make(t *testing.T, subject int, s string, k api.Kind) api.Ino {
	t.Helper()
	i, e := w.tree(subject).Make(s, k)
	w.done(t, subject, "Make of "+s, e, api.OK)
	if n := w.node(t, i); n.Kind != k || int(i.Lab) != subject {
		t.Fatalf("Make(%s, %d) = %v, that is %v", s, k, i, n)
	}
	return i
}

// symlink: a subject's new link with a name.
func (w world) symlink(t *testing.T, subject int, target, s string) api.Ino {
	t.Helper()
	i, e := w.tree(subject).Symlink(target, s)
	w.done(t, subject, "Symlink "+s, e, api.OK)
	return i
}

// link: a subject's node has one name more.
func (w world) link(t *testing.T, subject int, old, s string, want api.Errno) {
	t.Helper()
	w.done(t, subject, "Link "+old+" "+s, w.tree(subject).Link(old, s), want)
}

// unlink: a subject's name goes.
func (w world) unlink(t *testing.T, subject int, s string, want api.Errno) {
	t.Helper()
	w.done(t, subject, "Unlink "+s, w.tree(subject).Unlink(s), want)
}

// rmdir: a subject's directory goes.
func (w world) rmdir(t *testing.T, subject int, s string, want api.Errno) {
	t.Helper()
	w.done(t, subject, "Rmdir "+s, w.tree(subject).Rmdir(s), want)
}

// rename: a subject's name is another one.
func (w world) rename(t *testing.T, subject int, old, s string, want api.Errno) {
	t.Helper()
	w.done(t, subject, "Rename "+old+" "+s, w.tree(subject).Rename(old, s), want)
}

// ownOf: a label's own directory of a node, that it has.
func (w world) ownOf(t *testing.T, lab int, of api.Ino) api.Ino {
	t.Helper()
	i, ok, e := w.view().Own(of, lab)
	if e != api.OK || !ok {
		t.Fatalf("Own(%v, %d) = %v, %v, %d", of, lab, i, ok, e)
	}
	return i
}

// none: has a label no own directory of a node?
func (w world) none(t *testing.T, lab int, of api.Ino) {
	t.Helper()
	if i, ok, e := w.view().Own(of, lab); e != api.OK || ok {
		t.Errorf("%d has its own of %v: %v, %v, %d", lab, of, i, ok, e)
	}
}

// set: a node of a label is so, on the disk, be it right or not.
func (w world) set(t *testing.T, of api.Ino, n api.Node) {
	t.Helper()
	geo, _ := w.c.Geo(int(of.Lab))
	block, at, ok := node.Place(geo, int(of.Num))
	b, e := w.x.Get(block)
	if !ok || e != api.OK {
		t.Fatalf("no node %v: %d", of, e)
	}
	x := node.Encode(n)
	copy(b[at:], x[:])
	w.x.Put(block, b)
	w.commit(t)
}

// lay: a file of a label's group, or a directory, has just these bytes, on the disk.
func (w world) lay(t *testing.T, lab, num int, b []byte) {
	t.Helper()
	g := w.open(t, lab)
	if e := file.Cut(g, num, 0); e != api.OK {
		t.Fatalf("Cut = %d", e)
	}
	if e := file.Write(g, num, 0, b); e != api.OK {
		t.Fatalf("Write = %d", e)
	}
	w.commit(t)
}

// enter: a directory has one name more, whatever stands there.
func (w world) enter(t *testing.T, d api.Ino, name string, num uint16) {
	t.Helper()
	if e := dir.Add(w.open(t, int(d.Lab)), int(d.Num), api.Entry{Name: name, Num: num}); e != api.OK {
		t.Fatalf("Add of %s to %v = %d", name, d, e)
	}
	w.commit(t)
}

// part: the blocks of a label's group, of a disk's.
func (w world) part(bs []api.Block, lab int) []api.Block {
	geo, _ := w.c.Geo(lab)
	return bs[geo.Base : geo.Data+geo.Blocks]
}

// stack: a list of directories from the root on.
func stack(l ...api.Ino) []api.Ino { return append([]api.Ino{root}, l...) }
