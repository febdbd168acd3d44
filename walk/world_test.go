package walk_test

import (
	"slices"
	"testing"

	"garrison/api"
	"garrison/conf"
	"garrison/dir"
	"garrison/disk"
	"garrison/file"
	"garrison/group"
	"garrison/inst"
	"garrison/node"
	"garrison/wal"
	"garrison/walk"
)

// four: a configuration of a label, two above it that aren't comparable, and one above all.
const four = `
label low 0 blocks 200 nodes 60 frames 1 procs 1 opens 1 clear low
label left 1:2 blocks 200 nodes 60 frames 4 procs 2 opens 3 clear left
label right 1:3 blocks 200 nodes 60 frames 4 procs 2 opens 3 clear right
label high 2:2,3 blocks 200 nodes 60 frames 4 procs 2 opens 3 clear high
`

// The labels of four.
const (
	low = iota
	left
	right
	high
	labels
)

// root: where all ways begin.
var root = api.Ino{}

// thing is what a node is, as the tests know it beside the disk.
type thing struct {
	kind   api.Kind
	target string
	names  map[string]api.Ino
	own    map[int]api.Ino
}

// world is a disk of four, its log at block 1, a transaction; and what there is, by which one it is.
type world struct {
	c      *conf.Conf
	d      *disk.Disk
	x      *wal.Txn
	things map[api.Ino]*thing
}

// onto: of these blocks.
func onto(t *testing.T, bs []api.Block, things map[api.Ino]*thing) world {
	t.Helper()
	c, line, e := conf.Parse(four)
	if e != api.OK {
		t.Fatalf("Parse = %d, %d", line, e)
	}
	if bs == nil {
		bs = make([]api.Block, c.Total())
	}
	d, e := disk.Of(bs)
	if e != api.OK {
		t.Fatalf("Of = %d", e)
	}
	l, e := wal.Open(d, 1)
	if e != api.OK || l.Format() != api.OK {
		t.Fatalf("Open = %d", e)
	}
	return world{c, d, l.Begin(), things}
}

// begun: a disk whose groups have their own nodes.
func begun(t *testing.T) world {
	t.Helper()
	top := &thing{kind: api.KMulti, own: map[int]api.Ino{}}
	w := onto(t, nil, map[api.Ino]*thing{root: top})
	for lab := range labels {
		for i, k := range []api.Kind{api.KDir, api.KFile, api.KFile} {
			if of := w.make(t, lab, k); int(of.Num) != i+1 {
				t.Fatalf("node %d of a new group of %d is %d", i+1, lab, of.Num)
			}
		}
		top.own[lab] = api.Ino{Lab: uint8(lab), Num: inst.Root, Gen: 1}
	}
	return w
}

// view: of the files as they are now.
func (w world) view() *walk.View { return &walk.View{T: w.x, C: w.c} }

// open: a label's group.
func (w world) open(t *testing.T, lab int) *group.Group {
	t.Helper()
	g, e := group.Open(w.x, w.c, lab)
	if e != api.OK {
		t.Fatalf("Open of %d = %d", lab, e)
	}
	return g
}

// commit: what was done is on the disk.
func (w world) commit(t *testing.T) {
	t.Helper()
	if e := w.x.Commit(); e != api.OK {
		t.Fatalf("Commit = %d", e)
	}
}

// known: a node of a label is that thing, on the disk.
func (w world) known(t *testing.T, lab, num int, x thing) api.Ino {
	t.Helper()
	of, e := w.open(t, lab).Ino(num)
	if e != api.OK {
		t.Fatalf("Ino(%d) of %d = %d", num, lab, e)
	}
	w.commit(t)
	x.names, x.own = map[string]api.Ino{}, map[int]api.Ino{}
	w.things[of] = &x
	return of
}

// make: a new node of a kind, that has no name.
func (w world) make(t *testing.T, lab int, k api.Kind) api.Ino {
	t.Helper()
	num, e := w.open(t, lab).Make(k)
	if e != api.OK {
		t.Fatalf("Make = %d", e)
	}
	return w.known(t, lab, num, thing{kind: k})
}

// enter: a directory has one name more.
func (w world) enter(t *testing.T, d api.Ino, name string, of api.Ino) api.Ino {
	t.Helper()
	if e := dir.Add(w.open(t, int(d.Lab)), int(d.Num), api.Entry{Name: name, Num: of.Num}); e != api.OK {
		t.Fatalf("Add of %s to %v = %d", name, d, e)
	}
	w.commit(t)
	if w.things[d] != nil {
		w.things[d].names[name] = of
	}
	return of
}

// add: a directory has one name more, of a new node.
func (w world) add(t *testing.T, d api.Ino, name string, k api.Kind) api.Ino {
	t.Helper()
	return w.enter(t, d, name, w.make(t, int(d.Lab), k))
}

// linked: a new link that has no name.
func (w world) linked(t *testing.T, lab int, target string) api.Ino {
	t.Helper()
	g := w.open(t, lab)
	b, e := g.Take()
	if e != api.OK {
		t.Fatalf("Take = %d", e)
	}
	var bytes api.Block
	copy(bytes[:], target)
	if e := g.Put(b, bytes); e != api.OK {
		t.Fatalf("Put = %d", e)
	}
	num, e := g.MakeLink(len(target), int(b))
	if e != api.OK {
		t.Fatalf("MakeLink of %q = %d", target, e)
	}
	return w.known(t, lab, num, thing{kind: api.KLink, target: target})
}

// link: a directory has one name more, of a new link.
func (w world) link(t *testing.T, d api.Ino, name, target string) api.Ino {
	t.Helper()
	return w.enter(t, d, name, w.linked(t, int(d.Lab), target))
}

// need: a label's own directory of a node.
func (w world) need(t *testing.T, lab int, of api.Ino) api.Ino {
	t.Helper()
	own, e := inst.Need(w.x, w.c, w.open(t, lab), of)
	if e != api.OK {
		t.Fatalf("Need(%v) of %d = %d", of, lab, e)
	}
	i := w.known(t, lab, own, thing{kind: api.KDir})
	if w.things[of] != nil {
		w.things[of].own[lab] = i
	}
	return i
}

// end: a node isn't there any more, whatever names it.
func (w world) end(t *testing.T, of api.Ino) {
	t.Helper()
	if e := file.Remove(w.open(t, int(of.Lab)), int(of.Num)); e != api.OK {
		t.Fatalf("Remove of %v = %d", of, e)
	}
	w.commit(t)
	delete(w.things, of)
}

// own: a label's own root.
func (w world) own(lab int) api.Ino { return w.things[root].own[lab] }

// set: a node of a label is so, on the disk, be it right or not.
func (w world) set(t *testing.T, of api.Ino, n api.Node) {
	t.Helper()
	geo, _ := w.c.Geo(int(of.Lab))
	block, at, ok := node.Place(geo, int(of.Num))
	b, e := w.x.Get(block)
	if !ok || e != api.OK {
		t.Fatalf("no node %v: %d", of, e)
	}
	x := node.Encode(n)
	copy(b[at:], x[:])
	w.x.Put(block, b)
	w.commit(t)
}

// lay: a file of a label's group has just these bytes, on the disk.
func (w world) lay(t *testing.T, lab, num int, b []byte) {
	t.Helper()
	g := w.open(t, lab)
	if e := file.Cut(g, num, 0); e != api.OK {
		t.Fatalf("Cut = %d", e)
	}
	if e := file.Write(g, num, 0, b); e != api.OK {
		t.Fatalf("Write = %d", e)
	}
	w.commit(t)
}

// part: the blocks of a label's group, of a disk's.
func (w world) part(bs []api.Block, lab int) []api.Block {
	geo, _ := w.c.Geo(lab)
	return bs[geo.Base : geo.Data+geo.Blocks]
}

// same: do two ways come to the same?
func same(a, b walk.Found) bool {
	return slices.Equal(a.Stack, b.Stack) && a.Dir == b.Dir && a.Name == b.Name && a.Node == b.Node && a.Kind == b.Kind
}

// holds: does a way come to that?
func (w world) holds(t *testing.T, subject int, from []api.Ino, s string, follow bool, want walk.Found) {
	t.Helper()
	if f, e := w.view().Walk(subject, from, s, follow); e != api.OK || !same(f, want) {
		t.Errorf("Walk(%d, %v, %q, %v) = %v, %d, wanted %v", subject, from, s, follow, f, e, want)
	}
}

// fails: does a way answer that error, and nothing beside it? So does Dir, which follows.
func (w world) fails(t *testing.T, subject int, from []api.Ino, s string, want api.Errno) {
	t.Helper()
	for _, follow := range []bool{false, true} {
		if f, e := w.view().Walk(subject, from, s, follow); e != want || !same(f, walk.Found{}) {
			t.Errorf("Walk(%d, %v, %q, %v) = %v, %d, wanted %d", subject, from, s, follow, f, e, want)
		}
	}
	if l, e := w.view().Dir(subject, from, s); e != want || len(l) > 0 {
		t.Errorf("Dir(%d, %v, %q) = %v, %d, wanted %d", subject, from, s, l, e, want)
	}
	if w.x.Len() > 0 {
		t.Errorf("Walk of %q put something", s)
	}
}

// stack: a list of directories from the root on.
func stack(l ...api.Ino) []api.Ino { return append([]api.Ino{root}, l...) }
