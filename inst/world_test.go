package inst_test

import (
	"bytes"
	"math/rand"
	"slices"
	"testing"

	"garrison/api"
	"garrison/conf"
	"garrison/dir"
	"garrison/disk"
	"garrison/file"
	"garrison/group"
	"garrison/inst"
	"garrison/node"
	"garrison/wal"
)

// four: a configuration of a small group, two of labels above it that aren't comparable, and one above all.
const four = `
label low 0 blocks 12 nodes 10 frames 1 procs 1 opens 1 clear low
label left 1:2 blocks 512 nodes 128 frames 4 procs 2 opens 3 clear left
label right 1:3 blocks 40 nodes 16 frames 4 procs 2 opens 3 clear right
label high 2:2,3 blocks 60 nodes 16 frames 4 procs 2 opens 3 clear high
`

// The labels of four.
const (
	low = iota
	left
	right
	high
	labels
)

// world is a disk of four, its log at block 1, and a transaction.
type world struct {
	c *conf.Conf
	d *disk.Disk
	l *wal.Log
	x *wal.Txn
}

// onto: of these blocks.
func onto(t *testing.T, bs []api.Block) world {
	t.Helper()
	c, line, e := conf.Parse(four)
	if e != api.OK {
		t.Fatalf("Parse = %d, %d", line, e)
	}
	if bs == nil {
		bs = make([]api.Block, c.Total())
	}
	d, e := disk.Of(bs)
	if e != api.OK {
		t.Fatalf("Of = %d", e)
	}
	l, e := wal.Open(d, 1)
	if e != api.OK || l.Format() != api.OK {
		t.Fatalf("Open = %d", e)
	}
	return world{c, d, l, l.Begin()}
}

// begun: a disk whose groups have their own nodes, and data blocks of noise, as if all had been others'.
func begun(t *testing.T) world {
	t.Helper()
	r := rand.New(rand.NewSource(10))
	w := onto(t, nil)
	bs := w.d.Image()
	for lab := range labels {
		geo, _ := w.c.Geo(lab)
		for i := range geo.Blocks {
			r.Read(bs[geo.Data+i][:])
		}
	}
	w = onto(t, bs)
	for lab := range labels {
		for i, k := range []api.Kind{api.KDir, api.KFile, api.KFile} {
			if num := w.make(t, lab, k); num != i+1 {
				t.Fatalf("node %d of a new group of %d is %d", i+1, lab, num)
			}
		}
	}
	return w
}

// open: a label's group.
func (w world) open(t *testing.T, lab int) *group.Group {
	t.Helper()
	g, e := group.Open(w.x, w.c, lab)
	if e != api.OK {
		t.Fatalf("Open of %d = %d", lab, e)
	}
	return g
}

// commit: what was done is on the disk.
func (w world) commit(t *testing.T) {
	t.Helper()
	if e := w.x.Commit(); e != api.OK {
		t.Fatalf("Commit = %d", e)
	}
}

// make: a new node of a kind, on the disk: its number.
func (w world) make(t *testing.T, lab int, k api.Kind) int {
	t.Helper()
	num, e := w.open(t, lab).Make(k)
	if e != api.OK {
		t.Fatalf("Make = %d", e)
	}
	w.commit(t)
	return num
}

// ino: which one a node is that has to be there.
func (w world) ino(t *testing.T, lab, num int) api.Ino {
	t.Helper()
	of, e := w.open(t, lab).Ino(num)
	if e != api.OK {
		t.Fatalf("Ino(%d) of %d = %d", num, lab, e)
	}
	return of
}

// multi: a new KMulti, on the disk.
func (w world) multi(t *testing.T, lab int) api.Ino {
	t.Helper()
	return w.ino(t, lab, w.make(t, lab, api.KMulti))
}

// multis: so many of them.
func (w world) multis(t *testing.T, lab, many int) []api.Ino {
	t.Helper()
	var out []api.Ino
	for range many {
		out = append(out, w.multi(t, lab))
	}
	return out
}

// end: a node isn't there any more, on the disk.
func (w world) end(t *testing.T, nodes ...api.Ino) {
	t.Helper()
	for _, of := range nodes {
		if e := file.Remove(w.open(t, int(of.Lab)), int(of.Num)); e != api.OK {
			t.Fatalf("Remove of %v = %d", of, e)
		}
		w.commit(t)
	}
}

// need: a label's own directory of a node, on the disk.
func (w world) need(t *testing.T, lab int, of api.Ino) int {
	t.Helper()
	own, e := inst.Need(w.x, w.c, w.open(t, lab), of)
	if e != api.OK {
		t.Fatalf("Need(%v) of %d = %d", of, lab, e)
	}
	w.commit(t)
	return own
}

// needs: those of several, whose numbers are to be rising ones from the first that is free.
func (w world) needs(t *testing.T, lab int, all []api.Ino) []inst.Record {
	t.Helper()
	var out []inst.Record
	for _, of := range all {
		out = append(out, inst.Record{Of: of, Own: uint16(w.need(t, lab, of))})
	}
	return out
}

// enter: a directory has one name more, on the disk.
func (w world) enter(t *testing.T, lab, num int) {
	t.Helper()
	if e := dir.Add(w.open(t, lab), num, api.Entry{Name: "x", Num: 9}); e != api.OK {
		t.Fatalf("Add to %d = %d", num, e)
	}
	w.commit(t)
}

// leave: and it hasn't any more.
func (w world) leave(t *testing.T, lab, num int) {
	t.Helper()
	if e := dir.Drop(w.open(t, lab), num, "x"); e != api.OK {
		t.Fatalf("Drop of %d = %d", num, e)
	}
	w.commit(t)
}

// lay: a label's table has just these bytes, on the disk.
func (w world) lay(t *testing.T, lab int, b []byte) {
	t.Helper()
	g := w.open(t, lab)
	if e := file.Cut(g, inst.Table, 0); e != api.OK {
		t.Fatalf("Cut = %d", e)
	}
	for at := 0; at < len(b); at += 960 { // a transaction has room for few blocks
		if e := file.Write(g, inst.Table, at, b[at:min(at+960, len(b))]); e != api.OK {
			t.Fatalf("Write at %d = %d", at, e)
		}
		w.commit(t)
	}
	w.commit(t)
}

// packed: places as bytes, by the chapter's words.
func packed(places []inst.Record) []byte {
	var b []byte
	for _, r := range places {
		p := bytesOf(r)
		b = append(b, p[:]...)
	}
	return b
}

// records: the places that aren't empty.
func records(places []inst.Record) []inst.Record {
	return slices.DeleteFunc(slices.Clone(places), func(r inst.Record) bool { return r == inst.Record{} })
}

// has: has a label's table just these places, as its bytes and as its calls say?
func (w world) has(t *testing.T, lab int, places ...inst.Record) {
	t.Helper()
	g := w.open(t, lab)
	if b, e := file.Read(g, inst.Table, 0, 16385); !bytes.Equal(b, packed(places)) || e != api.OK {
		t.Fatalf("the table of %d = %v, %d, wanted %v", lab, b, e, places)
	}
	if l, e := inst.List(g); !slices.Equal(l, records(places)) || e != api.OK {
		t.Fatalf("List of %d = %v, %d, wanted %v", lab, l, e, places)
	}
	first := map[api.Ino]int{}
	for _, r := range records(places) {
		if first[r.Of] == 0 {
			first[r.Of] = int(r.Own)
		}
	}
	for of, own := range first {
		if n, e := inst.Find(g, of); n != own || e != api.OK {
			t.Fatalf("Find(%v) of %d = %d, %d, wanted %d", of, lab, n, e, own)
		}
	}
}

// without: of places some are empty.
func without(places []inst.Record, at ...int) []inst.Record {
	out := slices.Clone(places)
	for _, i := range at {
		out[i] = inst.Record{}
	}
	return out
}

// uses: has a label just so many blocks that are taken, and nodes that aren't free?
func (w world) uses(t *testing.T, lab, blocks, nodes int) {
	t.Helper()
	if b, n, e := w.open(t, lab).Usage(); b != blocks || n != nodes || e != api.OK {
		t.Fatalf("Usage of %d = %d, %d, %d, wanted %d, %d", lab, b, n, e, blocks, nodes)
	}
}

// free: is a node of a label free?
func (w world) free(t *testing.T, lab, num int) bool {
	t.Helper()
	n, e := w.open(t, lab).Node(num)
	if e != api.OK {
		t.Fatalf("Node(%d) of %d = %d", num, lab, e)
	}
	return n.Kind == api.KFree
}

// set: a node of a label is so, on the disk, be it right or not.
func (w world) set(t *testing.T, lab, num int, n api.Node) {
	t.Helper()
	geo, _ := w.c.Geo(lab)
	block, at, ok := node.Place(geo, num)
	b, e := w.x.Get(block)
	if !ok || e != api.OK {
		t.Fatalf("no node %d of %d: %d", num, lab, e)
	}
	x := node.Encode(n)
	copy(b[at:], x[:])
	w.x.Put(block, b)
	w.commit(t)
}

// fill: all a label's blocks are taken but so many, on the disk.
func (w world) fill(t *testing.T, lab, left int) {
	t.Helper()
	g := w.open(t, lab)
	var got []uint16
	for {
		n, e := g.Take()
		if e != api.OK {
			break
		}
		got = append(got, n)
		if w.x.Len() > 20 {
			w.commit(t)
		}
	}
	for _, n := range got[:left] {
		if e := g.Give(n); e != api.OK {
			t.Fatalf("Give = %d", e)
		}
	}
	w.commit(t)
}

// crowd: all a label's nodes are taken but so many, on the disk.
func (w world) crowd(t *testing.T, lab, left int) {
	t.Helper()
	g := w.open(t, lab)
	var got []int
	for {
		n, e := g.Make(api.KFile)
		if e != api.OK {
			break
		}
		got = append(got, n)
		if w.x.Len() > 20 {
			w.commit(t)
		}
	}
	for _, n := range got[:left] {
		if e := g.Wipe(n); e != api.OK {
			t.Fatalf("Wipe = %d", e)
		}
	}
	w.commit(t)
}

// part: the blocks of a label's group, of a disk's.
func (w world) part(bs []api.Block, lab int) []api.Block {
	geo, _ := w.c.Geo(lab)
	return bs[geo.Base : geo.Data+geo.Blocks]
}

// onlyOf: are all blocks behind the log as they were, but for those of one label's group?
func (w world) onlyOf(t *testing.T, was []api.Block, lab int) {
	t.Helper()
	geo, _ := w.c.Geo(lab)
	for i, b := range w.d.Image() {
		own := i >= geo.Base && i < geo.Data+geo.Blocks
		if i > api.LogBlocks+1 && !own && b != was[i] {
			t.Errorf("block %d, not of label %d, was written", i, lab)
		}
	}
}
