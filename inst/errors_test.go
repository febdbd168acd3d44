package inst_test

import (
	"fmt"
	"math/rand"
	"slices"
	"testing"

	"garrison/api"
	"garrison/conf"
	"garrison/dir"
	"garrison/file"
	"garrison/group"
	"garrison/inst"
	"garrison/node"
	"garrison/wal"
)

// call is a call of a group's table: its error, and whether it answers nothing else.
type call struct {
	name string
	do   func(t *wal.Txn, c *conf.Conf, g *group.Group) (api.Errno, bool)
}

// callsOf: those that are asked for a node.
func callsOf(of api.Ino) []call {
	return []call{
		{fmt.Sprint("Find ", of), func(_ *wal.Txn, _ *conf.Conf, g *group.Group) (api.Errno, bool) {
			n, e := inst.Find(g, of)
			return e, n == 0
		}},
		{fmt.Sprint("Need ", of), func(t *wal.Txn, c *conf.Conf, g *group.Group) (api.Errno, bool) {
			n, e := inst.Need(t, c, g, of)
			return e, n == 0
		}},
		{fmt.Sprint("Drop ", of), func(_ *wal.Txn, _ *conf.Conf, g *group.Group) (api.Errno, bool) { return inst.Drop(g, of), true }},
	}
}

// calls: all of them, of these nodes and of others that are none.
func calls(of ...api.Ino) []call {
	out := []call{
		{"List", func(_ *wal.Txn, _ *conf.Conf, g *group.Group) (api.Errno, bool) {
			l, e := inst.List(g)
			return e, len(l) == 0
		}},
		{"Reap", func(t *wal.Txn, c *conf.Conf, g *group.Group) (api.Errno, bool) {
			n, e := inst.Reap(t, c, g)
			return e, n == 0
		}},
	}
	for _, x := range append(of, oddInos()...) {
		out = append(out, callsOf(x)...)
	}
	return out
}

// oddInos: nodes that there are none of.
func oddInos() []api.Ino {
	return []api.Ino{{}, {Gen: 1}, {Lab: 3}, {Num: 1}, {Num: 11}, {Lab: 2, Num: 65535, Gen: 65535}, {Lab: 4, Num: 4, Gen: 1}, {Lab: 255, Num: 65535, Gen: 65535}}
}

// allAnswer: does each call of high answer that error, and nothing beside it? Is nothing put?
func (w world) allAnswer(t *testing.T, want api.Errno, of ...api.Ino) {
	t.Helper()
	for _, c := range calls(of...) {
		if e, nothing := c.do(w.x, w.c, w.open(t, high)); e != want || !nothing {
			t.Errorf("%s = %d, wanted %d, or it answers something", c.name, e, want)
		}
		if w.x.Len() > 0 {
			t.Errorf("%s put something", c.name)
		}
	}
}

// P10.1: a table's node that is free, of another kind, or none at all; ahead of what is in it.
func TestTableNode(t *testing.T) {
	for _, x := range []struct {
		n    api.Node
		want api.Errno
	}{
		{api.Node{}, api.ErrStale},
		{api.Node{Gen: 7}, api.ErrStale},
		{api.Node{Kind: api.KDir, Links: 1, Gen: 1}, api.ErrForm},
		{api.Node{Kind: api.KDir, Links: 1, Gen: 1, Size: 16, Direct: [6]uint16{1}}, api.ErrForm},
		{api.Node{Kind: api.KMulti, Links: 1}, api.ErrForm},
		{api.Node{Kind: api.KFifo, Links: 1}, api.ErrForm},
		{api.Node{Kind: api.KLink, Links: 1, Size: 16, Direct: [6]uint16{1}}, api.ErrForm},
		{api.Node{Kind: 6, Links: 1}, api.ErrForm},
		{api.Node{Kind: api.KFile}, api.ErrForm},
		{api.Node{Kind: api.KFile, Links: 1, Size: 16385}, api.ErrForm},
		{api.Node{Kind: api.KFile, Links: 1, Size: 16}, api.ErrRange}, // a block lacks
		{api.Node{Kind: api.KDir, Links: 1, Size: 16}, api.ErrRange},
	} {
		w := begun(t)
		of := w.multi(t, low)
		recs := w.needs(t, high, []api.Ino{of, {Lab: 1, Num: 5, Gen: 5}})
		w.has(t, high, recs...)
		w.set(t, high, inst.Table, x.n)
		w.allAnswer(t, x.want, of)
	}
}

// P10.1: a length that isn't a multiple of eight: whatever the last bytes are.
func TestTableLength(t *testing.T) {
	w := begun(t)
	of := w.multi(t, low)
	places := []inst.Record{{Of: of, Own: 5}, {}, {Of: of, Own: 6}}
	for n := range 25 {
		for _, b := range [][]byte{packed(places)[:n], make([]byte, n)} {
			w.lay(t, high, b)
			if n%8 != 0 {
				w.allAnswer(t, api.ErrForm, of)
			} else if l, e := inst.List(w.open(t, high)); e != api.OK {
				t.Errorf("List of %d bytes = %v, %d", n, l, e)
			}
		}
	}
}

// wrongPlaces: eight bytes each that are neither a record nor empty.
func wrongPlaces() [][8]byte {
	return [][8]byte{
		{1}, {0, 1}, {7: 1}, {0, 0, 4, 0, 1, 0, 5}, {0, 2, 4, 0, 1, 0, 5}, {0, 1, 0, 0, 1, 0, 5}, {0, 1, 4, 0, 1, 0, 0}, {0, 1, 4, 0, 1, 0, 1}, {0, 1, 4, 0, 1, 0, 2}, {0, 1, 4, 0, 1, 0, 3},
	}
}

// P10.1: whichever place isn't right, ahead of or behind the one that is asked for; a first one that is behind four that could be reaped, too.
func TestTablePlaces(t *testing.T) {
	w := begun(t)
	of := w.multi(t, low)
	for _, wrong := range wrongPlaces() {
		for _, at := range []int{0, 3, 4, 5, 7, 8, 39} {
			var places []inst.Record
			for i := range 40 {
				places = append(places, rec(1, uint16(i+10), 1, uint16(i+4)))
			}
			places[4] = inst.Record{Of: of, Own: 4}
			b := packed(places)
			copy(b[8*at:], wrong[:])
			w.lay(t, high, b)
			w.allAnswer(t, api.ErrForm, of)
		}
	}
	places := make([]inst.Record, 2048)
	b := packed(places)
	b[16383] = 1
	w.lay(t, left, b)
	for _, c := range calls(of) {
		if e, nothing := c.do(w.x, w.c, w.open(t, left)); e != api.ErrForm || !nothing {
			t.Errorf("%s = %d", c.name, e)
		}
	}
}

// P10.1: a block that lacks is told ahead of a place that isn't right.
func TestTableLacks(t *testing.T) {
	w := begun(t)
	of := w.multi(t, low)
	b := make([]byte, 448)
	b[3] = 1
	w.lay(t, high, b)
	whole, _ := w.open(t, high).Node(inst.Table)
	for _, lack := range []func(n *api.Node){
		func(n *api.Node) { n.Direct[0] = 0 }, func(n *api.Node) { n.Direct[5] = 0 }, func(n *api.Node) { n.Direct[3] = 61 }, func(n *api.Node) { n.Single = 0 }, func(n *api.Node) { n.Single = 65535 },
	} {
		n := whole
		lack(&n)
		w.set(t, high, inst.Table, n)
		w.allAnswer(t, api.ErrRange, of)
	}
	w.set(t, high, inst.Table, whole)
	w.allAnswer(t, api.ErrForm, of)
}

// ownErrors: numbers of own directories that aren't, and dir's errors of them, made in high.
func (w world) ownErrors(t *testing.T) map[uint16]api.Errno {
	t.Helper()
	wrong := w.make(t, high, api.KDir)
	place := append([]byte{1}, make([]byte, 15)...)
	if e := file.Write(w.open(t, high), wrong, 0, place); e != api.OK {
		t.Fatalf("Write = %d", e)
	}
	w.commit(t)
	out := map[uint16]api.Errno{
		uint16(wrong):                         api.ErrForm,
		uint16(w.make(t, high, api.KFile)):    api.ErrNotDir,
		uint16(w.make(t, high, api.KMulti)):   api.ErrNotDir,
		uint16(w.make(t, high, api.KFifo)):    api.ErrNotDir,
		uint16(w.make(t, high, api.KDir)):     api.ErrForm, // its node isn't right
		uint16(w.make(t, high, api.KDir) + 1): api.ErrStale,
		16:                                    api.ErrStale,
		17:                                    api.ErrRange,
		65535:                                 api.ErrRange,
	}
	w.set(t, high, wrong+4, api.Node{Kind: 9})
	return out
}

// P10.2: dir's errors of an own directory: only where it is asked whether that is empty.
func TestOwnErrors(t *testing.T) {
	w := begun(t)
	of := w.multi(t, low)
	gone := api.Ino{Lab: of.Lab, Num: of.Num, Gen: of.Gen + 1}
	other := w.multi(t, left)
	errs := w.ownErrors(t)
	if len(errs) != 9 {
		t.Fatalf("two are the same: %v", errs)
	}
	for own, want := range errs {
		for _, x := range []api.Ino{of, gone} {
			w.lay(t, high, packed([]inst.Record{{}, {Of: x, Own: own}}))
			g := w.open(t, high)
			reaped := want
			if x == of {
				reaped = api.OK // it is alive: nobody asks
			}
			if n, e := inst.Reap(w.x, w.c, g); n != 0 || e != reaped {
				t.Errorf("own %d: Reap = %d, %d, wanted %d", own, n, e, reaped)
			}
			if e := inst.Drop(g, x); e != want {
				t.Errorf("own %d: Drop = %d, wanted %d", own, e, want)
			}
			if n, e := inst.Find(g, x); n != int(own) || e != api.OK {
				t.Errorf("own %d: Find = %d, %d", own, n, e)
			}
			if n, e := inst.Need(w.x, w.c, g, x); n != int(own) || e != api.OK {
				t.Errorf("own %d: Need = %d, %d", own, n, e)
			}
			if n, e := inst.Need(w.x, w.c, g, other); x == gone && (n != 0 || e != want) {
				t.Errorf("own %d: Need of another = %d, %d, wanted %d", own, n, e, want)
			}
			w.x.Drop()
		}
	}
}

// P10.2: record by record: what is wrong behind the fourth that is reaped isn't looked at; ahead of it, it is told.
func TestReapOrder(t *testing.T) {
	for _, at := range []int{0, 1, 3, 4, 5} {
		w := begun(t)
		var places []inst.Record
		for i := range 5 {
			places = append(places, rec(low, 11, uint16(i), uint16(w.make(t, high, api.KDir))))
		}
		for i, wrong := range []inst.Record{rec(low, 11, 9, 17), rec(labels, 4, 1, 4), rec(255, 4, 1, 4)} { // no such node, no such labels
			w.lay(t, high, packed(slices.Insert(slices.Clone(places), at, wrong)))
			want := 4
			we := api.OK
			if at < 4 {
				want, we = 0, api.ErrRange
			}
			if n, e := inst.Reap(w.x, w.c, w.open(t, high)); n != want || e != we {
				t.Errorf("wrong is %d at %d: Reap = %d, %d", i, at, n, e)
			}
			w.x.Drop()
		}
	}
}

// P10.1: labels that there are none of, tables of nodes that aren't right, disks that end too soon; in Reap and Need just as in Alive.
func TestAliveErrors(t *testing.T) {
	w := begun(t)
	of := w.multi(t, left)
	own := w.make(t, high, api.KDir)
	geo, _ := w.c.Geo(left)
	bs := w.d.Image()
	block, at, _ := node.Place(geo, int(of.Num))
	bs[block][at] = 6 // of no kind
	bad := onto(t, bs)
	for _, x := range []struct {
		w    world
		of   api.Ino
		want api.Errno
	}{
		{w, api.Ino{Lab: labels, Num: of.Num, Gen: of.Gen}, api.ErrRange},
		{w, api.Ino{Lab: labels, Num: 65535}, api.ErrRange},
		{w, api.Ino{Lab: 255, Num: 1}, api.ErrRange},
		{bad, of, api.ErrForm},
		{bad, api.Ino{Lab: left, Num: of.Num, Gen: 9}, api.ErrForm},
	} {
		if is, e := inst.Alive(x.w.x, x.w.c, x.of); is || e != x.want {
			t.Errorf("Alive(%v) = %v, %d, wanted %d", x.of, is, e, x.want)
		}
		x.w.lay(t, high, packed([]inst.Record{{}, {Of: x.of, Own: uint16(own)}}))
		if n, e := inst.Reap(x.w.x, x.w.c, x.w.open(t, high)); n != 0 || e != x.want {
			t.Errorf("Reap of %v = %d, %d, wanted %d", x.of, n, e, x.want)
		}
		if n, e := inst.Need(x.w.x, x.w.c, x.w.open(t, high), api.Ino{Num: 5}); n != 0 || e != x.want {
			t.Errorf("Need beside %v = %d, %d, wanted %d", x.of, n, e, x.want)
		}
		if x.w.x.Len() > 0 {
			t.Error("what failed put something")
		}
	}
	short := onto(t, w.d.Image()[:block])
	if is, e := inst.Alive(short.x, short.c, of); is || e != api.ErrRange {
		t.Errorf("Alive on a short disk = %v, %d", is, e)
	}
	for _, none := range []api.Ino{{Lab: left}, {Lab: left, Num: 129}} { // no node is read for these
		if is, e := inst.Alive(short.x, short.c, none); is || e != api.OK {
			t.Errorf("Alive(%v) on a short disk = %v, %d", none, is, e)
		}
	}
	if is, e := inst.Alive(bad.x, bad.c, api.Ino{Lab: left}); is || e != api.OK {
		t.Errorf("Alive of number 0 = %v, %d", is, e)
	}
}

// P10.1, P10.2: what can't be a record doesn't make a table that isn't right: of the root, or of a number 0, there is none.
func TestNeedNone(t *testing.T) {
	w := begun(t)
	for _, of := range []api.Ino{{}, {Gen: 1}, {Lab: 3}, {Lab: 255, Gen: 65535}} {
		for range 2 {
			if n, e := inst.Need(w.x, w.c, w.open(t, high), of); n != 0 || e != api.ErrForm {
				t.Errorf("Need(%v) = %d, %d", of, n, e)
			}
			w.x.Drop()
		}
	}
	bare := onto(t, nil) // nodes that are always there aren't: none of them becomes an own directory
	bare.set(t, high, inst.Table, api.Node{Kind: api.KFile, Links: 1, Gen: 1})
	if n, e := inst.Need(bare.x, bare.c, bare.open(t, high), api.Ino{Num: 4, Gen: 1}); n != 0 || e != api.ErrForm {
		t.Errorf("Need = %d, %d", n, e)
	}
}

// P1, R7: nil, what nobody opened, a transaction that nobody began; told ahead of all others, also where there would be nothing to do.
func TestNil(t *testing.T) {
	w := begun(t)
	of := w.multi(t, low)
	w.need(t, high, of)
	g := w.open(t, high)
	for _, c := range calls(of) {
		if e, nothing := c.do(w.x, w.c, nil); e != api.ErrNil || !nothing {
			t.Errorf("%s of no group = %d", c.name, e)
		}
		if e, nothing := c.do(nil, nil, nil); e != api.ErrNil || !nothing {
			t.Errorf("%s of nothing = %d", c.name, e)
		}
		if e, nothing := c.do(w.x, w.c, new(group.Group)); e != api.ErrRange || !nothing {
			t.Errorf("%s of a group that nobody opened = %d", c.name, e)
		}
		dead, _ := group.Open(new(wal.Txn), w.c, high)
		if e, nothing := c.do(new(wal.Txn), w.c, dead); e != api.ErrNil || !nothing {
			t.Errorf("%s of a transaction that nobody began = %d", c.name, e)
		}
	}
	for _, x := range append(oddInos(), of) {
		for _, y := range []struct {
			t *wal.Txn
			c *conf.Conf
		}{{nil, nil}, {nil, w.c}, {w.x, nil}} {
			if is, e := inst.Alive(y.t, y.c, x); is || e != api.ErrNil {
				t.Errorf("Alive(%v) of nil = %v, %d", x, is, e)
			}
			if n, e := inst.Need(y.t, y.c, g, x); n != 0 || e != api.ErrNil {
				t.Errorf("Need(%v) of nil = %d, %d", x, n, e)
			}
			for _, h := range []*group.Group{g, w.open(t, left)} { // with a record, and with none
				if n, e := inst.Reap(y.t, y.c, h); n != 0 || e != api.ErrNil {
					t.Errorf("Reap of nil = %d, %d", n, e)
				}
			}
		}
		if is, e := inst.Alive(w.x, new(conf.Conf), x); is || e != api.ErrRange {
			t.Errorf("Alive(%v) of no labels = %v, %d", x, is, e)
		}
		if is, e := inst.Alive(new(wal.Txn), w.c, of); is || e != api.ErrNil {
			t.Errorf("Alive(%v) of a transaction that nobody began = %v, %d", x, is, e)
		}
	}
	if w.x.Len() > 0 {
		t.Error("what failed put something")
	}
}

// P10.2: the transaction's errors: one block too many; what only looks doesn't mind.
func TestMany(t *testing.T) {
	w := begun(t)
	all := w.multis(t, low, 4)
	recs := w.needs(t, high, all[:3])
	w.end(t, all[0])
	side := w.open(t, left)
	load := func(many int) {
		w.x.Drop()
		for p := uint16(1); w.x.Len() < many; p++ {
			side.Put(p, api.Block{1})
		}
	}
	for _, x := range []struct {
		name string
		puts int
		do   func(g *group.Group) api.Errno
	}{
		{"Reap", 2, func(g *group.Group) api.Errno { _, e := inst.Reap(w.x, w.c, g); return e }}, // the node, the table
		{"Need", 2, func(g *group.Group) api.Errno { _, e := inst.Need(w.x, w.c, g, all[3]); return e }},
		{"Drop", 2, func(g *group.Group) api.Errno { return inst.Drop(g, all[1]) }},
	} {
		for room := range 3 {
			load(30 - room)
			want := api.ErrMany
			if room >= x.puts {
				want = api.OK
			}
			if e := x.do(w.open(t, high)); e != want {
				t.Errorf("%s with room for %d = %d, wanted %d", x.name, room, e, want)
			}
		}
	}
	load(30)
	w.has(t, high, recs...)
	if is, e := inst.Alive(w.x, w.c, all[1]); !is || e != api.OK {
		t.Errorf("Alive = %v, %d", is, e)
	}
	if n, e := inst.Need(w.x, w.c, w.open(t, high), all[1]); n != int(recs[1].Own) || e != api.OK {
		t.Errorf("Need of what is there = %d, %d", n, e)
	}
	if e := w.x.Commit(); e != api.OK {
		t.Errorf("Commit = %d", e)
	}
}

// P10.2: four that are reaped, and one that is made, have room in a transaction, wherever they stand.
func TestPuts(t *testing.T) {
	w := begun(t)
	all := w.multis(t, left, 60)
	recs := w.needs(t, left, all) // own directories from 64 on, eight records a block
	w.end(t, all[0], all[16], all[32], all[48], all[59])
	of := w.multi(t, low)
	own, e := inst.Need(w.x, w.c, w.open(t, left), of)
	if own != 4 || e != api.OK || w.x.Len() != 4+1+4 { // of nodes that go, of the one that comes, of the table
		t.Errorf("Need = %d, %d, puts %v", own, e, w.x.Blocks())
	}
	w.commit(t)
	want := without(recs, 0, 16, 32, 48)
	want[0] = inst.Record{Of: of, Own: uint16(own)}
	w.has(t, left, want...)
}

// wild: tables and nodes as they may never be, but that some of them can be read.
func wild(t *testing.T, r *rand.Rand) world {
	t.Helper()
	w := begun(t)
	bs := w.d.Image()
	for lab := range labels {
		geo, _ := w.c.Geo(lab)
		for i := range geo.Bitmap {
			r.Read(bs[geo.Base+i][:])
		}
		few := func() uint16 {
			return []uint16{0, 1, 2, 3, uint16(r.Intn(geo.Nodes + 2)), uint16(r.Intn(geo.Nodes + 2)), uint16(r.Intn(geo.Blocks + 2)), 65535}[r.Intn(8)]
		}
		for i := range geo.Blocks {
			b := &bs[geo.Data+i]
			*b = api.Block{}
			if r.Intn(3) == 0 { // of a directory
				x := dir.Pack(api.Entry{Name: "x", Num: few() | 1})
				copy(b[16*r.Intn(4):], x[:])
				continue
			}
			for j := range 8 {
				if r.Intn(3) == 0 {
					x := bytesOf(rec(uint8(r.Intn(labels+r.Intn(2))), few()%16+1, uint16(r.Intn(2)), few()%16+4))
					copy(b[8*j:], x[:])
				}
			}
			if r.Intn(8) == 0 {
				r.Read(b[:r.Intn(20)])
			}
		}
		for num := 1; num <= geo.Nodes; num++ {
			n := api.Node{Kind: api.Kind(r.Intn(6)), Links: 1, Gen: uint16(r.Intn(2)), Size: uint32(r.Intn(12)) * 16, Single: few(), Double: few()}
			for i := range n.Direct {
				n.Direct[i] = few()
			}
			switch {
			case num == inst.Table && r.Intn(9) > 0:
				n.Kind = api.KFile
			case n.Kind == api.KDir:
				n.Size = uint32(r.Intn(3)) * 32
			case n.Kind == api.KMulti || n.Kind == api.KFifo:
				n.Size = 0
			case n.Kind == api.KFree:
				n = api.Node{Gen: n.Gen}
			case n.Kind == api.KLink:
				n.Size = 9
			}
			b := node.Encode(n)
			copy(bs[geo.Base+geo.Bitmap+(num-1)/2][(num-1)%2*32:], b[:])
		}
	}
	return onto(t, bs)
}

// P1, R3: on disks that aren't right every call ends, none panics, and beside an error there is nothing.
func TestWild(t *testing.T) {
	r := rand.New(rand.NewSource(103))
	seen := map[api.Errno]int{}
	for range 600 {
		w := wild(t, r)
		for lab := range labels {
			g := w.open(t, lab)
			var of []api.Ino
			if l, e := inst.List(g); e == api.OK {
				for _, x := range l {
					of = append(of, x.Of)
				}
			}
			for _, c := range calls(of...) {
				e, nothing := c.do(w.x, w.c, g)
				if e != api.OK && !nothing {
					t.Fatalf("%q of %d = %d, and something", c.name, lab, e)
				}
				seen[e]++
				w.x.Drop()
			}
			for _, x := range append(of, oddInos()...) {
				if is, e := inst.Alive(w.x, w.c, x); e != api.OK && is {
					t.Fatalf("Alive(%v) = %d, and true", x, e)
				}
			}
		}
	}
	for _, e := range []api.Errno{api.OK, api.ErrNone, api.ErrNotDir, api.ErrStale, api.ErrNotEmpty, api.ErrRange, api.ErrForm} {
		if seen[e] < 20 {
			t.Errorf("the disks are one-sided: just %d answers of error %d", seen[e], e)
		}
	}
}

// P2, R6: a list is its caller's.
func TestAnswersAreNew(t *testing.T) {
	w := begun(t)
	recs := w.needs(t, high, w.multis(t, low, 4))
	g := w.open(t, high)
	a, _ := inst.List(g)
	b, _ := inst.List(g)
	for i := range a {
		a[i] = rec(9, 9, 9, 9)
	}
	if a = append(a, rec(8, 8, 8, 8)); len(a) != 5 || !slices.Equal(b, recs) {
		t.Errorf("two lists share: %v", b)
	}
	w.has(t, high, recs...)
}

// P2, R8: nothing is kept but in the transaction: another hand sees what one does; another transaction doesn't, till Commit; behind Drop all is as it was.
func TestKeepsNothing(t *testing.T) {
	w := begun(t)
	all := w.multis(t, low, 3)
	recs := w.needs(t, high, all[:2])
	a, b := w.open(t, high), w.open(t, high)
	other := w.l.Begin()
	far, _ := group.Open(other, w.c, high)
	own, e := inst.Need(w.x, w.c, a, all[2])
	if e != api.OK {
		t.Fatalf("Need = %d", e)
	}
	if n, e := inst.Find(b, all[2]); n != own || e != api.OK {
		t.Errorf("Find of another hand = %d, %d", n, e)
	}
	if n, e := inst.Find(far, all[2]); n != 0 || e != api.OK {
		t.Errorf("Find of another transaction = %d, %d", n, e)
	}
	w.x.Drop()
	w.has(t, high, recs...)
	if e := inst.Drop(b, all[0]); e != api.OK {
		t.Fatalf("Drop = %d", e)
	}
	w.commit(t)
	if n, e := inst.Find(far, all[0]); n != 0 || e != api.OK {
		t.Errorf("Find behind Commit = %d, %d", n, e)
	}
	w.d.Arm(0)
	if _, e := inst.Need(w.x, w.c, a, all[2]); e != api.OK || w.x.Commit() != api.ErrDead {
		t.Errorf("Need on a disk that lets none through = %d, or Commit isn't %d", e, api.ErrDead)
	}
	w.x.Drop()
	w.has(t, high, without(recs, 0)...) // one that has stopped can be read
}

// state: what a label's group has of its table and of the nodes of the directories, as far as it can be asked.
func (w world) state(t *testing.T, lab int) string {
	t.Helper()
	g := w.open(t, lab)
	l, e := inst.List(g)
	b, n, f := g.Usage()
	out := fmt.Sprint(l, e, b, n, f)
	for _, r := range l {
		is, e := dir.Empty(g, int(r.Own))
		out += fmt.Sprint(is, e)
	}
	return out
}

// P5: wherever the disk stops while a change is committed, the table and its directories are as ahead of it, or as behind it.
func TestStops(t *testing.T) {
	base := begun(t)
	all := base.multis(t, left, 9)
	base.needs(t, high, all[:8])
	base.end(t, all[1], all[3], all[5])
	for i, change := range []func(x *wal.Txn, c *conf.Conf, g *group.Group) api.Errno{
		func(x *wal.Txn, c *conf.Conf, g *group.Group) api.Errno {
			_, e := inst.Need(x, c, g, all[8])
			return e
		},
		func(x *wal.Txn, c *conf.Conf, g *group.Group) api.Errno { _, e := inst.Reap(x, c, g); return e },
		func(_ *wal.Txn, _ *conf.Conf, g *group.Group) api.Errno { return inst.Drop(g, all[7]) },
	} {
		before := onto(t, base.d.Image()).state(t, high)
		whole := onto(t, base.d.Image())
		if e := change(whole.x, whole.c, whole.open(t, high)); e != api.OK {
			t.Fatalf("change %d = %d", i, e)
		}
		whole.commit(t)
		now := whole.state(t, high)
		done := false
		for writes := 0; !done; writes++ {
			w := onto(t, base.d.Image())
			if e := change(w.x, w.c, w.open(t, high)); e != api.OK {
				t.Fatalf("change %d = %d", i, e)
			}
			w.d.Arm(writes)
			done = w.x.Commit() == api.OK
			w.d.Wake()
			n, e := w.l.Recover()
			if e != api.OK {
				t.Fatalf("Recover = %d", e)
			}
			w.x = w.l.Begin()
			want := before
			if n > 0 || done { // the log's head was written: it is done
				want = now
			}
			if s := w.state(t, high); s != want {
				t.Errorf("change %d, stopped behind %d: %s, wanted %s", i, writes, s, want)
			}
		}
	}
}
