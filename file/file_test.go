package file_test

import (
	"bytes"
	"math"
	"math/rand"
	"slices"
	"testing"

	"garrison/api"
	"garrison/conf"
	"garrison/disk"
	"garrison/file"
	"garrison/group"
	"garrison/node"
	"garrison/wal"
)

// three: a configuration of a small, a great and a middling group.
const three = `
label low 0 blocks 12 nodes 8 frames 1 procs 1 opens 1 clear low
label mid 1:2 blocks 512 nodes 32 frames 4 procs 2 opens 3 clear mid
label high 2:2,3 blocks 60 nodes 16 frames 4 procs 2 opens 3 clear high
`

// The labels of three.
const (
	low = iota
	mid
	high
)

// most: how long a file may be.
const most = 16384

// world is a disk of three, its log at block 1, and a transaction.
type world struct {
	c *conf.Conf
	d *disk.Disk
	l *wal.Log
	x *wal.Txn
}

// onto: of these blocks; nil: of noughts.
func onto(t *testing.T, bs []api.Block) world {
	t.Helper()
	c, line, e := conf.Parse(three)
	if e != api.OK {
		t.Fatalf("Parse = %d, %d", line, e)
	}
	if bs == nil {
		bs = make([]api.Block, c.Total())
	}
	d, e := disk.Of(bs)
	if e != api.OK {
		t.Fatalf("Of = %d", e)
	}
	l, e := wal.Open(d, 1)
	if e != api.OK || l.Format() != api.OK {
		t.Fatalf("Open = %d", e)
	}
	return world{c, d, l, l.Begin()}
}

// noisy: a disk whose data blocks are of noise, as if all had been others'.
func noisy(t *testing.T) world {
	t.Helper()
	r := rand.New(rand.NewSource(8))
	bs := onto(t, nil).d.Image()
	for lab := range 3 {
		geo, _ := onto(t, nil).c.Geo(lab)
		for i := range geo.Blocks {
			r.Read(bs[geo.Data+i][:])
		}
	}
	return onto(t, bs)
}

// open: a label's group.
func (w world) open(t *testing.T, lab int) *group.Group {
	t.Helper()
	g, e := group.Open(w.x, w.c, lab)
	if e != api.OK {
		t.Fatalf("Open of %d = %d", lab, e)
	}
	return g
}

// commit: what was done is on the disk.
func (w world) commit(t *testing.T) {
	t.Helper()
	if e := w.x.Commit(); e != api.OK {
		t.Fatalf("Commit = %d", e)
	}
}

// text: bytes of which no two parts of a block's length are the same, none of them 0.
func text(seed int64, many int) []byte {
	r := rand.New(rand.NewSource(seed))
	b := make([]byte, many)
	for i := range b {
		b[i] = byte(1 + r.Intn(255))
	}
	return b
}

// grow: bytes behind a file's end, committed part by part, as a transaction has room for few blocks.
func (w world) grow(t *testing.T, lab, num int, b []byte) {
	t.Helper()
	g := w.open(t, lab)
	n, _ := g.Node(num)
	for at := 0; at < len(b); at += 1000 {
		if e := file.Write(g, num, int(n.Size)+at, b[at:min(at+1000, len(b))]); e != api.OK {
			t.Fatalf("Write at %d = %d", int(n.Size)+at, e)
		}
		w.commit(t)
	}
}

// make: a new file of these bytes, on the disk: its number.
func (w world) make(t *testing.T, lab int, b []byte) int {
	t.Helper()
	num, e := w.open(t, lab).Make(api.KFile)
	if e != api.OK {
		t.Fatalf("Make = %d", e)
	}
	w.commit(t)
	w.grow(t, lab, num, b)
	return num
}

// nodeOf: a node that has to be there.
func nodeOf(t *testing.T, g *group.Group, num int) api.Node {
	t.Helper()
	n, e := g.Node(num)
	if e != api.OK {
		t.Fatalf("Node(%d) = %d", num, e)
	}
	return n
}

// holds: does a file have just these bytes?
func holds(t *testing.T, g *group.Group, num int, want []byte) {
	t.Helper()
	if n := nodeOf(t, g, num); int(n.Size) != len(want) {
		t.Fatalf("node %d is %d long, wanted %d", num, n.Size, len(want))
	}
	if got, e := file.Read(g, num, 0, most+1); !bytes.Equal(got, want) || e != api.OK {
		t.Fatalf("Read(%d) = %d bytes, %d, or others than wanted", num, len(got), e)
	}
}

// row: the numbers of a block of pointers.
func row(t *testing.T, g *group.Group, p uint16) []uint16 {
	t.Helper()
	b, e := g.Get(p)
	if e != api.OK {
		t.Fatalf("Get(%d) = %d", p, e)
	}
	out := make([]uint16, 32)
	for i := range out {
		out[i] = uint16(b[2*i]) + 256*uint16(b[2*i+1])
	}
	return out
}

// ways: all that a node points to: 6, 32, and 32 times 32 data blocks, and its blocks of pointers; 0 where there is none.
func ways(t *testing.T, g *group.Group, n api.Node) (data, pointers []uint16) {
	t.Helper()
	under := func(p uint16) {
		pointers = append(pointers, p)
		if p == 0 {
			data = append(data, make([]uint16, 32)...)
			return
		}
		data = append(data, row(t, g, p)...)
	}
	data = append(data, n.Direct[:]...)
	under(n.Single)
	pointers = append(pointers, n.Double)
	for i := range 32 {
		if n.Double == 0 {
			under(0)
			continue
		}
		under(row(t, g, n.Double)[i])
	}
	return data, pointers
}

// right: is a group right? Each node's blocks are as many as its length asks, no way leads beyond them, behind the end are noughts; each is of one node; just their bits are set.
func right(t *testing.T, g *group.Group, blocks, nodes int) {
	t.Helper()
	owner := map[uint16]int{}
	for num := 1; num <= nodes; num++ {
		n := nodeOf(t, g, num)
		many, more := node.Spread(int(n.Size))
		data, pointers := ways(t, g, n)
		for i, p := range data {
			if (p > 0) != (i < many) {
				t.Fatalf("node %d, %d long: its data block %d is %d", num, n.Size, i, p)
			}
		}
		for i, p := range pointers {
			if (p > 0) != (i < more) {
				t.Fatalf("node %d, %d long: its block of pointers %d is %d", num, n.Size, i, p)
			}
		}
		for _, p := range slices.Concat(data[:many], pointers[:more]) {
			if other, ok := owner[p]; ok {
				t.Fatalf("block %d is of nodes %d and %d", p, other, num)
			}
			owner[p] = num
		}
		if end := int(n.Size) % 64; end > 0 {
			b, e := g.Get(data[many-1])
			if e != api.OK || !bytes.Equal(b[end:], make([]byte, 64-end)) {
				t.Fatalf("node %d, %d long: behind its end %v, %d", num, n.Size, b[end:], e)
			}
		}
	}
	if used, _, e := g.Usage(); used != len(owner) || e != api.OK {
		t.Fatalf("Usage = %d, %d, wanted %d", used, e, len(owner))
	}
	for p := range owner { // as many bits are set as blocks are had: just theirs, if none of theirs lacks
		if e := g.Give(p); e != api.OK {
			t.Fatalf("Give(%d), a block of node %d, = %d", p, owner[p], e)
		}
	}
}

// allRight: are all groups, as they are on the disk?
func (w world) allRight(t *testing.T) {
	t.Helper()
	w.commit(t)
	x := w.l.Begin() // right gives their blocks, in a transaction that isn't committed
	for lab := range 3 {
		g, e := group.Open(x, w.c, lab)
		if e != api.OK {
			t.Fatalf("Open = %d", e)
		}
		geo, _ := w.c.Geo(lab)
		right(t, g, geo.Blocks, geo.Nodes)
		x.Drop()
	}
}

// lengths: the edges: of blocks, of the ways to them, of a file.
func lengths() []int {
	var out []int
	for _, blocks := range []int{0, 1, 2, 5, 6, 7, 37, 38, 39, 69, 70, 71, 101, 102, 103, 134, 135, 230, 231, 255, 256} {
		for _, more := range []int{-63, -1, 0, 1, 30} {
			if n := blocks*64 + more; n >= 0 && n <= most {
				out = append(out, n)
			}
		}
	}
	return out
}

// oddInts: numbers that nothing has.
func oddInts() []int {
	return []int{-1, -2, -64, -65536, 65536, 1 << 32, 1<<32 + 1, -1 << 32, math.MinInt, math.MinInt + 1, math.MaxInt - 1, math.MaxInt}
}

// model is what the files of a group should hold, by their nodes' numbers.
type model map[int][]byte

// act does one thing or another to a file, and to what it should hold.
func act(t *testing.T, r *rand.Rand, g *group.Group, m model, nodes int) {
	t.Helper()
	num := 1 + r.Intn(nodes)
	old, ok := m[num]
	if !ok {
		made, e := g.Make(api.KFile)
		if _, was := m[made]; was || e != api.OK {
			t.Fatalf("Make = %d, %d", made, e)
		}
		m[made] = nil
		return
	}
	switch r.Intn(12) {
	case 0:
		if e := file.Remove(g, num); e != api.OK {
			t.Fatalf("Remove = %d", e)
		}
		delete(m, num)
	case 1, 2:
		size := r.Intn(len(old) + 1)
		if e := file.Cut(g, num, size); e != api.OK {
			t.Fatalf("Cut of %d to %d = %d", len(old), size, e)
		}
		m[num] = old[:size:size]
	case 3, 4, 5:
		change(t, r, g, m, num, r.Intn(len(old)+1))
	default:
		change(t, r, g, m, num, len(old))
	}
}

// change: bytes are written, from off on.
func change(t *testing.T, r *rand.Rand, g *group.Group, m model, num, off int) {
	t.Helper()
	old, b := m[num], text(r.Int63(), r.Intn(700))
	e := file.Write(g, num, off, b)
	if off+len(b) > most {
		if e != api.ErrBig {
			t.Fatalf("Write of %d at %d = %d", len(b), off, e)
		}
		return
	}
	if e != api.OK {
		t.Fatalf("Write of %d at %d, of %d, = %d", len(b), off, len(old), e)
	}
	now := slices.Concat(old[:off], b)
	if len(now) < len(old) {
		now = append(now, old[len(now):]...)
	}
	m[num] = now
}

// P8.1, P8.2: anything in any order: each file holds what it should, and its group is right.
func TestAnything(t *testing.T) {
	r := rand.New(rand.NewSource(81))
	w := noisy(t)
	m := model{}
	for i := range 3000 {
		act(t, r, w.open(t, mid), m, 4) // of few files each may come to be long
		if w.x.Len() > 14 {
			w.commit(t)
		}
		long := 0
		for _, b := range m {
			long += len(b)
		}
		if long > 28000 { // or the group may be full
			w.commit(t)
			for num := range m {
				file.Cut(w.open(t, mid), num, 0)
				m[num] = nil
				w.commit(t)
			}
		}
		if i%60 > 0 {
			continue
		}
		for num, b := range m {
			holds(t, w.open(t, mid), num, b)
		}
		w.allRight(t)
	}
}

// P5: wherever the disk stops while a change is committed, the file is as ahead of it, or as behind it, and all is right.
func TestStops(t *testing.T) {
	base := noisy(t)
	num := base.make(t, mid, text(1, 2600))
	other := base.make(t, mid, text(2, 500))
	was := text(1, 2600)
	for _, change := range []struct {
		do  func(g *group.Group) api.Errno
		now []byte
	}{
		{func(g *group.Group) api.Errno { return file.Write(g, num, 2600, text(3, 700)) }, slices.Concat(was, text(3, 700))},
		{func(g *group.Group) api.Errno { return file.Write(g, num, 300, text(4, 300)) }, slices.Concat(was[:300], text(4, 300), was[600:])},
		{func(g *group.Group) api.Errno { return file.Cut(g, num, 2401) }, was[:2401]},
		{func(g *group.Group) api.Errno { return file.Cut(g, num, 0) }, nil},
	} {
		done := false
		for writes := 0; !done; writes++ {
			w := onto(t, base.d.Image())
			if e := change.do(w.open(t, mid)); e != api.OK {
				t.Fatalf("the change = %d", e)
			}
			w.d.Arm(writes)
			done = w.x.Commit() == api.OK
			w.d.Wake()
			if _, e := w.l.Recover(); e != api.OK {
				t.Fatalf("Recover = %d", e)
			}
			w.x = w.l.Begin()
			if got, _ := file.Read(w.open(t, mid), num, 0, most); !bytes.Equal(got, was) && !bytes.Equal(got, change.now) || done && !bytes.Equal(got, change.now) {
				t.Fatalf("a stop behind %d writes: neither as it was nor as it was to be", writes)
			}
			holds(t, w.open(t, mid), other, text(2, 500))
			w.allRight(t)
		}
	}
}

// P2, R8: nothing is kept but in the transaction: another hand sees what one does; another transaction doesn't, till Commit; behind Drop all is as it was.
func TestKeepsNothing(t *testing.T) {
	w := noisy(t)
	num := w.make(t, high, text(1, 450))
	a, b := w.open(t, high), w.open(t, high)
	other, _ := group.Open(w.l.Begin(), w.c, high)
	if e := file.Write(a, num, 440, text(2, 100)); e != api.OK {
		t.Fatalf("Write = %d", e)
	}
	now := slices.Concat(text(1, 450)[:440], text(2, 100))
	holds(t, b, num, now)
	holds(t, other, num, text(1, 450))
	if e := file.Cut(b, num, 100); e != api.OK {
		t.Fatalf("Cut = %d", e)
	}
	holds(t, a, num, now[:100])
	w.x.Drop()
	holds(t, a, num, text(1, 450))
	if e := file.Write(a, num, 0, text(3, 64)); e != api.OK {
		t.Fatalf("Write = %d", e)
	}
	w.commit(t)
	holds(t, other, num, slices.Concat(text(3, 64), text(1, 450)[64:]))
	w.d.Arm(0)
	if e := file.Write(a, num, 0, text(4, 64)); e != api.OK || w.x.Commit() != api.ErrDead {
		t.Errorf("Write on a disk that lets none through = %d, or Commit isn't %d", e, api.ErrDead)
	}
	w.x.Drop()
	holds(t, a, num, slices.Concat(text(3, 64), text(1, 450)[64:])) // one that has stopped can be read
}

// P1, R7: nil, what nobody opened, and a transaction that nobody began, at all numbers.
func TestNil(t *testing.T) {
	c := noisy(t).c
	dead, _ := group.Open(new(wal.Txn), c, high)
	full := api.Node{Kind: api.KFile, Links: 1, Size: 16384, Direct: [6]uint16{1, 2, 3, 4, 5, 6}, Single: 7, Double: 8}
	for _, x := range []struct {
		g         *group.Group
		one, none api.Errno // of a number that a node may have, and of others
	}{{nil, api.ErrNil, api.ErrNil}, {new(group.Group), api.ErrRange, api.ErrRange}, {dead, api.ErrNil, api.ErrRange}} {
		for _, num := range append(oddInts(), 0, 1, 2, 16, 17) {
			want := x.none
			if num >= 1 && num <= 16 {
				want = x.one
			}
			for _, n := range append(oddInts(), 0, 1, 16384, 16385) {
				if b, e := file.Read(x.g, num, n, 5); len(b) > 0 || e != want {
					t.Errorf("Read(%d, %d) = %v, %d, wanted %d", num, n, b, e, want)
				}
				if b, e := file.Read(x.g, num, 5, n); len(b) > 0 || e != want {
					t.Errorf("Read(%d, 5, %d) = %v, %d, wanted %d", num, n, b, e, want)
				}
				if e := file.Write(x.g, num, n, []byte("a")); e != want {
					t.Errorf("Write(%d, %d) = %d, wanted %d", num, n, e, want)
				}
				if e := file.Cut(x.g, num, n); e != want {
					t.Errorf("Cut(%d, %d) = %d, wanted %d", num, n, e, want)
				}
			}
			if e := file.Write(x.g, num, 0, make([]byte, most+1)); e != want {
				t.Errorf("Write(%d) = %d, wanted %d", num, e, want)
			}
			if e := file.Remove(x.g, num); e != want {
				t.Errorf("Remove(%d) = %d, wanted %d", num, e, want)
			}
		}
		for _, i := range []int{6, 37, 38, 255} {
			if p, e := file.Block(x.g, full, i); p != 0 || e != x.one {
				t.Errorf("Block(%d) = %d, %d, wanted %d", i, p, e, x.one)
			}
		}
		if d, p, e := file.Blocks(x.g, full); len(d)+len(p) > 0 || e != x.one {
			t.Errorf("Blocks = %v, %v, %d, wanted %d", d, p, e, x.one)
		}
	}
	for _, n := range []api.Node{{}, full} {
		if d, p, e := file.Blocks(nil, n); len(d)+len(p) > 0 || e != api.ErrNil {
			t.Errorf("Blocks of nil = %v, %v, %d", d, p, e)
		}
		for _, i := range append(oddInts(), 0, 1, 200, 256) {
			if p, e := file.Block(nil, n, i); p != 0 || e != api.ErrNil {
				t.Errorf("Block(%d) of nil = %d, %d", i, p, e)
			}
		}
	}
}

// wild: a table and data blocks as they may never be, but that the nodes can be read.
func wild(t *testing.T, r *rand.Rand) world {
	t.Helper()
	w := noisy(t)
	bs := w.d.Image()
	geo, _ := w.c.Geo(high)
	r.Read(bs[geo.Base][:])
	some := func() uint16 { return []uint16{0, 0, 1, 2, uint16(r.Intn(62)), uint16(r.Intn(62)), 65535}[r.Intn(7)] }
	for i := range geo.Blocks {
		for j := range 32 {
			p := some()
			bs[geo.Data+i][2*j], bs[geo.Data+i][2*j+1] = byte(p), byte(p>>8)
		}
	}
	for num := 1; num <= geo.Nodes; num++ {
		n := api.Node{Kind: api.Kind(1 + r.Intn(2)), Links: 1, Size: uint32(r.Intn(1025)) * 16, Single: some(), Double: some()}
		if r.Intn(4) == 0 {
			n.Kind, n.Size = api.KLink, uint32(1+r.Intn(60))
		}
		for i := range n.Direct {
			n.Direct[i] = some()
		}
		b := node.Encode(n)
		copy(bs[geo.Base+1+(num-1)/2][(num-1)%2*32:], b[:])
	}
	return onto(t, bs)
}

// P1, R3: on disks that aren't right every call ends, none panics, and beside an error there is nothing.
func TestWild(t *testing.T) {
	r := rand.New(rand.NewSource(82))
	for range 300 {
		w := wild(t, r)
		for num := 1; num <= 16; num++ {
			g := w.open(t, high)
			n := nodeOf(t, g, num)
			for i := range 256 {
				if p, e := file.Block(g, n, i); e != api.OK && p != 0 {
					t.Fatalf("Block(%v, %d) = %d, %d", n, i, p, e)
				}
			}
			if d, p, e := file.Blocks(g, n); e != api.OK && len(d)+len(p) > 0 || len(d) > 1062 || len(p) > 34 {
				t.Fatalf("Blocks(%v) = %v, %v, %d", n, d, p, e)
			}
			if b, e := file.Read(g, num, r.Intn(2000), r.Intn(2000)); e != api.OK && len(b) > 0 {
				t.Fatalf("Read of %v = %v, %d", n, b, e)
			}
			file.Write(g, num, r.Intn(int(n.Size)+1), text(1, r.Intn(2000)))
			file.Cut(g, num, r.Intn(int(n.Size)+1))
			file.Remove(g, num)
			w.x.Drop()
		}
	}
}

// The chapter's example.
func TestExample(t *testing.T) {
	w := noisy(t)
	g := w.open(t, low)
	num, _ := g.Make(api.KFile)
	if e := file.Write(g, num, 0, text(1, 400)); e != api.OK {
		t.Fatalf("Write = %d", e)
	}
	d, p, e := file.Blocks(g, nodeOf(t, g, num))
	if len(d) != 7 || len(p) != 1 || e != api.OK {
		t.Errorf("Blocks = %v, %v, %d", d, p, e)
	}
}
