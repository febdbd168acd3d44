package node_test

import (
	"math"
	"math/rand"
	"slices"
	"testing"

	"garrison/api"
	"garrison/conf"
	"garrison/disk"
	"garrison/node"
	"garrison/wal"
)

// logLen: a log's blocks, its head included; the logs of these tests begin at block 0.
const logLen = 31

// begin: a log of a disk, and a transaction of it.
func begin(t *testing.T, d *disk.Disk, first int) (*wal.Log, *wal.Txn) {
	t.Helper()
	l, e := wal.Open(d, first)
	if e != api.OK {
		t.Fatalf("Open = %d", e)
	}
	if e := l.Format(); e != api.OK {
		t.Fatalf("Format = %d", e)
	}
	return l, l.Begin()
}

// onto: a disk of a log and these blocks behind it (the first of them is block 31), and a transaction of it.
func onto(t *testing.T, bs []api.Block) (*disk.Disk, *wal.Log, *wal.Txn) {
	t.Helper()
	d, e := disk.Of(append(make([]api.Block, logLen), bs...))
	if e != api.OK {
		t.Fatalf("Of = %d", e)
	}
	l, x := begin(t, d, 0)
	return d, l, x
}

// noise: n blocks of bytes that differ, in the same way each time.
func noise(n int) []api.Block {
	r := rand.New(rand.NewSource(int64(n)))
	bs := make([]api.Block, n)
	for i := range bs {
		r.Read(bs[i][:])
	}
	return bs
}

// file: a node that is right, of a number of its own.
func file(n int) api.Node {
	return api.Node{Kind: api.KFile, Links: 1, Gen: uint16(n), Size: uint32(n % 16384), Direct: [6]uint16{uint16(n), 1}, Double: uint16(n)}
}

// tableAt: a group whose table of so many nodes begins at a block.
func tableAt(block, nodes int) conf.Geo {
	return conf.Geo{Base: block - 1, Bitmap: 1, Table: (nodes + 1) / 2, Data: block + (nodes+1)/2, Blocks: 40, Nodes: nodes}
}

// outOf: numbers that none of so many nodes has.
func outOf(nodes int) []int {
	return []int{0, -1, -2, nodes + 1, nodes + 2, nodes + 64, nodes + 65536, nodes + 1<<32, math.MinInt, math.MinInt + 1, math.MaxInt}
}

// P6.2: two a block, one by one.
func TestPlace(t *testing.T) {
	for _, g := range []conf.Geo{
		{Base: 32, Bitmap: 1, Table: 8, Data: 41, Blocks: 40, Nodes: 16},
		{Base: 32, Bitmap: 1, Nodes: 4},
		{Base: 1000, Bitmap: 1, Table: 64, Data: 1065, Blocks: 512, Nodes: 128},
		{Base: 60000, Bitmap: 3, Nodes: 7},
		{Bitmap: 5, Nodes: 1},
		{Nodes: 3},
		{Base: -5, Bitmap: 2, Nodes: 6},
		{Base: 7, Table: 99, Data: -3, Blocks: 1, Nodes: 1000},
	} {
		block, at := g.Base+g.Bitmap, 0
		for num := 1; num <= g.Nodes; num++ {
			if b, a, ok := node.Place(g, num); b != block || a != at || !ok {
				t.Fatalf("Place(%v, %d) = %d, %d, %v, wanted %d, %d", g, num, b, a, ok, block, at)
			}
			if at += 32; at == 64 {
				block, at = block+1, 0
			}
		}
		for _, num := range outOf(g.Nodes) {
			if b, a, ok := node.Place(g, num); b != 0 || a != 0 || ok {
				t.Errorf("Place(%v, %d) = %d, %d, %v", g, num, b, a, ok)
			}
		}
	}
}

// P6.2, P1: groups of no nodes, and such as are nowhere.
func TestPlaceNowhere(t *testing.T) {
	for _, nodes := range []int{0, -1, -16, math.MinInt} {
		g := conf.Geo{Base: 32, Bitmap: 1, Nodes: nodes}
		for _, num := range []int{0, 1, 2, -1, nodes, math.MaxInt, math.MinInt} {
			if b, a, ok := node.Place(g, num); b != 0 || a != 0 || ok {
				t.Errorf("Place(%v, %d) = %d, %d, %v", g, num, b, a, ok)
			}
		}
	}
	wide := conf.Geo{Base: 32, Bitmap: 1, Nodes: math.MaxInt}
	if b, a, ok := node.Place(wide, math.MaxInt); b != 33+1<<62-1 || a != 0 || !ok {
		t.Errorf("Place = %d, %d, %v", b, a, ok)
	}
	if b, a, ok := node.Place(wide, math.MaxInt-1); b != 33+1<<62-2 || a != 32 || !ok {
		t.Errorf("Place = %d, %d, %v", b, a, ok)
	}
}

// P6.2: groups as a configuration lays them: their nodes' blocks are their tables, one behind the other.
func TestPlaceConf(t *testing.T) {
	c, line, e := conf.Parse("label low 0 blocks 40 nodes 16 frames 4 procs 2 opens 3 clear low\nlabel mid 1 blocks 512 nodes 128 frames 4 procs 2 opens 3 clear mid\nlabel high 2 blocks 4 nodes 4 frames 1 procs 1 opens 1 clear high\n")
	if e != api.OK {
		t.Fatalf("Parse = %d, %d", line, e)
	}
	for lab := range 3 {
		g, _ := c.Geo(lab)
		if b, at, ok := node.Place(g, 1); b != g.Base+g.Bitmap || at != 0 || !ok {
			t.Errorf("Place of %d's first = %d, %d, %v", lab, b, at, ok)
		}
		if b, at, ok := node.Place(g, g.Nodes); b != g.Data-1 || at != 32 || !ok {
			t.Errorf("Place of %d's last = %d, %d, %v", lab, b, at, ok)
		}
	}
}

// P6.2: what stands in the table, two a block; wherever it begins.
func TestRead(t *testing.T) {
	bs := make([]api.Block, 12)
	for i := range 24 {
		x := node.Encode(file(1000 + i))
		copy(bs[i/2][i%2*32:], x[:])
	}
	d, _, x := onto(t, bs)
	_, w := d.Counts()
	for first := range 12 {
		g := tableAt(31+first, 24-2*first)
		for num := 1; num <= g.Nodes; num++ {
			want := file(1000 + 2*first + num - 1)
			if n, e := node.Read(x, g, num); n != want || e != api.OK {
				t.Errorf("Read(%v, %d) = %v, %d, wanted %v", g, num, n, e, want)
			}
		}
		for _, num := range outOf(g.Nodes) {
			if n, e := node.Read(x, g, num); n != (api.Node{}) || e != api.ErrRange {
				t.Errorf("Read(%v, %d) = %v, %d", g, num, n, e)
			}
		}
	}
	odd := tableAt(31, 5)
	if n, e := node.Read(x, odd, 6); n != (api.Node{}) || e != api.ErrRange {
		t.Errorf("Read of the other half of the last block = %v, %d", n, e)
	}
	if _, now := d.Counts(); now != w || x.Len() != 0 || !slices.Equal(d.Image()[31:], bs) {
		t.Error("Read wrote")
	}
}

// P6.2: Decode's errors: of the node that is meant, not of its neighbour.
func TestReadForm(t *testing.T) {
	right := node.Encode(file(9))
	for _, wrong := range [][32]byte{{31: 1}, {24: 1}, {1: 1}, {0: 6, 1: 1}, {0: 1}, {0: 4, 1: 1}, {0: 2, 1: 1, 4: 8}, {0: 1, 1: 1, 6: 1}} {
		var a, b api.Block
		copy(a[:32], wrong[:])
		copy(a[32:], right[:])
		copy(b[:32], right[:])
		copy(b[32:], wrong[:])
		_, _, x := onto(t, []api.Block{a, b})
		g := tableAt(31, 4)
		for num := 1; num <= 4; num++ {
			want, we := file(9), api.OK
			if num == 1 || num == 4 {
				want, we = api.Node{}, api.ErrForm
			}
			if n, e := node.Read(x, g, num); n != want || e != we {
				t.Errorf("%v: Read(%d) = %v, %d", wrong, num, n, e)
			}
		}
	}
}

// P6.2: the transaction's errors; that there is no such node is told first.
func TestReadErrors(t *testing.T) {
	_, _, x := onto(t, make([]api.Block, 2))
	g := tableAt(32, 6) // blocks 32 to 34, of 33
	for num := 1; num <= 6; num++ {
		want := api.OK
		if num > 2 {
			want = api.ErrRange
		}
		if n, e := node.Read(x, g, num); n != (api.Node{}) || e != want {
			t.Errorf("Read(%d) = %v, %d, wanted %d", num, n, e, want)
		}
	}
	for _, base := range []int{-2, -1000, 65536, 1 << 32, math.MinInt, math.MaxInt - 1, math.MaxInt} {
		if n, e := node.Read(x, conf.Geo{Base: base, Bitmap: 1, Nodes: 2}, 1); n != (api.Node{}) || e != api.ErrRange {
			t.Errorf("Read from %d on = %v, %d", base, n, e)
		}
	}
	for _, none := range []*wal.Txn{nil, {}} {
		if n, e := node.Read(none, g, 1); n != (api.Node{}) || e != api.ErrNil {
			t.Errorf("Read of no transaction = %v, %d", n, e)
		}
		for _, num := range outOf(6) {
			if n, e := node.Read(none, g, num); n != (api.Node{}) || e != api.ErrRange {
				t.Errorf("Read(%d) of no transaction = %v, %d", num, n, e)
			}
		}
	}
}

// P6.2: in the log's own blocks a node is read as anywhere.
func TestReadLog(t *testing.T) {
	d, _, x := onto(t, make([]api.Block, 1))
	var b api.Block
	y := node.Encode(file(3))
	copy(b[32:], y[:])
	d.Write(7, b)
	if n, e := node.Read(x, tableAt(7, 2), 2); n != file(3) || e != api.OK {
		t.Errorf("Read = %v, %d", n, e)
	}
}

// P6.2: just its own bytes are to be others: of noise, which is no nodes, half by half.
func TestWriteBytes(t *testing.T) {
	for num := 1; num <= 8; num++ {
		for _, n := range []api.Node{{}, {Gen: 700}, file(4321), {Kind: api.KDir, Links: 1, Size: 32}, {Kind: api.KLink, Links: 2, Size: 60, Direct: [6]uint16{40}}, {Kind: api.KFifo, Links: 250}} {
			bs := noise(6)
			d, _, x := onto(t, bs)
			was := d.Image()
			g := tableAt(32, 8)
			if e := node.Write(x, g, num, n); e != api.OK {
				t.Fatalf("Write(%d, %v) = %d", num, n, e)
			}
			if !slices.Equal(d.Image(), was) {
				t.Fatal("Write wrote ahead of Commit")
			}
			y := node.Encode(n)
			copy(bs[1+(num-1)/2][(num-1)%2*32:], y[:])
			if !slices.Equal(x.Blocks(), []int{32 + (num-1)/2}) {
				t.Errorf("Write(%d): Blocks = %v", num, x.Blocks())
			}
			if got, e := node.Read(x, g, num); got != n || e != api.OK {
				t.Errorf("Read(%d) = %v, %d, wanted %v", num, got, e, n)
			}
			if e := x.Commit(); e != api.OK || !slices.Equal(d.Image()[31:], bs) {
				t.Errorf("Commit behind Write(%d, %v) = %d, or other bytes", num, n, e)
			}
		}
	}
}

// P6.2: one after the other in any order, committed or dropped at times; each node is what it was to be last.
func TestWrite(t *testing.T) {
	r := rand.New(rand.NewSource(8))
	d, l, x := onto(t, make([]api.Block, 40))
	gs := []conf.Geo{tableAt(32, 16), tableAt(40, 5), tableAt(50, 30)}
	type at struct{ g, num int }
	now, kept := map[at]api.Node{}, map[at]api.Node{}
	for i := range 3000 {
		p := at{r.Intn(3), 0}
		p.num = 1 + r.Intn(gs[p.g].Nodes)
		n := file(i)
		if r.Intn(3) == 0 {
			n = api.Node{Gen: uint16(i)}
		}
		if e := node.Write(x, gs[p.g], p.num, n); e != api.OK {
			t.Fatalf("Write = %d", e)
		}
		now[p] = n
		switch r.Intn(20) {
		case 0:
			if e := x.Commit(); e != api.OK {
				t.Fatalf("Commit = %d", e)
			}
			for p, n := range now {
				kept[p] = n
			}
		case 1:
			x.Drop()
			clear(now)
			for p, n := range kept {
				now[p] = n
			}
		}
		for g := range gs {
			for num := 1; num <= gs[g].Nodes; num++ {
				if got, e := node.Read(x, gs[g], num); got != now[at{g, num}] || e != api.OK {
					t.Fatalf("Read(%d, %d) = %v, %d, wanted %v", g, num, got, e, now[at{g, num}])
				}
				if i%100 > 0 {
					continue
				}
				if got, e := node.Read(l.Begin(), gs[g], num); got != kept[at{g, num}] || e != api.OK {
					t.Fatalf("another transaction's Read(%d, %d) = %v, %d, wanted %v", g, num, got, e, kept[at{g, num}])
				}
			}
		}
	}
	bs := d.Image()
	for _, n := range []int{31, 48, 49, 65, 70} {
		if bs[n] != (api.Block{}) {
			t.Errorf("block %d was written", n)
		}
	}
}

// wrongNodes: such as Check refuses.
func wrongNodes() []api.Node {
	return []api.Node{
		{Kind: 6, Links: 1}, {Kind: 255, Links: 1}, {Links: 1}, {Size: 1}, {Single: 1}, {Direct: [6]uint16{5: 1}},
		{Kind: api.KFile}, {Kind: api.KFile, Links: 1, Size: 16385}, {Kind: api.KDir, Links: 1, Size: 8},
		{Kind: api.KMulti, Links: 1, Size: 16}, {Kind: api.KFifo, Links: 1, Size: 1}, {Kind: api.KLink, Links: 1}, {Kind: api.KLink, Links: 1, Size: 61},
	}
}

// P6.2: its errors and their order: no such node, what Check refuses, the transaction's; nothing is Put then, so that Commit goes on.
func TestWriteErrors(t *testing.T) {
	bs := noise(2)
	d, _, x := onto(t, bs)
	g := tableAt(32, 6) // blocks 32 to 34, of 33
	for _, none := range []*wal.Txn{x, nil, {}} {
		for _, num := range outOf(6) {
			for _, n := range append(wrongNodes(), file(1)) {
				if e := node.Write(none, g, num, n); e != api.ErrRange {
					t.Errorf("Write(%d, %v) = %d", num, n, e)
				}
			}
		}
		for num := 1; num <= 6; num++ {
			for _, n := range wrongNodes() {
				if e := node.Write(none, g, num, n); e != api.ErrForm {
					t.Errorf("Write(%d, %v) = %d", num, n, e)
				}
			}
			if e := node.Write(nil, g, num, file(1)); e != api.ErrNil {
				t.Errorf("Write(%d) of no transaction = %d", num, e)
			}
			if e := node.Write(new(wal.Txn), g, num, file(1)); e != api.ErrNil {
				t.Errorf("Write(%d) of no disk = %d", num, e)
			}
		}
	}
	for num := 3; num <= 6; num++ {
		if e := node.Write(x, g, num, file(1)); e != api.ErrRange {
			t.Errorf("Write(%d) beyond the disk = %d", num, e)
		}
	}
	for _, base := range []int{-2, -1000, 65536, 1 << 32, math.MinInt, math.MaxInt - 1, math.MaxInt} {
		if e := node.Write(x, conf.Geo{Base: base, Bitmap: 1, Nodes: 2}, 1, file(1)); e != api.ErrRange {
			t.Errorf("Write from %d on = %d", base, e)
		}
	}
	if x.Len() != 0 || x.Commit() != api.OK || !slices.Equal(d.Image()[31:], bs) {
		t.Error("what failed was Put")
	}
}

// P6.2: the transaction's errors of Put: the log's blocks, the 31st block.
func TestWritePutErrors(t *testing.T) {
	_, _, x := onto(t, make([]api.Block, 40))
	for _, block := range []int{0, 7, 30} {
		if e := node.Write(x, tableAt(block, 2), 2, file(1)); e != api.ErrRange {
			t.Errorf("Write in the log's block %d = %d", block, e)
		}
	}
	if e := x.Commit(); e != api.ErrRange {
		t.Errorf("Commit behind it = %d", e)
	}
	x.Drop()
	g := tableAt(31, 80)
	for num := 1; num <= 60; num++ {
		if e := node.Write(x, g, num, file(num)); e != api.OK {
			t.Fatalf("Write(%d) = %d", num, e)
		}
	}
	if x.Len() != 30 {
		t.Errorf("Len = %d", x.Len())
	}
	if e := node.Write(x, g, 61, file(61)); e != api.ErrMany {
		t.Errorf("Write in the 31st block = %d", e)
	}
	if n, e := node.Read(x, g, 61); n != (api.Node{}) || e != api.OK {
		t.Errorf("Read behind it = %v, %d", n, e)
	}
	if e := node.Write(x, g, 60, file(99)); e != api.OK {
		t.Errorf("Write in the 30th block = %d", e)
	}
}

// P6.2: also from the disk's first block on, the log behind; up to the last one.
func TestFirstAndLastBlock(t *testing.T) {
	d, _ := disk.New(2 + logLen)
	_, x := begin(t, d, 2)
	first := conf.Geo{Nodes: 4}
	for num := 1; num <= 4; num++ {
		if e := node.Write(x, first, num, file(num)); e != api.OK {
			t.Errorf("Write(%d) = %d", num, e)
		}
	}
	if e := node.Write(x, conf.Geo{Nodes: 5}, 5, file(5)); e != api.ErrRange { // the log's head
		t.Errorf("Write(5) = %d", e)
	}
	_, _, y := onto(t, make([]api.Block, 3))
	last := tableAt(33, 2)
	if e := node.Write(y, last, 2, file(2)); e != api.OK {
		t.Errorf("Write = %d", e)
	}
	if n, e := node.Read(y, last, 2); n != file(2) || e != api.OK {
		t.Errorf("Read = %v, %d", n, e)
	}
	if n, e := node.Read(x, first, 4); n != file(4) || e != api.OK {
		t.Errorf("Read = %v, %d", n, e)
	}
}

// P2, R8: nothing is kept but in the transaction: what another hand puts there is read.
func TestKeepsNothing(t *testing.T) {
	d, l, x := onto(t, make([]api.Block, 2))
	g := tableAt(31, 4)
	node.Write(x, g, 2, file(5))
	var b api.Block
	y := node.Encode(file(6))
	copy(b[32:], y[:])
	x.Put(31, b)
	if n, e := node.Read(x, g, 2); n != file(6) || e != api.OK {
		t.Errorf("Read = %v, %d", n, e)
	}
	x.Drop()
	if n, e := node.Read(x, g, 2); n != (api.Node{}) || e != api.OK {
		t.Errorf("Read behind Drop = %v, %d", n, e)
	}
	d.Write(31, b)
	if n, e := node.Read(l.Begin(), g, 2); n != file(6) || e != api.OK {
		t.Errorf("Read of what the disk has = %v, %d", n, e)
	}
	d.Arm(0)
	d.Write(32, b)
	if n, e := node.Read(x, g, 2); n != file(6) || e != api.OK {
		t.Errorf("Read of a disk that has stopped = %v, %d", n, e)
	}
	if e := node.Write(x, g, 1, file(7)); e != api.OK || x.Commit() != api.ErrDead {
		t.Errorf("Write to a disk that has stopped = %d, or Commit isn't %d", e, api.ErrDead)
	}
}
