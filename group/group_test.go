package group_test

import (
	"math"
	"math/rand"
	"slices"
	"testing"

	"garrison/api"
	"garrison/conf"
	"garrison/disk"
	"garrison/group"
	"garrison/node"
	"garrison/wal"
)

// three: a configuration of a small, a great and a middling group. The first block of each, and what each has, are written out in lays.
const three = `
label low 0 blocks 4 nodes 4 frames 1 procs 1 opens 1 clear low
label mid 1:2 blocks 512 nodes 128 frames 4 procs 2 opens 3 clear mid
label high 2:2,3 blocks 40 nodes 16 frames 4 procs 2 opens 3 clear high
`

// lay is where a group lies: its bits, its table, its data blocks; of these and of nodes, how many.
type lay struct{ bits, table, data, blocks, nodes int }

// lays: those of three, counted out by chapter 2's words.
func lays() []lay {
	return []lay{
		{32, 33, 35, 4, 4},
		{39, 40, 104, 512, 128},
		{616, 617, 625, 40, 16},
	}
}

// total: how many blocks the disk of three has.
const total = 665

func parsed(t *testing.T) *conf.Conf {
	t.Helper()
	c, line, e := conf.Parse(three)
	if e != api.OK || c.Total() != total {
		t.Fatalf("Parse = %d, %d, of %d blocks", line, e, c.Total())
	}
	return c
}

// world is a disk of three, its log at block 1, and a transaction.
type world struct {
	c *conf.Conf
	d *disk.Disk
	l *wal.Log
	x *wal.Txn
}

// onto: of these blocks (the log's are emptied).
func onto(t *testing.T, bs []api.Block) world {
	t.Helper()
	d, e := disk.Of(bs)
	if e != api.OK {
		t.Fatalf("Of = %d", e)
	}
	l, e := wal.Open(d, 1)
	if e != api.OK || l.Format() != api.OK {
		t.Fatalf("Open = %d", e)
	}
	return world{parsed(t), d, l, l.Begin()}
}

// blank: of noughts.
func blank(t *testing.T) world {
	t.Helper()
	return onto(t, make([]api.Block, total))
}

// noisy: the data blocks of noise, all else noughts.
func noisy() []api.Block {
	r := rand.New(rand.NewSource(7))
	bs := make([]api.Block, total)
	for _, l := range lays() {
		for i := range l.blocks {
			r.Read(bs[l.data+i][:])
		}
	}
	return bs
}

// open: a label's group.
func (w world) open(t *testing.T, lab int) *group.Group {
	t.Helper()
	g, e := group.Open(w.x, w.c, lab)
	if g == nil || e != api.OK {
		t.Fatalf("Open of %d = %v, %d", lab, g, e)
	}
	return g
}

// commit: what was done is on the disk.
func (w world) commit(t *testing.T) {
	t.Helper()
	if e := w.x.Commit(); e != api.OK {
		t.Fatalf("Commit = %d", e)
	}
}

// same: does the disk hold these blocks, but for the log's?
func (w world) same(bs []api.Block) bool {
	now := w.d.Image()
	return len(now) == len(bs) && now[0] == bs[0] && slices.Equal(now[32:], bs[32:])
}

// uses: does Usage answer these?
func uses(t *testing.T, g *group.Group, blocks, nodes int) {
	t.Helper()
	if b, n, e := g.Usage(); b != blocks || n != nodes || e != api.OK {
		t.Errorf("Usage = %d, %d, %d, wanted %d, %d", b, n, e, blocks, nodes)
	}
}

// oddInts: numbers that nothing has.
func oddInts() []int {
	return []int{-1, -2, -64, -65536, 65536, 1 << 32, 1<<32 + 1, -1 << 32, math.MinInt, math.MinInt + 1, math.MaxInt - 1, math.MaxInt}
}

// P7.1
func TestOpen(t *testing.T) {
	w := blank(t)
	r, wr := w.d.Counts()
	for lab := range 3 {
		if got := w.open(t, lab).Lab(); got != lab {
			t.Errorf("Lab = %d, wanted %d", got, lab)
		}
	}
	for _, lab := range append(oddInts(), 3, 4, 63, 64, 255, 256, 257) {
		if g, e := group.Open(w.x, w.c, lab); g != nil || e != api.ErrRange {
			t.Errorf("Open of %d = %v, %d", lab, g, e)
		}
	}
	if g, e := group.Open(w.x, new(conf.Conf), 0); g != nil || e != api.ErrRange {
		t.Errorf("Open of no labels = %v, %d", g, e)
	}
	if r2, w2 := w.d.Counts(); r2 != r || w2 != wr || w.x.Len() != 0 {
		t.Error("Open touched the disk")
	}
}

// P7.1: that there is no transaction, or no configuration, is told ahead of the label.
func TestOpenNil(t *testing.T) {
	w := blank(t)
	for _, lab := range append(oddInts(), 0, 1, 2, 3) {
		for _, x := range []struct {
			t *wal.Txn
			c *conf.Conf
		}{{nil, w.c}, {w.x, nil}, {nil, nil}, {nil, new(conf.Conf)}} {
			if g, e := group.Open(x.t, x.c, lab); g != nil || e != api.ErrNil {
				t.Errorf("Open(%v, %v, %d) = %v, %d", x.t, x.c, lab, g, e)
			}
		}
	}
}

// P7.1: a configuration of as many labels as there may be: each one's group is its own.
func TestOpenMost(t *testing.T) {
	var regs []api.Reg
	for i := range 64 {
		name := "l" + string(rune('a'+i/8)) + string(rune('a'+i%8))
		regs = append(regs, api.Reg{Name: name, Label: api.Label{Level: uint8(i / 8), Cats: uint16(i % 8)}, Blocks: 512, Nodes: 128, Frames: 1, Procs: 1, Opens: 1, Clear: i})
	}
	c, e := conf.New(regs, nil)
	if e != api.OK {
		t.Fatalf("New = %d", e)
	}
	d, _ := disk.New(c.Total())
	l, _ := wal.Open(d, 1)
	l.Format()
	for lab := range 64 {
		x := l.Begin()
		g, e := group.Open(x, c, lab)
		if e != api.OK || g.Lab() != lab {
			t.Fatalf("Open of %d = %d", lab, e)
		}
		n, e := g.Take()
		num, f := g.Make(api.KFile)
		i, h := g.Ino(num)
		if n != 1 || e != api.OK || num != 1 || f != api.OK || i != (api.Ino{Lab: uint8(lab), Num: 1, Gen: 1}) || h != api.OK {
			t.Errorf("of %d: Take = %d, %d; Make = %d, %d; Ino = %v, %d", lab, n, e, num, f, i, h)
		}
		base := 32 + lab*577 // 1 block of bits, 64 of nodes, 512
		if bs := x.Blocks(); !slices.Equal(bs, []int{base, base + 1, base + 65}) || x.Commit() != api.OK {
			t.Errorf("of %d: Blocks = %v", lab, bs)
		}
	}
}

// P7.2: bits and nodes as they stand on the disk; bits behind the last block, and other groups, don't count.
func TestUsage(t *testing.T) {
	r := rand.New(rand.NewSource(72))
	for range 30 {
		bs := noisy()
		want := map[int][2]int{}
		for lab, l := range lays() {
			r.Read(bs[l.bits][:])
			var many [2]int
			for i := range l.blocks {
				many[0] += int(bs[l.bits][i/8]) >> (i % 8) & 1
			}
			for i := range l.nodes {
				n := api.Node{Gen: uint16(r.Intn(3))}
				if k := r.Intn(6); k > 0 {
					n = api.Node{Kind: api.Kind(k), Links: 1}
					if k == 4 {
						n.Size = 9
					}
					many[1]++
				}
				b := node.Encode(n)
				copy(bs[l.table+i/2][i%2*32:], b[:])
			}
			want[lab] = many
		}
		w := onto(t, bs)
		for lab := range 3 {
			uses(t, w.open(t, lab), want[lab][0], want[lab][1])
		}
		if w.x.Len() != 0 {
			t.Error("Usage put")
		}
	}
}

// P7.2: beside an error there are no numbers: of a node that isn't right, of a disk that lacks blocks.
func TestUsageErrors(t *testing.T) {
	for lab, l := range lays() {
		for _, num := range []int{1, 2, l.nodes} {
			bs := make([]api.Block, total)
			bs[l.bits][0] = 7
			bs[l.table+(num-1)/2][(num-1)%2*32] = 6
			w := onto(t, bs)
			if b, n, e := w.open(t, lab).Usage(); b != 0 || n != 0 || e != api.ErrForm {
				t.Errorf("%d, node %d: Usage = %d, %d, %d", lab, num, b, n, e)
			}
			uses(t, w.open(t, (lab+1)%3), 0, 0)
		}
		for _, at := range []int{l.bits, l.table, l.data - 1} {
			if b, n, e := onto(t, make([]api.Block, at)).open(t, lab).Usage(); b != 0 || n != 0 || e != api.ErrRange {
				t.Errorf("%d, of %d blocks: Usage = %d, %d, %d", lab, at, b, n, e)
			}
		}
		uses(t, onto(t, make([]api.Block, l.data)).open(t, lab), 0, 0)
	}
}

// model is what a group should be: which blocks are taken and what they hold, the nodes.
type model struct {
	taken map[uint16]bool
	data  map[uint16]api.Block
	nodes map[int]api.Node
}

// takes: which block Take has to answer; 0: none.
func (m model) takes(blocks int) uint16 {
	for n := 1; n <= blocks; n++ {
		if !m.taken[uint16(n)] {
			return uint16(n)
		}
	}
	return 0
}

// makes: which node Make has to answer; 0: none.
func (m model) makes(nodes int) int {
	for num := 1; num <= nodes; num++ {
		if m.nodes[num].Kind == api.KFree {
			return num
		}
	}
	return 0
}

// used: what Usage has to answer of nodes.
func (m model) used() int {
	many := 0
	for _, n := range m.nodes {
		if n.Kind != api.KFree {
			many++
		}
	}
	return many
}

// space: what has to be answered beside a number.
func space(num int) api.Errno {
	if num == 0 {
		return api.ErrSpace
	}
	return api.OK
}

// act does one thing or another to a group, and to what it should be.
func act(t *testing.T, r *rand.Rand, g *group.Group, m model, l lay) {
	t.Helper()
	n, num := uint16(1+r.Intn(l.blocks)), 1+r.Intn(l.nodes)
	switch r.Intn(8) {
	case 0, 1:
		want := m.takes(l.blocks)
		if got, e := g.Take(); got != want || e != space(int(want)) {
			t.Fatalf("Take = %d, %d, wanted %d", got, e, want)
		}
		if want > 0 {
			m.taken[want], m.data[want] = true, api.Block{}
		}
	case 2:
		want := api.ErrNone
		if m.taken[n] {
			want = api.OK
		}
		if e := g.Give(n); e != want {
			t.Fatalf("Give(%d) = %d, wanted %d", n, e, want)
		}
		delete(m.taken, n)
	case 3:
		b := api.Block{byte(r.Intn(256)), 63: byte(r.Intn(256))}
		if e := g.Put(n, b); e != api.OK {
			t.Fatalf("Put(%d) = %d", n, e)
		}
		m.data[n] = b
	case 4, 5:
		want, k := m.makes(l.nodes), []api.Kind{api.KFile, api.KDir, api.KMulti, api.KFifo}[r.Intn(4)]
		if got, e := g.Make(k); got != want || e != space(want) {
			t.Fatalf("Make(%d) = %d, %d, wanted %d", k, got, e, want)
		}
		if want > 0 {
			m.nodes[want] = api.Node{Kind: k, Links: 1, Gen: m.nodes[want].Gen + 1}
		}
	case 6:
		want, size := m.makes(l.nodes), 1+r.Intn(60)
		if got, e := g.MakeLink(size, int(n)); got != want || e != space(want) {
			t.Fatalf("MakeLink(%d, %d) = %d, %d, wanted %d", size, n, got, e, want)
		}
		if want > 0 {
			m.nodes[want] = api.Node{Kind: api.KLink, Links: 1, Gen: m.nodes[want].Gen + 1, Size: uint32(size), Direct: [6]uint16{n}}
		}
	case 7:
		if e := g.Wipe(num); e != api.OK {
			t.Fatalf("Wipe(%d) = %d", num, e)
		}
		m.nodes[num] = api.Node{Gen: m.nodes[num].Gen}
	}
}

// is: is a group what it should be, all of it?
func is(t *testing.T, g *group.Group, m model, l lay) {
	t.Helper()
	for n := 1; n <= l.blocks; n++ {
		if b, e := g.Get(uint16(n)); b != m.data[uint16(n)] || e != api.OK {
			t.Fatalf("Get(%d) = %v, %d, wanted %v", n, b, e, m.data[uint16(n)])
		}
	}
	for num := 1; num <= l.nodes; num++ {
		if n, e := g.Node(num); n != m.nodes[num] || e != api.OK {
			t.Fatalf("Node(%d) = %v, %d, wanted %v", num, n, e, m.nodes[num])
		}
	}
	uses(t, g, len(m.taken), m.used())
}

// P7.1, P7.2, P6: anything in any order, of all labels in turns, in one transaction after the other: each group is as if it were alone, and gets a block, or a node, just if it has less than it may have.
func TestAnything(t *testing.T) {
	r := rand.New(rand.NewSource(70))
	w := onto(t, noisy())
	var ms [3]model
	for lab, l := range lays() {
		ms[lab] = model{map[uint16]bool{}, map[uint16]api.Block{}, map[int]api.Node{}}
		for n := 1; n <= l.blocks; n++ {
			ms[lab].data[uint16(n)], _ = w.open(t, lab).Get(uint16(n))
		}
	}
	for range 2500 {
		lab := r.Intn(3)
		act(t, r, w.open(t, lab), ms[lab], lays()[lab])
		if w.x.Len() > 24 {
			w.commit(t)
		}
		if r.Intn(40) == 0 {
			for lab, l := range lays() {
				is(t, w.open(t, lab), ms[lab], l)
			}
		}
	}
	w.commit(t)
	bs := w.d.Image()
	for lab, l := range lays() {
		for i := l.blocks; i < 512; i++ {
			if bs[l.bits][i/8]>>(i%8)&1 != 0 {
				t.Errorf("of %d: bit %d is set", lab, i)
			}
		}
	}
	if bs[0] != (api.Block{}) {
		t.Error("block 0 was written")
	}
}

// P6: whatever others have: a label that is full stays full, and one that isn't gets just as many as it may have, in each order in which they come to be full.
func TestQuota(t *testing.T) {
	for _, order := range [][]int{{0, 1, 2}, {0, 2, 1}, {1, 0, 2}, {1, 2, 0}, {2, 0, 1}, {2, 1, 0}} {
		w := blank(t)
		full := map[int]bool{}
		for _, lab := range order {
			l := lays()[lab]
			g := w.open(t, lab)
			for i := range l.blocks {
				if n, e := g.Take(); int(n) != i+1 || e != api.OK {
					t.Fatalf("%v: Take of %d = %d, %d", order, lab, n, e)
				}
				w.commit(t)
			}
			for i := range l.nodes {
				if num, e := g.Make(api.KFile); num != i+1 || e != api.OK {
					t.Fatalf("%v: Make of %d = %d, %d", order, lab, num, e)
				}
				w.commit(t)
			}
			full[lab] = true
			for other, l := range lays() {
				if !full[other] {
					uses(t, w.open(t, other), 0, 0)
					continue
				}
				uses(t, w.open(t, other), l.blocks, l.nodes)
				isFull(t, w.open(t, other))
			}
			if w.x.Len() != 0 {
				t.Error("what got nothing put something")
			}
		}
		giveAndGet(t, w)
	}
}

// isFull: does it get nothing more?
func isFull(t *testing.T, g *group.Group) {
	t.Helper()
	if n, e := g.Take(); n != 0 || e != api.ErrSpace {
		t.Errorf("Take of a full one = %d, %d", n, e)
	}
	if num, e := g.Make(api.KDir); num != 0 || e != api.ErrSpace {
		t.Errorf("Make of a full one = %d, %d", num, e)
	}
	if num, e := g.MakeLink(3, 1); num != 0 || e != api.ErrSpace {
		t.Errorf("MakeLink of a full one = %d, %d", num, e)
	}
}

// giveAndGet: of groups that are full, one gives one of each: that one alone gets one again.
func giveAndGet(t *testing.T, w world) {
	t.Helper()
	for lab := range 3 {
		g := w.open(t, lab)
		if e, f := g.Give(3), g.Wipe(2); e != api.OK || f != api.OK {
			t.Fatalf("Give = %d, Wipe = %d", e, f)
		}
		for other := range 3 {
			if other != lab {
				isFull(t, w.open(t, other))
			}
		}
		n, e := g.Take()
		num, f := g.Make(api.KFifo)
		if n != 3 || e != api.OK || num != 2 || f != api.OK {
			t.Errorf("Take = %d, %d, Make = %d, %d", n, e, num, f)
		}
		isFull(t, g)
		w.commit(t)
	}
}

// P2, R8: a group keeps nothing but its transaction: two of one see each other, one of another doesn't till Commit; behind Drop all is as it was.
func TestKeepsNothing(t *testing.T) {
	w := blank(t)
	a, b := w.open(t, 2), w.open(t, 2)
	other, e := group.Open(w.l.Begin(), w.c, 2)
	if e != api.OK {
		t.Fatalf("Open = %d", e)
	}
	if n, _ := a.Take(); n != 1 {
		t.Errorf("Take = %d", n)
	}
	if n, _ := b.Take(); n != 2 {
		t.Errorf("Take of another hand = %d", n)
	}
	a.Put(2, api.Block{9})
	if got, e := b.Get(2); got != (api.Block{9}) || e != api.OK {
		t.Errorf("Get = %v, %d", got, e)
	}
	if num, _ := b.Make(api.KDir); num != 1 {
		t.Errorf("Make = %d", num)
	}
	uses(t, a, 2, 1)
	uses(t, other, 0, 0)
	w.commit(t)
	uses(t, other, 2, 1)
	a.Give(1)
	a.Wipe(1)
	uses(t, b, 1, 0)
	w.x.Drop()
	uses(t, a, 2, 1)
	uses(t, b, 2, 1)
	w.d.Arm(0)
	if num, e := a.Make(api.KFile); num != 2 || e != api.OK || w.x.Commit() != api.ErrDead {
		t.Errorf("Make on a disk that lets none through = %d, %d", num, e)
	}
	uses(t, other, 2, 1)
}

// P1, R7: nil, and what nobody opened.
func TestNil(t *testing.T) {
	for _, x := range []struct {
		g         *group.Group
		any, have api.Errno
	}{{nil, api.ErrNil, api.ErrNil}, {new(group.Group), api.ErrRange, api.ErrNil}} {
		if x.g.Lab() != 0 {
			t.Errorf("Lab = %d", x.g.Lab())
		}
		if n, e := x.g.Take(); n != 0 || e != x.have {
			t.Errorf("Take = %d, %d", n, e)
		}
		if b, n, e := x.g.Usage(); b != 0 || n != 0 || e != x.have {
			t.Errorf("Usage = %d, %d, %d", b, n, e)
		}
		for _, n := range []uint16{0, 1, 2, 512, 65535} {
			if e := x.g.Give(n); e != x.any {
				t.Errorf("Give(%d) = %d", n, e)
			}
			if b, e := x.g.Get(n); b != (api.Block{}) || e != x.any {
				t.Errorf("Get(%d) = %v, %d", n, b, e)
			}
			if e := x.g.Put(n, api.Block{1}); e != x.any {
				t.Errorf("Put(%d) = %d", n, e)
			}
		}
		for _, num := range append(oddInts(), 0, 1, 2) {
			nilNode(t, x.g, num, x.any)
		}
	}
	if n, e := new(group.Group).Make(api.KFile); n != 0 || e == api.OK {
		t.Errorf("Make of no nodes = %d, %d", n, e)
	}
	if n, e := (*group.Group)(nil).Make(api.KFile); n != 0 || e != api.ErrNil {
		t.Errorf("Make of nil = %d, %d", n, e)
	}
}

// nilNode: what a group that has nothing answers of a node.
func nilNode(t *testing.T, g *group.Group, num int, want api.Errno) {
	t.Helper()
	if n, e := g.Node(num); n != (api.Node{}) || e != want {
		t.Errorf("Node(%d) = %v, %d", num, n, e)
	}
	for _, n := range []api.Node{{}, {Kind: api.KFile, Links: 1}, {Kind: 9}} {
		if e := g.Set(num, n); e != want {
			t.Errorf("Set(%d, %v) = %d", num, n, e)
		}
	}
	if e := g.Wipe(num); e != want {
		t.Errorf("Wipe(%d) = %d", num, e)
	}
	if i, e := g.Ino(num); i != (api.Ino{}) || e != want {
		t.Errorf("Ino(%d) = %v, %d", num, i, e)
	}
	if n, e := g.Make(api.Kind(6 + num&7)); n != 0 || e != want {
		t.Errorf("Make = %d, %d", n, e)
	}
	for _, size := range []int{0, 1, 61, num} {
		if n, e := g.MakeLink(size, num); n != 0 || e != want {
			t.Errorf("MakeLink(%d, %d) = %d, %d", size, num, n, e)
		}
	}
}

// P1: a transaction that nobody began: it has no disk.
func TestNoDisk(t *testing.T) {
	c := parsed(t)
	for lab, l := range lays() {
		g, e := group.Open(new(wal.Txn), c, lab)
		if e != api.OK || g.Lab() != lab {
			t.Fatalf("Open = %d", e)
		}
		if n, e := g.Take(); n != 0 || e != api.ErrNil {
			t.Errorf("Take = %d, %d", n, e)
		}
		if e := g.Give(1); e != api.ErrNil {
			t.Errorf("Give = %d", e)
		}
		if e := g.Give(uint16(l.blocks + 1)); e != api.ErrRange {
			t.Errorf("Give = %d", e)
		}
		if b, e := g.Get(1); b != (api.Block{}) || e != api.ErrNil {
			t.Errorf("Get = %v, %d", b, e)
		}
		nilNode(t, g, 600, api.ErrRange)
		if n, e := g.Node(1); n != (api.Node{}) || e != api.ErrNil {
			t.Errorf("Node = %v, %d", n, e)
		}
		if n, e := g.Make(api.KFile); n != 0 || e != api.ErrNil {
			t.Errorf("Make = %d, %d", n, e)
		}
		if n, e := g.MakeLink(1, 1); n != 0 || e != api.ErrNil {
			t.Errorf("MakeLink = %d, %d", n, e)
		}
		if e := g.Wipe(1); e != api.ErrNil {
			t.Errorf("Wipe = %d", e)
		}
		if i, e := g.Ino(1); i != (api.Ino{}) || e != api.ErrNil {
			t.Errorf("Ino = %v, %d", i, e)
		}
		if b, n, e := g.Usage(); b != 0 || n != 0 || e != api.ErrNil {
			t.Errorf("Usage = %d, %d, %d", b, n, e)
		}
	}
}

// The chapter's example.
func TestExample(t *testing.T) {
	g := blank(t).open(t, 0)
	a, e := g.Take()
	b, f := g.Take()
	if a != 1 || e != api.OK || b != 2 || f != api.OK {
		t.Errorf("Take, Take = %d, %d, %d, %d", a, e, b, f)
	}
	if e := g.Give(1); e != api.OK {
		t.Errorf("Give = %d", e)
	}
	if n, e := g.Take(); n != 1 || e != api.OK {
		t.Errorf("Take = %d, %d", n, e)
	}
}
