package file_test

import (
	"bytes"
	"slices"
	"testing"

	"garrison/api"
	"garrison/file"
	"garrison/node"
)

// P8.2: from each length to each shorter one: the bytes behind are left out, the blocks that aren't needed any more are given, and no way leads to them; the others' stay.
func TestCut(t *testing.T) {
	all := text(1, most)
	for _, long := range []int{most, most - 1, 231 * 64, 103*64 + 5, 102 * 64, 71 * 64, 4500, 39 * 64, 38 * 64, 1000, 385, 384, 65, 64, 1, 0} {
		base := noisy(t)
		other := base.make(t, mid, text(2, 700))
		num := base.make(t, mid, all[:long])
		was := nodeOf(t, base.open(t, mid), num)
		image := base.d.Image()
		for _, size := range append(lengths(), long) {
			if size > long {
				continue
			}
			w := onto(t, image)
			g := w.open(t, mid)
			if e := file.Cut(g, num, size); e != api.OK {
				t.Fatalf("Cut of %d to %d = %d", long, size, e)
			}
			holds(t, g, num, all[:size])
			holds(t, g, other, text(2, 700))
			n := nodeOf(t, g, num)
			if n.Kind != was.Kind || n.Links != was.Links || n.Gen != was.Gen {
				t.Errorf("Cut of %d to %d: the node is %v", long, size, n)
			}
			w.stays(t, mid, num, was, (size+63)/64)
			if want := cutPuts(long, size); w.x.Len() != want {
				t.Errorf("Cut of %d to %d puts %v, wanted %d", long, size, w.x.Blocks(), want)
			}
			w.allRight(t)
		}
	}
}

// cutPuts: how many blocks a cut has to put: the table, the bits, the block that the end is in, the blocks of pointers that stay and tell of fewer. Those that are given are none of them.
func cutPuts(long, size int) int {
	have, keep := (long+63)/64, (size+63)/64
	many := 0
	for _, put := range []bool{
		long > size, have > keep, long > size && size%64 > 0,
		keep > 6 && keep < 38 && have > keep,           // Single
		keep > 38 && (have-38+31)/32 > (keep-38+31)/32, // Double
		keep > 38 && (keep-38)%32 > 0 && have > keep,   // one of Double's
	} {
		if put {
			many++
		}
	}
	return many
}

// stays: has a node its first data blocks where it had them?
func (w world) stays(t *testing.T, lab, num int, was api.Node, many int) {
	t.Helper()
	old := w
	old.x = w.l.Begin()
	n := nodeOf(t, w.open(t, lab), num)
	for i := range many {
		want, _ := file.Block(old.open(t, lab), was, i)
		if p, e := file.Block(w.open(t, lab), n, i); p != want || e != api.OK {
			t.Fatalf("data block %d is %d, %d, wanted %d", i, p, e, want)
		}
	}
}

// P8.2: what was cut is gone: grown again, a file has new bytes, and none of the old ones; cut bit by bit it is right each time.
func TestCutAndGrow(t *testing.T) {
	w := noisy(t)
	all := text(1, 5000)
	num := w.make(t, mid, all)
	now := all
	for i, size := range []int{4999, 4990, 4500, 4480, 4479, 2500, 2432, 2431, 400, 385, 384, 383, 64, 63, 1, 0} {
		if e := file.Cut(w.open(t, mid), num, size); e != api.OK {
			t.Fatalf("Cut to %d = %d", size, e)
		}
		now = now[:size]
		if i%3 > 0 {
			w.allRight(t)
			continue
		}
		if e := file.Write(w.open(t, mid), num, size, text(int64(i), 5)); e != api.OK {
			t.Fatalf("Write = %d", e)
		}
		now = slices.Concat(now, text(int64(i), 5))
		w.allRight(t)
		holds(t, w.open(t, mid), num, now)
	}
	w.grow(t, mid, num, all[len(now):])
	holds(t, w.open(t, mid), num, slices.Concat(now, all[len(now):]))
	w.allRight(t)
}

// P8.2, P6: what a cut gives can be had again, by its own label alone.
func TestCutGives(t *testing.T) {
	w := noisy(t)
	for lab := range 3 {
		w.fill(t, lab, 10)
	}
	a := w.make(t, low, text(1, 9*64)) // and one of pointers
	b, _ := w.open(t, low).Make(api.KFile)
	w.make(t, high, text(2, 9*64))
	if e := file.Write(w.open(t, low), b, 0, []byte{1}); e != api.ErrSpace {
		t.Errorf("Write = %d", e)
	}
	w.x.Drop()
	if e := file.Cut(w.open(t, low), a, 3*64); e != api.OK { // 6, and one of pointers
		t.Fatalf("Cut = %d", e)
	}
	w.commit(t)
	if e := file.Write(w.open(t, low), b, 0, text(3, 6*64+1)); e != api.ErrSpace {
		t.Errorf("Write = %d", e)
	}
	w.x.Drop()
	if e := file.Write(w.open(t, low), b, 0, text(3, 6*64)); e != api.OK {
		t.Errorf("Write = %d", e)
	}
	w.commit(t)
	if e := file.Write(w.open(t, low), a, 3*64, text(3, 64)); e != api.OK {
		t.Errorf("Write = %d", e)
	}
	w.commit(t)
	if e := file.Write(w.open(t, low), a, 4*64, text(3, 1)); e != api.ErrSpace {
		t.Errorf("Write = %d", e)
	}
	w.x.Drop()
	c, _ := w.open(t, high).Make(api.KFile)
	if e := file.Write(w.open(t, high), c, 0, []byte{1}); e != api.ErrSpace {
		t.Errorf("Write of another label = %d", e)
	}
}

// P8.2: its errors and their order: the group's of the node; a free one; size from 0 to the length.
func TestCutErrors(t *testing.T) {
	w := noisy(t)
	num := w.make(t, high, text(1, 100))
	bs := w.d.Image()
	geo, _ := w.c.Geo(high)
	bs[geo.Base+2][32] = 6 // node 4: of no kind
	w = onto(t, bs)
	g := w.open(t, high)
	for n, want := range map[int]api.Errno{0: api.ErrRange, -1: api.ErrRange, 17: api.ErrRange, 4: api.ErrForm, 2: api.ErrStale, 16: api.ErrStale, num: api.ErrRange} {
		for _, size := range append(oddInts(), 101, 128, most, most+1) {
			if e := file.Cut(g, n, size); e != want {
				t.Errorf("Cut(%d, %d) = %d, wanted %d", n, size, e, want)
			}
		}
		if n == num {
			continue
		}
		if e := file.Cut(g, n, 0); e != want {
			t.Errorf("Cut(%d, 0) = %d, wanted %d", n, e, want)
		}
	}
	if e := file.Cut(g, num, 100); e != api.OK {
		t.Errorf("Cut to its length = %d", e)
	}
	if w.x.Len() != 0 {
		t.Error("what did nothing put something")
	}
	holds(t, g, num, text(1, 100))
}

// P8.2: of other kinds, as far as they may be so long.
func TestCutKinds(t *testing.T) {
	for _, x := range []struct {
		k          api.Kind
		long, size int
		want       api.Errno
	}{
		{api.KDir, 480, 160, api.OK}, {api.KDir, 480, 0, api.OK}, {api.KDir, 480, 161, api.ErrForm}, {api.KDir, 480, 479, api.ErrForm},
		{api.KMulti, 0, 0, api.OK}, {api.KFifo, 0, 0, api.OK}, {api.KMulti, 0, 1, api.ErrRange},
		{api.KLink, 60, 1, api.OK}, {api.KLink, 60, 0, api.ErrForm}, {api.KLink, 60, 60, api.OK},
	} {
		w := noisy(t)
		g := w.open(t, high)
		num, e := g.Make(x.k)
		if x.k == api.KLink {
			p, _ := g.Take()
			num, e = g.MakeLink(x.long, int(p))
		}
		if e != api.OK {
			t.Fatalf("Make(%d) = %d", x.k, e)
		}
		if e := file.Write(g, num, 0, text(1, x.long)); e != api.OK {
			t.Fatalf("Write = %d", e)
		}
		w.commit(t)
		if e := file.Cut(g, num, x.size); e != x.want {
			t.Errorf("kind %d: Cut of %d to %d = %d, wanted %d", x.k, x.long, x.size, e, x.want)
		}
		if x.want != api.OK { // who asked drops it
			w.x.Drop()
			x.size = x.long
		}
		holds(t, g, num, text(1, x.size))
		w.allRight(t)
	}
}

// P8.2: the group's errors of blocks: not taken, not the group's; a block that lacks isn't given.
func TestCutBlocks(t *testing.T) {
	for _, x := range []struct {
		p    uint16
		want api.Errno
	}{{5, api.ErrNone}, {13, api.ErrRange}, {65535, api.ErrRange}, {0, api.OK}} {
		w := noisy(t)
		g := w.open(t, low)
		num, _ := g.Make(api.KFile)
		n := nodeOf(t, g, num)
		n.Size = 192
		n.Direct[0], _ = g.Take()
		n.Direct[1] = x.p
		n.Direct[2], _ = g.Take()
		g.Set(num, n)
		if e := file.Cut(g, num, 64); e != x.want {
			t.Errorf("block %d: Cut = %d, wanted %d", x.p, e, x.want)
		}
		if x.want == api.OK {
			w.allRight(t)
		}
	}
}

// P8.2: of each length: all its blocks are given, nothing of others; the node is free, its generation stays; no pointer is put.
func TestRemove(t *testing.T) {
	for _, long := range []int{0, 1, 64, 384, 385, 38 * 64, 38*64 + 1, 70*64 + 1, 102 * 64, 103 * 64, most} {
		w := noisy(t)
		other := w.make(t, mid, text(2, 700))
		num := w.make(t, mid, text(1, long))
		g := w.open(t, mid)
		gen := nodeOf(t, g, num).Gen
		if e := file.Remove(g, num); e != api.OK {
			t.Fatalf("%d long: Remove = %d", long, e)
		}
		if n := nodeOf(t, g, num); n != (api.Node{Gen: gen}) {
			t.Errorf("%d long: the node is %v", long, n)
		}
		if w.x.Len() > 2 {
			t.Errorf("%d long: Remove puts %v", long, w.x.Blocks())
		}
		used, nodes, e := g.Usage()
		data, pointers := node.Spread(700)
		if used != data+pointers || nodes != 1 || e != api.OK {
			t.Errorf("%d long: Usage = %d, %d, %d", long, used, nodes, e)
		}
		holds(t, g, other, text(2, 700))
		if e := file.Remove(g, num); e != api.ErrStale {
			t.Errorf("%d long: Remove again = %d", long, e)
		}
		w.allRight(t)
		if again, _ := g.Make(api.KFile); again != num || nodeOf(t, g, num).Gen != gen+1 {
			t.Errorf("%d long: Make = %d, %v", long, again, nodeOf(t, g, num))
		}
		holds(t, g, num, nil)
	}
}

// P8.2: of each kind; of a KLink its first Direct, and nothing else that it may point to.
func TestRemoveKinds(t *testing.T) {
	w := noisy(t)
	g := w.open(t, high)
	num := w.make(t, high, text(1, 500))
	n := nodeOf(t, g, num)
	p, _ := g.Take()
	l, _ := g.MakeLink(20, int(p))
	link := nodeOf(t, g, l)
	link.Direct[1], link.Direct[5], link.Single, link.Double = n.Direct[1], n.Direct[5], n.Single, n.Single
	g.Set(l, link)
	d, _ := g.Make(api.KDir)
	file.Write(g, d, 0, text(2, 160))
	m, _ := g.Make(api.KMulti)
	f, _ := g.Make(api.KFifo)
	for _, x := range []struct{ num, blocks, nodes int }{{l, 12, 4}, {m, 12, 3}, {d, 9, 2}, {f, 9, 1}, {num, 0, 0}} {
		if e := file.Remove(g, x.num); e != api.OK {
			t.Errorf("Remove(%d) = %d", x.num, e)
		}
		if blocks, nodes, e := g.Usage(); blocks != x.blocks || nodes != x.nodes || e != api.OK {
			t.Errorf("behind Remove(%d): Usage = %d, %d, %d, wanted %v", x.num, blocks, nodes, e, x)
		}
		if x.num != num {
			holds(t, g, num, text(1, 500))
		}
	}
	if q, _ := g.Take(); q != 1 {
		t.Errorf("Take = %d", q)
	}
}

// P8.2: its errors: the group's of the node; a free one; the group's of a block, or of a block of pointers.
func TestRemoveErrors(t *testing.T) {
	bs := noisy(t).d.Image()
	geo, _ := noisy(t).c.Geo(high)
	bs[geo.Base+2][32] = 6 // node 4: of no kind
	w := onto(t, bs)
	g := w.open(t, high)
	for num, want := range map[int]api.Errno{0: api.ErrRange, -1: api.ErrRange, 17: api.ErrRange, 1 << 32: api.ErrRange, 4: api.ErrForm, 2: api.ErrStale, 16: api.ErrStale} {
		if e := file.Remove(g, num); e != want {
			t.Errorf("Remove(%d) = %d, wanted %d", num, e, want)
		}
	}
	if w.x.Len() != 0 {
		t.Error("what failed put something")
	}
	for _, x := range []struct {
		n    api.Node
		want api.Errno
	}{
		{api.Node{Size: 64, Direct: [6]uint16{61}}, api.ErrRange}, {api.Node{Size: 64, Direct: [6]uint16{60}}, api.ErrNone},
		{api.Node{Size: 64, Single: 61}, api.ErrRange}, {api.Node{Size: 64, Double: 65535}, api.ErrRange},
	} {
		x.n.Kind, x.n.Links = api.KFile, 1
		if e := g.Set(1, x.n); e != api.OK {
			t.Fatalf("Set = %d", e)
		}
		if e := file.Remove(g, 1); e != x.want {
			t.Errorf("%v: Remove = %d, wanted %d", x.n, e, x.want)
		}
		w.x.Drop()
	}
}

// P8.2: data blocks in order; blocks of pointers as they are come to first: Single, Double, Double's.
func TestBlocks(t *testing.T) {
	w := noisy(t)
	g := w.open(t, mid)
	n := pointAll(t, g)
	var data []uint16
	for i := range 38 + 7*32 {
		data = append(data, uint16(1000+i))
	}
	b, _ := g.Get(2)
	clear(b[14:]) // Double has seven
	g.Put(2, b)
	w.commit(t)
	if d, p, e := file.Blocks(g, n); !slices.Equal(d, data) || !slices.Equal(p, []uint16{1, 2, 3, 4, 5, 6, 7, 8, 9}) || e != api.OK {
		t.Errorf("Blocks = %v, %v, %d", d, p, e)
	}
	for _, x := range []struct {
		n              api.Node
		data, pointers []uint16
	}{
		{api.Node{}, nil, nil},
		{api.Node{Kind: api.KLink, Links: 1, Size: 9, Direct: [6]uint16{300}}, []uint16{300}, nil},
		{api.Node{Kind: api.KFile, Links: 1, Size: 300, Direct: [6]uint16{7, 3, 512, 0, 8}}, []uint16{7, 3, 512, 8}, nil},
		{api.Node{Kind: api.KFile, Links: 1, Direct: n.Direct, Single: 1}, data[:38], []uint16{1}},
		{api.Node{Kind: api.KFile, Links: 1, Double: 2}, data[38:], []uint16{2, 3, 4, 5, 6, 7, 8, 9}},
	} {
		if d, p, e := file.Blocks(g, x.n); !slices.Equal(d, x.data) || !slices.Equal(p, x.pointers) || e != api.OK {
			t.Errorf("Blocks(%v) = %v, %v, %d", x.n, d, p, e)
		}
	}
	if w.x.Len() != 0 {
		t.Error("Blocks put")
	}
}

// P8.2, R3: the group's errors, of each block of pointers; beside them there are no lists.
func TestBlocksErrors(t *testing.T) {
	g := onto(t, nil).open(t, low)
	g.Put(1, api.Block{2, 0, 13, 0})
	for _, n := range []api.Node{{Single: 13}, {Double: 13}, {Double: 1}, {Direct: [6]uint16{1}, Single: 65535}, {Single: 2, Double: 1}} {
		if d, p, e := file.Blocks(g, n); len(d)+len(p) > 0 || e != api.ErrRange {
			t.Errorf("Blocks(%v) = %v, %v, %d", n, d, p, e)
		}
	}
	if d, p, e := file.Blocks(g, api.Node{Single: 1}); !slices.Equal(d, []uint16{2, 13}) || !slices.Equal(p, []uint16{1}) || e != api.OK {
		t.Errorf("Blocks = %v, %v, %d", d, p, e) // of data blocks nothing is asked
	}
}

// P8.2: the bytes behind an end are noughts in its last block: of each end in a block.
func TestCutBehind(t *testing.T) {
	for size := range 65 {
		w := noisy(t)
		num := w.make(t, high, text(1, 500))
		g := w.open(t, high)
		if e := file.Cut(g, num, 384+size); e != api.OK {
			t.Fatalf("Cut = %d", e)
		}
		p, _ := file.Block(g, nodeOf(t, g, num), 6)
		if size == 0 {
			if p != 0 {
				t.Errorf("Block = %d", p)
			}
			continue
		}
		b, _ := g.Get(p)
		if want := slices.Concat(text(1, 500)[384:384+size], make([]byte, 64-size)); !bytes.Equal(b[:], want) {
			t.Errorf("cut to %d: the block is %v", 384+size, b)
		}
	}
}
