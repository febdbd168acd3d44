package file_test

import (
	"bytes"
	"slices"
	"testing"

	"garrison/api"
	"garrison/file"
	"garrison/group"
)

// pointAll: a node whose data blocks have the numbers 1000 + i (none of the group's: Block follows no data block), and whose blocks of pointers are 1 (Single), 2 (Double), 3 and on.
func pointAll(t *testing.T, g *group.Group) api.Node {
	t.Helper()
	n := api.Node{Kind: api.KFile, Links: 1, Size: most, Single: 1, Double: 2}
	for i := range n.Direct {
		n.Direct[i] = uint16(1000 + i)
	}
	fill := func(p uint16, first int) {
		var b api.Block
		for i := range 32 {
			b[2*i], b[2*i+1] = byte(first+i), byte((first+i)>>8)
		}
		if e := g.Put(p, b); e != api.OK {
			t.Fatalf("Put(%d) = %d", p, e)
		}
	}
	fill(1, 1006)
	fill(2, 3)
	for i := range 7 {
		fill(uint16(3+i), 1038+32*i)
	}
	return n
}

// P8.1: six Direct, 32 of Single, 32 of each of Double's; two bytes a number, the lowest first; ErrBig of a number that no file has.
func TestBlock(t *testing.T) {
	w := noisy(t)
	g := w.open(t, mid)
	n := pointAll(t, g)
	w.commit(t)
	for i := range 256 {
		if p, e := file.Block(g, n, i); int(p) != 1000+i || e != api.OK {
			t.Errorf("Block(%d) = %d, %d", i, p, e)
		}
	}
	for _, i := range append(oddInts(), 256, 257, 262, 294, 1061, 1062) {
		for _, x := range []api.Node{n, {}} {
			if p, e := file.Block(g, x, i); p != 0 || e != api.ErrBig {
				t.Errorf("Block(%d) = %d, %d", i, p, e)
			}
		}
	}
	if w.x.Len() != 0 {
		t.Error("Block put")
	}
}

// P8.1: 0, where there is none, on each part of the way; what is beside it is found.
func TestBlockNone(t *testing.T) {
	w := onto(t, nil)
	g := w.open(t, mid)
	n := pointAll(t, g)
	n.Direct[2] = 0
	for _, gap := range []struct {
		p  uint16
		at int
	}{{1, 5}, {2, 1}, {3, 31}, {9, 0}} { // Single's, Double's, the first and the last of Double's
		b, _ := g.Get(gap.p)
		b[2*gap.at], b[2*gap.at+1] = 0, 0
		g.Put(gap.p, b)
	}
	none := func(i int) bool { return i == 2 || i == 6+5 || i >= 70 && i < 102 || i == 69 || i == 230 }
	for _, x := range []struct {
		single, double uint16
	}{{1, 2}, {0, 2}, {1, 0}, {0, 0}} {
		n.Single, n.Double = x.single, x.double
		for i := range 256 {
			want := uint16(1000 + i)
			if none(i) || x.single == 0 && i >= 6 && i < 38 || x.double == 0 && i >= 38 {
				want = 0
			}
			if p, e := file.Block(g, n, i); p != want || e != api.OK {
				t.Errorf("Single %d, Double %d: Block(%d) = %d, %d, wanted %d", x.single, x.double, i, p, e, want)
			}
		}
	}
	for i := range 256 {
		if p, e := file.Block(g, api.Node{}, i); p != 0 || e != api.OK {
			t.Errorf("Block(%d) of none = %d, %d", i, p, e)
		}
	}
}

// P8.1: the group's errors: a block of pointers that it hasn't. A number of a byte alone, or of both, isn't 0.
func TestBlockErrors(t *testing.T) {
	g := onto(t, nil).open(t, low)
	n := api.Node{Kind: api.KFile, Links: 1, Size: most, Single: 13, Double: 1}
	g.Put(1, api.Block{13, 0, 0, 1, 255, 255, 2, 0})
	g.Put(2, api.Block{0, 1, 255, 255})
	for i, want := range map[int]api.Errno{0: api.OK, 5: api.OK, 6: api.ErrRange, 37: api.ErrRange, 38: api.ErrRange, 70: api.ErrRange, 102: api.ErrRange, 134: api.OK, 166: api.OK} {
		p, e := file.Block(g, n, i)
		if e != want || i == 134 && p != 256 || i != 134 && p != 0 {
			t.Errorf("Block(%d) = %d, %d, wanted %d", i, p, e, want)
		}
	}
	if p, e := file.Block(g, n, 135); p != 65535 || e != api.OK {
		t.Errorf("Block(135) = %d, %d", p, e)
	}
}

// P8.1: from each edge, so many at most, as far as there are some.
func TestRead(t *testing.T) {
	w := noisy(t)
	all := text(1, most)
	num := w.make(t, mid, all)
	g := w.open(t, mid)
	for _, off := range append(lengths(), most+1, most+64, 1<<20, 1<<40, 1<<63-1) {
		for _, many := range append(lengths(), most+1, 1<<40, 1<<63-1, 1<<63-2) {
			from := min(off, most)
			want := all[from : from+min(many, most-from)]
			if got, e := file.Read(g, num, off, many); !bytes.Equal(got, want) || e != api.OK {
				t.Fatalf("Read(%d, %d) = %d bytes, %d, wanted %d", off, many, len(got), e, len(want))
			}
		}
	}
	for off := range 200 {
		for many := range 200 {
			if got, e := file.Read(g, num, 2300+off, many); !bytes.Equal(got, all[2300+off:2300+off+many]) || e != api.OK {
				t.Fatalf("Read(%d, %d) = %v, %d", 2300+off, many, got, e)
			}
		}
	}
	if w.x.Len() != 0 {
		t.Error("Read put")
	}
}

// P8.1: what stands behind a length isn't the file's: neither in its last block, nor when it has none.
func TestReadEnd(t *testing.T) {
	w := noisy(t)
	g := w.open(t, high)
	for _, size := range []int{0, 1, 63, 64, 65, 100} {
		num, _ := g.Make(api.KFile)
		n := nodeOf(t, g, num)
		n.Size, n.Direct[0], n.Direct[1] = uint32(size), 3, 4
		g.Set(num, n)
		a, _ := g.Get(3)
		b, _ := g.Get(4)
		both := slices.Concat(a[:], b[:])
		for _, many := range []int{0, 1, 63, 64, 65, 128, 1000} {
			if got, e := file.Read(g, num, 0, many); !bytes.Equal(got, both[:min(many, size)]) || e != api.OK {
				t.Errorf("%d long: Read(%d) = %v, %d", size, many, got, e)
			}
		}
	}
}

// P8.1: its errors and their order: the group's of the node; a free one; numbers below 0.
func TestReadErrors(t *testing.T) {
	w := noisy(t)
	num := w.make(t, high, text(1, 100))
	bs := w.d.Image()
	geo, _ := w.c.Geo(high)
	bs[geo.Base+2][32] = 6 // node 4: of no kind
	w = onto(t, bs)
	g := w.open(t, high)
	for _, x := range []struct {
		num  int
		want api.Errno
	}{{0, api.ErrRange}, {-1, api.ErrRange}, {17, api.ErrRange}, {4, api.ErrForm}, {2, api.ErrStale}, {16, api.ErrStale}, {num, api.ErrRange}} {
		for _, y := range [][2]int{{-1, 0}, {0, -1}, {-1, -1}, {-1 << 63, 5}, {5, -1 << 63}, {-64, 64}, {200, -1}} {
			if b, e := file.Read(g, x.num, y[0], y[1]); len(b) > 0 || e != x.want {
				t.Errorf("Read(%d, %v) = %v, %d, wanted %d", x.num, y, b, e, x.want)
			}
		}
		if x.num == num {
			continue
		}
		if b, e := file.Read(g, x.num, 0, 5); len(b) > 0 || e != x.want {
			t.Errorf("Read(%d) = %v, %d, wanted %d", x.num, b, e, x.want)
		}
	}
}

// P8.1: a block that lacks within a length, or isn't the group's, is the group's error; what doesn't come there is read.
func TestReadLacks(t *testing.T) {
	for _, p := range []uint16{0, 13, 65535} {
		g := onto(t, nil).open(t, low)
		num, _ := g.Make(api.KFile)
		n := nodeOf(t, g, num)
		n.Size, n.Direct = 200, [6]uint16{1, 2, p, 3}
		g.Set(num, n)
		for _, x := range []struct {
			off, many int
			want      api.Errno
		}{{0, 128, api.OK}, {0, 129, api.ErrRange}, {191, 1, api.ErrRange}, {192, 8, api.OK}, {128, 0, api.OK}} {
			if b, e := file.Read(g, num, x.off, x.many); e != x.want || e != api.OK && len(b) > 0 || e == api.OK && len(b) != x.many {
				t.Errorf("block %d: Read(%d, %d) = %v, %d, wanted %d", p, x.off, x.many, b, e, x.want)
			}
		}
	}
}

// R6: what is answered is new memory.
func TestReadNew(t *testing.T) {
	w := noisy(t)
	num := w.make(t, high, text(1, 300))
	g := w.open(t, high)
	a, _ := file.Read(g, num, 0, 300)
	b, _ := file.Read(g, num, 0, 300)
	clear(a[:cap(a)])
	if !bytes.Equal(b, text(1, 300)) {
		t.Error("two answers share")
	}
	holds(t, g, num, text(1, 300))
}

// P8.1: any kind that has bytes: a directory's, a symbolic link's; none of the others.
func TestReadKinds(t *testing.T) {
	w := noisy(t)
	g := w.open(t, high)
	d, _ := g.Make(api.KDir)
	if e := file.Write(g, d, 0, text(1, 480)); e != api.OK {
		t.Fatalf("Write = %d", e)
	}
	holds(t, g, d, text(1, 480))
	p, _ := g.Take()
	l, _ := g.MakeLink(9, int(p))
	var b api.Block
	copy(b[:], "/tmp/file")
	g.Put(p, b)
	holds(t, g, l, []byte("/tmp/file"))
	for _, k := range []api.Kind{api.KMulti, api.KFifo} {
		num, _ := g.Make(k)
		holds(t, g, num, nil)
	}
}
