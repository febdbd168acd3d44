package file_test

import (
	"bytes"
	"slices"
	"testing"

	"garrison/api"
	"garrison/file"
	"garrison/node"
)

// taking: the numbers that a file's blocks get, from the first on that aren't taken, in the order of the way to them, block by block: Single ahead of data block 6, Double ahead of 38, one of Double's ahead of that and of each 32nd behind it.
func taking(free []uint16, blocks int) (data, pointers []uint16) {
	next := func() uint16 {
		p := free[0]
		free = free[1:]
		return p
	}
	for i := range blocks {
		if i == 6 || i == 38 {
			pointers = append(pointers, next())
		}
		if i >= 38 && (i-38)%32 == 0 {
			pointers = append(pointers, next())
		}
		data = append(data, next())
	}
	return data, pointers
}

// counted: the numbers from 1 on, without some.
func counted(many int, without ...uint16) []uint16 {
	var out []uint16
	for p := uint16(1); int(p) <= many; p++ {
		if !slices.Contains(without, p) {
			out = append(out, p)
		}
	}
	return out
}

// P8.1: whatever parts a file is written in, its blocks have the same numbers; what is read is what was written; it is as long; nothing is said of other nodes.
func TestWriteParts(t *testing.T) {
	all := text(1, most)
	for _, part := range []int{64, 1, 13, 63, 65, 128, 384, 1000, 1472} {
		long := most
		if part == 1 {
			long = 3000
		}
		w := noisy(t)
		num, _ := w.open(t, mid).Make(api.KFile)
		for off := 0; off < long; off += part {
			if e := file.Write(w.open(t, mid), num, off, all[off:min(off+part, long)]); e != api.OK {
				t.Fatalf("Write at %d = %d", off, e)
			}
			w.commit(t)
		}
		g := w.open(t, mid)
		holds(t, g, num, all[:long])
		data, pointers := taking(counted(512), (long+63)/64)
		for i, want := range data {
			if p, e := file.Block(g, nodeOf(t, g, num), i); p != want || e != api.OK {
				t.Fatalf("in parts of %d: Block(%d) = %d, %d, wanted %d", part, i, p, e, want)
			}
		}
		if d, p, e := file.Blocks(g, nodeOf(t, g, num)); !slices.Equal(d, data) || !slices.Equal(p, pointers) || e != api.OK {
			t.Errorf("in parts of %d: Blocks = %v, %v, %d", part, d, p, e)
		}
		w.allRight(t)
	}
}

// P8.1: where others have blocks, the first that isn't taken is.
func TestWriteTakesFirst(t *testing.T) {
	w := noisy(t)
	g := w.open(t, high)
	others := []uint16{1, 3, 4, 8, 9, 20, 50}
	for range 60 {
		g.Take()
		w.commit(t)
	}
	for _, p := range counted(60, others...) {
		g.Give(p)
	}
	num, _ := g.Make(api.KFile)
	w.commit(t)
	for _, b := range [][]byte{text(1, 1500), text(2, 1100)} {
		n := nodeOf(t, g, num)
		if e := file.Write(g, num, int(n.Size), b); e != api.OK {
			t.Fatalf("Write = %d", e)
		}
		w.commit(t)
	}
	data, pointers := taking(counted(60, others...), 41)
	if d, p, e := file.Blocks(g, nodeOf(t, g, num)); !slices.Equal(d, data) || !slices.Equal(p, pointers) || e != api.OK {
		t.Errorf("Blocks = %v, %v, %d, wanted %v, %v", d, p, e, data, pointers)
	}
	holds(t, g, num, slices.Concat(text(1, 1500), text(2, 1100)))
}

// P8.1: at each edge of a block, of the ways and of a file: over what is there, at its end, beyond it; the bytes beside stay.
func TestWriteAt(t *testing.T) {
	base := noisy(t)
	num := base.make(t, mid, text(1, 2700))
	was := text(1, 2700)
	for _, off := range append(lengths(), 2699, 2700) {
		for _, many := range []int{0, 1, 2, 33, 64, 65, 100, 700} {
			if off > 2700 {
				continue
			}
			w := onto(t, base.d.Image())
			g := w.open(t, mid)
			before := nodeOf(t, g, num)
			b := text(2, many)
			if e := file.Write(g, num, off, b); e != api.OK {
				t.Fatalf("Write(%d, %d) = %d", off, many, e)
			}
			want := slices.Concat(was[:off], b)
			if len(want) < 2700 {
				want = append(want, was[len(want):]...)
			}
			holds(t, g, num, want)
			after := nodeOf(t, g, num)
			before.Size, before.Direct, before.Single, before.Double = after.Size, after.Direct, after.Single, after.Double
			if after != before {
				t.Errorf("Write(%d, %d): the node is %v, wanted %v", off, many, after, before)
			}
			w.allRight(t)
		}
	}
}

// P8.1: off is from 0 to the length; nothing else is, were there nothing to write.
func TestWriteRange(t *testing.T) {
	w := noisy(t)
	for _, size := range []int{0, 1, 64, 100, 384} {
		num := w.make(t, high, text(1, size))
		g := w.open(t, high)
		for _, off := range append(oddInts(), size+1, size+2, size+64, most, most+1) {
			for _, b := range [][]byte{nil, {}, {1}, make([]byte, most+1)} {
				if e := file.Write(g, num, off, b); e != api.ErrRange {
					t.Errorf("%d long: Write(%d, %d) = %d", size, off, len(b), e)
				}
			}
		}
		for off := range size + 1 {
			if e := file.Write(g, num, off, nil); e != api.OK {
				t.Errorf("%d long: Write(%d, nothing) = %d", size, off, e)
			}
		}
		if w.x.Len() != 0 {
			t.Errorf("%d long: what wrote nothing put something", size)
		}
		holds(t, g, num, text(1, size))
	}
}

// P8.1: 16384 bytes, and not one more, wherever it begins.
func TestWriteBig(t *testing.T) {
	w := noisy(t)
	all := text(1, most)
	num := w.make(t, mid, all[:most-100])
	g := w.open(t, mid)
	for _, x := range [][2]int{{most - 100, 101}, {most - 100, most}, {0, most + 1}, {0, most + 64}, {5, most}, {most - 101, 102}, {1, 1 << 20}} {
		if e := file.Write(g, num, x[0], make([]byte, x[1])); e != api.ErrBig {
			t.Errorf("Write(%d, %d) = %d", x[0], x[1], e)
		}
	}
	if w.x.Len() != 0 {
		t.Error("what was too big put something")
	}
	if e := file.Write(g, num, most-150, all[most-150:]); e != api.OK {
		t.Fatalf("Write up to %d = %d", most, e)
	}
	w.commit(t)
	holds(t, g, num, all)
	for off, want := range map[int]api.Errno{most: api.ErrBig, most - 1: api.ErrBig, most + 1: api.ErrRange} {
		if e := file.Write(g, num, off, []byte("ab")); e != want {
			t.Errorf("Write(%d, 2) = %d, wanted %d", off, e, want)
		}
	}
	if e := file.Write(g, num, most-1, all[:1]); e != api.OK {
		t.Errorf("Write(%d, 1) = %d", most-1, e)
	}
	if e := file.Write(g, num, most, nil); e != api.OK {
		t.Errorf("Write(%d, 0) = %d", most, e)
	}
	w.allRight(t)
}

// P8.1: the group's errors of the node, and a free one, are told ahead of all else.
func TestWriteErrors(t *testing.T) {
	bs := noisy(t).d.Image()
	geo, _ := noisy(t).c.Geo(high)
	bs[geo.Base+2][32] = 6 // node 4: of no kind
	w := onto(t, bs)
	g := w.open(t, high)
	for num, want := range map[int]api.Errno{0: api.ErrRange, -1: api.ErrRange, 17: api.ErrRange, 4: api.ErrForm, 2: api.ErrStale, 16: api.ErrStale} {
		for _, off := range append(oddInts(), 0, 1) {
			for _, b := range [][]byte{nil, {1}, make([]byte, most+1)} {
				if e := file.Write(g, num, off, b); e != want {
					t.Errorf("Write(%d, %d, %d) = %d, wanted %d", num, off, len(b), e, want)
				}
			}
		}
	}
	if w.x.Len() != 0 {
		t.Error("what failed put something")
	}
}

// P8.1: what a kind may not be: the group's error of the node.
func TestWriteKinds(t *testing.T) {
	for _, x := range []struct {
		k        api.Kind
		off, len int
		want     api.Errno
	}{
		{api.KMulti, 0, 1, api.ErrForm}, {api.KFifo, 0, 64, api.ErrForm}, {api.KMulti, 0, 0, api.OK}, {api.KFifo, 0, 0, api.OK},
		{api.KDir, 0, 16, api.OK}, {api.KDir, 0, 160, api.OK}, {api.KDir, 0, 17, api.ErrForm}, {api.KDir, 0, 15, api.ErrForm},
		{api.KLink, 0, 9, api.OK}, {api.KLink, 9, 51, api.OK}, {api.KLink, 9, 52, api.ErrForm}, {api.KLink, 0, 64, api.ErrForm},
	} {
		w := noisy(t)
		g := w.open(t, high)
		num, e := g.Make(x.k)
		if x.k == api.KLink {
			p, _ := g.Take()
			num, e = g.MakeLink(9, int(p))
			g.Put(p, api.Block{1, 2, 3, 4, 5, 6, 7, 8, 9})
		}
		if e != api.OK {
			t.Fatalf("Make(%d) = %d", x.k, e)
		}
		w.commit(t)
		if e := file.Write(g, num, x.off, text(1, x.len)); e != x.want {
			t.Errorf("kind %d: Write(%d, %d) = %d, wanted %d", x.k, x.off, x.len, e, x.want)
		}
		if x.want != api.OK { // who asked drops it
			w.x.Drop()
		}
		w.allRight(t)
		if x.want == api.OK && x.len > 0 {
			if got, _ := file.Read(g, num, x.off, x.len); !bytes.Equal(got, text(1, x.len)) {
				t.Errorf("kind %d: Read = %v", x.k, got)
			}
		}
	}
}

// P8.1, P6: with so many blocks left a file gets just as long as their number lets it, whatever others have; what got too few is as it was, once it is dropped.
func TestWriteSpace(t *testing.T) {
	for left := range 13 {
		for _, others := range []bool{false, true} {
			w := noisy(t)
			if others {
				w.fill(t, mid, 0)
				w.fill(t, high, 0)
			}
			w.fill(t, low, left)
			g := w.open(t, low)
			num, _ := g.Make(api.KFile)
			w.commit(t)
			fit := 64 * left
			if left > 6 { // one is of pointers
				fit = max(64*(left-1), 384)
			}
			was := w.d.Image()
			for _, many := range []int{fit + 1, fit + 64, fit + 200} {
				if e := file.Write(g, num, 0, text(1, many)); e != api.ErrSpace {
					t.Errorf("%d left: Write of %d = %d", left, many, e)
				}
				w.x.Drop()
			}
			if !slices.Equal(w.d.Image(), was) {
				t.Error("what got no block wrote")
			}
			holds(t, g, num, nil)
			if e := file.Write(g, num, 0, text(1, fit)); e != api.OK {
				t.Errorf("%d left: Write of %d = %d", left, fit, e)
			}
			w.commit(t)
			holds(t, g, num, text(1, fit))
			if e := file.Write(g, num, fit, []byte{1}); e != api.ErrSpace {
				t.Errorf("%d left: Write of one more = %d", left, e)
			}
			w.x.Drop()
			if fit > 0 { // what is there may be written again
				if e := file.Write(g, num, 0, text(2, fit)); e != api.OK || w.x.Commit() != api.OK {
					t.Errorf("%d left: Write of what is there = %d", left, e)
				}
				holds(t, g, num, text(2, fit))
			}
		}
	}
}

// fill: all a label's blocks are taken but so many, from the middle of the group on.
func (w world) fill(t *testing.T, lab, left int) {
	t.Helper()
	g := w.open(t, lab)
	geo, _ := w.c.Geo(lab)
	for range geo.Blocks {
		if _, e := g.Take(); e != api.OK {
			t.Fatalf("Take = %d", e)
		}
		if w.x.Len() > 20 {
			w.commit(t)
		}
	}
	for i := range left {
		if e := g.Give(uint16((geo.Blocks/2+i)%geo.Blocks + 1)); e != api.OK {
			t.Fatalf("Give = %d", e)
		}
	}
	w.commit(t)
}

// P8.1: another's blocks don't count: a label gets all its own while another is full, and has none of its bytes.
func TestWriteOthers(t *testing.T) {
	w := noisy(t)
	a := w.make(t, mid, text(1, 5000))
	b := w.make(t, high, text(2, 2000))
	c := w.make(t, low, text(3, 640)) // 10, and one of pointers
	was := w.d.Image()
	if e := file.Write(w.open(t, low), c, 640, text(4, 65)); e != api.ErrSpace {
		t.Errorf("Write = %d", e)
	}
	w.x.Drop()
	if e := file.Write(w.open(t, low), c, 640, text(4, 64)); e != api.OK {
		t.Errorf("Write = %d", e)
	}
	w.commit(t)
	now := w.d.Image()
	geo, _ := w.c.Geo(low)
	for i := range now {
		own := i >= geo.Base && i < geo.Data+geo.Blocks
		if i > api.LogBlocks+1 && !own && now[i] != was[i] {
			t.Errorf("block %d, another's, was written", i)
		}
	}
	holds(t, w.open(t, mid), a, text(1, 5000))
	holds(t, w.open(t, high), b, text(2, 2000))
	holds(t, w.open(t, low), c, slices.Concat(text(3, 640), text(4, 64)))
}

// P8.1: the transaction's errors: as much as there is room for is written, and no more: the bits, the table, data and pointers are 30 blocks; of what is there only itself is put.
func TestWriteMany(t *testing.T) {
	for _, x := range []struct {
		begin, off, many int
		puts             int // 0: too many
	}{
		{0, 0, 27 * 64, 30}, {0, 0, 27*64 + 1, 0}, {0, 0, 64, 3}, {0, 0, 6 * 64, 8}, {0, 0, 6*64 + 1, 10},
		{3000, 0, 64 * 30, 30}, {3000, 0, 64*30 + 1, 0}, {3000, 32, 64 * 29, 30}, {3000, 32, 64*29 + 33, 0},
		{3000, 3000, 8, 2}, {3000, 2999, 1, 1}, {3000, 3000, 9, 5}, {38 * 64, 38 * 64, 1, 5}, {6 * 64, 6 * 64, 1, 4}, {16383, 16383, 1, 2},
	} {
		w := noisy(t)
		num := w.make(t, mid, text(1, x.begin))
		g := w.open(t, mid)
		e := file.Write(g, num, x.off, text(2, x.many))
		if x.puts == 0 {
			if e != api.ErrMany || w.x.Commit() != api.ErrMany {
				t.Errorf("%v: Write = %d", x, e)
			}
			w.x.Drop()
			holds(t, g, num, text(1, x.begin))
			continue
		}
		if e != api.OK || w.x.Len() != x.puts {
			t.Errorf("%v: Write = %d, of %d blocks", x, e, w.x.Len())
		}
		w.allRight(t)
	}
}

// P8.1: blocks that lack are taken, wherever on the way they do; what is there stays.
func TestWriteLacks(t *testing.T) {
	w := noisy(t)
	g := w.open(t, mid)
	num, _ := g.Make(api.KFile)
	n := nodeOf(t, g, num)
	n.Size = 80 * 64
	for i := 1; i < 6; i++ {
		n.Direct[i], _ = g.Take()
	}
	if e := g.Set(num, n); e != api.OK {
		t.Fatalf("Set = %d", e)
	}
	for _, i := range []int{0, 20, 45, 79, 46, 21, 0, 45} {
		if e := file.Write(g, num, i*64+3, text(int64(i), 61)); e != api.OK {
			t.Fatalf("Write in block %d = %d", i, e)
		}
	}
	now := nodeOf(t, g, num)
	want := n
	want.Direct[0], want.Single, want.Double = 6, 7, 9
	if now != want {
		t.Errorf("the node is %v, wanted %v", now, want)
	}
	for i, want := range map[int]uint16{0: 6, 5: 5, 19: 0, 20: 8, 45: 11, 79: 13, 46: 14, 21: 15, 44: 0, 80: 0} {
		if p, e := file.Block(g, now, i); p != want || e != api.OK {
			t.Errorf("Block(%d) = %d, %d, wanted %d", i, p, e, want)
		}
	}
	for _, i := range []int{0, 20, 45, 79, 46, 21} {
		if got, e := file.Read(g, num, i*64, 64); !bytes.Equal(got, slices.Concat([]byte{0, 0, 0}, text(int64(i), 61))) || e != api.OK {
			t.Errorf("Read of block %d = %v, %d", i, got, e)
		}
	}
}

// P8.1: a file has no block beyond its length, nor one of pointers that it needs none of: at each length.
func TestWriteLengths(t *testing.T) {
	w := noisy(t)
	num, _ := w.open(t, mid).Make(api.KFile)
	w.commit(t)
	long := 0
	for _, size := range lengths() {
		if size < long {
			continue
		}
		w.grow(t, mid, num, text(1, size)[long:])
		long = size
		data, pointers := node.Spread(size)
		d, p, e := file.Blocks(w.open(t, mid), nodeOf(t, w.open(t, mid), num))
		if len(d) != data || len(p) != pointers || e != api.OK {
			t.Fatalf("%d long: Blocks = %v, %v, %d", size, d, p, e)
		}
		w.allRight(t)
	}
}

// R6: what is handed in is neither changed nor kept, spare room included.
func TestWriteKeeps(t *testing.T) {
	w := noisy(t)
	g := w.open(t, high)
	num, _ := g.Make(api.KFile)
	whole := text(1, 500)
	part := whole[100:300]
	if e := file.Write(g, num, 0, part); e != api.OK || !bytes.Equal(whole, text(1, 500)) {
		t.Errorf("Write = %d, or what was handed in is changed", e)
	}
	clear(whole)
	holds(t, g, num, text(1, 500)[100:300])
	got, _ := file.Read(g, num, 0, 200)
	if e := file.Write(g, num, 1, got); e != api.OK { // its own bytes, moved
		t.Errorf("Write = %d", e)
	}
	holds(t, g, num, slices.Concat(text(1, 500)[100:101], text(1, 500)[100:300]))
}
