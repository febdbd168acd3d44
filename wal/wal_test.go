package wal_test

import (
	"math"
	"slices"
	"testing"

	"garrison/api"
	"garrison/disk"
	"garrison/wal"
)

// block: one that no other number has, with something in its first and in its last byte.
func block(n int) api.Block {
	b := api.Block{0: byte(n) | 1, 1: byte(n), 2: byte(n >> 8), 3: byte(n >> 16)}
	b[api.BlockSize-1] = byte(n) ^ 255
	return b
}

// head: as the chapter's Words say it, byte by byte.
func head(places ...int) api.Block {
	b := api.Block{0xa1, 0x67, byte(len(places)), byte(len(places) / 256)}
	for i, n := range places {
		b[4+2*i], b[5+2*i] = byte(n%256), byte(n/256)
	}
	return b
}

// filled: a disk of n blocks, all different, none of noughts.
func filled(t *testing.T, n int) *disk.Disk {
	t.Helper()
	bs := make([]api.Block, n)
	for i := range bs {
		bs[i] = block(i)
	}
	return of(t, bs)
}

func of(t *testing.T, bs []api.Block) *disk.Disk {
	t.Helper()
	d, e := disk.Of(bs)
	if d == nil || e != api.OK {
		t.Fatalf("Of(%d blocks) = %v, %d", len(bs), d, e)
	}
	return d
}

func open(t *testing.T, d *disk.Disk, first int) *wal.Log {
	t.Helper()
	l, e := wal.Open(d, first)
	if l == nil || e != api.OK {
		t.Fatalf("Open(_, %d) = %v, %d", first, l, e)
	}
	return l
}

// made: a disk of n blocks, and its empty log.
func made(t *testing.T, n, first int) (*disk.Disk, *wal.Log) {
	t.Helper()
	d := filled(t, n)
	l := open(t, d, first)
	if e := l.Format(); e != api.OK {
		t.Fatalf("Format = %d", e)
	}
	return d, l
}

// laid: a disk of n blocks whose head, at first, is h.
func laid(t *testing.T, n, first int, h api.Block) (*disk.Disk, *wal.Log) {
	t.Helper()
	d := filled(t, n)
	if e := d.Write(first, h); e != api.OK {
		t.Fatalf("Write = %d", e)
	}
	return d, open(t, d, first)
}

func wrote(d *disk.Disk) int {
	_, w := d.Counts()
	return w
}

// write is a block that is written somewhere.
type write struct {
	at int
	b  api.Block
}

// onto: what the blocks are behind these writes.
func onto(bs []api.Block, ws []write) []api.Block {
	bs = slices.Clone(bs)
	for _, w := range ws {
		bs[w.at] = w.b
	}
	return bs
}

// recovered: what Recover has to write of a head of these places, its log at first.
func recovered(bs []api.Block, first int, places []int) []write {
	var ws []write
	for i, n := range places {
		ws = append(ws, write{n, bs[first+1+i]})
	}
	if len(ws) > 0 {
		ws = append(ws, write{first, head()})
	}
	return ws
}

// inOrder: does f write just these blocks, one by one in this order? It is let through 0, 1, 2 .. writes of a new disk each time, then all.
func inOrder(t *testing.T, name string, bs []api.Block, ws []write, f func(d *disk.Disk) api.Errno) {
	t.Helper()
	for k := range len(ws) {
		d := of(t, bs)
		d.Arm(k)
		if e := f(d); e != api.ErrDead || !d.Dead() {
			t.Fatalf("%s, %d writes let through: %d, wanted %d", name, k, e, api.ErrDead)
		}
		if !slices.Equal(d.Image(), onto(bs, ws[:k])) {
			t.Fatalf("%s, %d writes let through: wrote others", name, k)
		}
	}
	for _, k := range []int{len(ws), -1} {
		d := of(t, bs)
		d.Arm(k)
		if e := f(d); e != api.OK || d.Dead() || wrote(d) != len(ws) {
			t.Fatalf("%s, all let through: %d, %d writes, wanted %d", name, e, wrote(d), len(ws))
		}
		if !slices.Equal(d.Image(), onto(bs, ws)) {
			t.Fatalf("%s, all let through: wrote others", name)
		}
	}
}

// P4.1: the edges of where its head may be.
func TestOpen(t *testing.T) {
	for _, n := range []int{31, 32, 50, 61, 62, 63, 65535, 65536} {
		d := filled(t, n)
		for _, first := range []int{0, n - 31, (n - 31) / 2} {
			open(t, d, first)
		}
		for _, first := range []int{-1, -31, n - 30, n - 29, n - 1, n, n + 1, 1 << 32, math.MinInt, math.MinInt + 31, math.MaxInt, math.MaxInt - 31} {
			if l, e := wal.Open(d, first); l != nil || e != api.ErrRange {
				t.Errorf("Open of %d blocks, %d = %v, %d", n, first, l, e)
			}
		}
		if r, w := d.Counts(); r != 0 || w != 0 {
			t.Errorf("Open read %d, wrote %d", r, w)
		}
	}
	for n := range 31 {
		for _, first := range []int{-31, -1, 0, 1, n} {
			if l, e := wal.Open(filled(t, n), first); l != nil || e != api.ErrRange {
				t.Errorf("Open of %d blocks, %d = %v, %d", n, first, l, e)
			}
		}
	}
}

// P4.1: that there is no disk is told ahead of where the head is.
func TestOpenNoDisk(t *testing.T) {
	for _, first := range []int{0, 1, -1, math.MinInt, math.MaxInt} {
		if l, e := wal.Open(nil, first); l != nil || e != api.ErrNil {
			t.Errorf("Open(nil, %d) = %v, %d", first, l, e)
		}
	}
}

// P4.1: the head, and nothing else; whatever was there.
func TestFormat(t *testing.T) {
	for _, first := range []int{0, 1, 7, 20} {
		d, _ := laid(t, 51, first, head(40, 41))
		bs := d.Image()
		inOrder(t, "Format", bs, []write{{first, head()}}, func(d *disk.Disk) api.Errno {
			return open(t, d, first).Format()
		})
	}
	if head() != (api.Block{0xa1, 0x67}) || 0x67a1 != 26529 {
		t.Error("an empty log's head is another")
	}
}

// P4.1: each block of the log to its place in order, then the empty log's head; how many, also where the disk stops.
func TestRecover(t *testing.T) {
	all := make([]int, 30)
	for i := range all {
		all[i] = 69 - i
	}
	for _, x := range []struct {
		n, first int
		places   []int
	}{
		{31, 0, nil},
		{50, 1, nil},
		{50, 1, []int{40}},
		{50, 1, []int{0}},
		{50, 1, []int{49}},
		{50, 1, []int{0, 49, 32, 40}},
		{50, 19, []int{0, 18, 1}},
		{50, 1, []int{40, 41, 40}}, // the last of one place holds
		{70, 5, all},
		{70, 5, all[:29]},
		{600, 300, []int{255, 256, 257, 511, 512, 299, 331}},
		{65536, 1, []int{65535, 65534, 32768, 255, 256}},
	} {
		d, _ := laid(t, x.n, x.first, head(x.places...))
		bs := d.Image()
		inOrder(t, "Recover", bs, recovered(bs, x.first, x.places), func(d *disk.Disk) api.Errno {
			n, e := open(t, d, x.first).Recover()
			if n != len(x.places) {
				t.Errorf("Recover of %v = %d, %d", x.places, n, e)
			}
			return e
		})
	}
}

// P4.1: behind Recover the log is empty: once more does nothing, also of a disk that has stopped.
func TestRecoverAgain(t *testing.T) {
	d, l := laid(t, 50, 1, head(40, 33))
	if n, e := l.Recover(); n != 2 || e != api.OK {
		t.Fatalf("Recover = %d, %d", n, e)
	}
	bs, w := d.Image(), wrote(d)
	d.Arm(0)
	d.Write(0, block(1))
	for range 3 {
		if n, e := l.Recover(); n != 0 || e != api.OK {
			t.Errorf("Recover = %d, %d", n, e)
		}
	}
	if wrote(d) != w || !slices.Equal(d.Image(), bs) {
		t.Error("Recover of an empty log wrote")
	}
}

// P4.1: what stands in a head behind its places doesn't matter, nor what the places behind them would be.
func TestRecoverBehind(t *testing.T) {
	for _, places := range [][]int{nil, {40}, {40, 0}} {
		h := head(places...)
		for i := 4 + 2*len(places); i < len(h); i++ {
			h[i] = 255
		}
		d, l := laid(t, 50, 1, h)
		want := onto(d.Image(), recovered(d.Image(), 1, places))
		if n, e := l.Recover(); n != len(places) || e != api.OK {
			t.Errorf("Recover of %v = %d, %d", places, n, e)
		}
		if !slices.Equal(d.Image(), want) {
			t.Errorf("Recover of %v: others are written", places)
		}
	}
}

// manyHead: a head that says it has so many, all at block 40.
func manyHead(many int) api.Block {
	h := head(slices.Repeat([]int{40}, 30)...)
	h[2], h[3] = byte(many), byte(many>>8)
	return h
}

// P4.1: heads that aren't right: ErrImage, no number, and nothing is written, not even of the places that are right.
func TestRecoverErrors(t *testing.T) {
	bad := []api.Block{{}, block(1), {0x67, 0xa1}, {0xa1}, {0, 0x67}, {2: 0xa1, 3: 0x67}}
	for bit := range 16 {
		h := head(40)
		h[bit/8] ^= 1 << (bit % 8)
		bad = append(bad, h)
	}
	for _, many := range []int{31, 32, 62, 255, 256, 257, 30 + 256, 32768, 65535} {
		bad = append(bad, manyHead(many))
	}
	for _, place := range []int{5, 6, 20, 34, 35, 50, 51, 255, 256, 40 + 256, 65535} {
		bad = append(bad, head(place), head(40, 41, place), head(place, 40), head(append(slices.Repeat([]int{40}, 29), place)...))
	}
	for _, h := range bad {
		d, l := laid(t, 50, 5, h)
		want, w := d.Image(), wrote(d)
		for range 2 {
			if n, e := l.Recover(); n != 0 || e != api.ErrImage {
				t.Errorf("Recover of %v = %d, %d", h, n, e)
			}
			d.Arm(0)
		}
		if !slices.Equal(d.Image(), want) || wrote(d) != w {
			t.Errorf("Recover of %v wrote", h)
		}
	}
	for _, places := range [][]int{{4}, {36}, {49}, {0, 4, 36, 49}, slices.Repeat([]int{40}, 30)} {
		_, l := laid(t, 50, 5, head(places...))
		if n, e := l.Recover(); n != len(places) || e != api.OK {
			t.Errorf("Recover of %v = %d, %d", places, n, e)
		}
	}
}

// P4.1: one log of a disk isn't another's.
func TestTwoLogs(t *testing.T) {
	d := filled(t, 100)
	one, two := open(t, d, 0), open(t, d, 50)
	if one.Format() != api.OK || two.Format() != api.OK {
		t.Fatal("Format")
	}
	x, y := one.Begin(), two.Begin()
	if x.Put(90, block(900)) != api.OK || y.Put(40, block(901)) != api.OK || x.Put(60, block(902)) != api.OK || y.Put(60, block(903)) != api.ErrRange {
		t.Error("Put")
	}
	bs := d.Image()
	if e := x.Commit(); e != api.OK {
		t.Errorf("Commit = %d", e)
	}
	ws := []write{{1, block(902)}, {2, block(900)}, {60, block(902)}, {90, block(900)}}
	if !slices.Equal(d.Image(), onto(bs, ws)) {
		t.Error("Commit wrote others")
	}
}

// P1, P2, R7: nil objects, and such as nobody opened.
func TestNilAndEmpty(t *testing.T) {
	var none *wal.Log
	if e := none.Format(); e != api.ErrNil {
		t.Errorf("Format = %d", e)
	}
	if n, e := none.Recover(); n != 0 || e != api.ErrNil {
		t.Errorf("Recover = %d, %d", n, e)
	}
	if none.Begin() != nil {
		t.Error("Begin of a nil log")
	}
	empty := &wal.Log{}
	if e := empty.Format(); e != api.ErrNil {
		t.Errorf("Format = %d", e)
	}
	if n, e := empty.Recover(); n != 0 || e != api.ErrNil {
		t.Errorf("Recover = %d, %d", n, e)
	}
	for _, x := range []struct {
		t    *wal.Txn
		want api.Errno
	}{{nil, api.ErrNil}, {none.Begin(), api.ErrNil}, {&wal.Txn{}, api.ErrRange}, {empty.Begin(), api.ErrRange}} {
		x.t.Drop()
		for _, n := range []int{0, 1, -1, 40, math.MinInt, math.MaxInt} {
			if b, e := x.t.Get(n); b != (api.Block{}) || e != api.ErrNil {
				t.Errorf("Get(%d) = %v, %d", n, b, e)
			}
			if e := x.t.Put(n, block(1)); e != x.want {
				t.Errorf("Put(%d) = %d, wanted %d", n, e, x.want)
			}
		}
		if x.t.Len() != 0 || len(x.t.Blocks()) != 0 {
			t.Errorf("Len %d, Blocks %v", x.t.Len(), x.t.Blocks())
		}
		if e := x.t.Commit(); e != x.want {
			t.Errorf("Commit = %d, wanted %d", e, x.want)
		}
		x.t.Drop()
	}
}
