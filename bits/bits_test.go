package bits_test

import (
	"math"
	"math/rand"
	"slices"
	"testing"

	"garrison/api"
	"garrison/bits"
	"garrison/disk"
	"garrison/wal"
)

// logLen: a log's blocks, its head included; the logs of these tests begin at block 0.
const logLen = 31

// noise: n blocks of bytes that differ, in the same way each time.
func noise(n int) []api.Block {
	r := rand.New(rand.NewSource(int64(n)))
	bs := make([]api.Block, n)
	for i := range bs {
		r.Read(bs[i][:])
	}
	return bs
}

// full: n blocks of ones.
func full(n int) []api.Block {
	bs := make([]api.Block, n)
	for i := range bs {
		for k := range bs[i] {
			bs[i][k] = 255
		}
	}
	return bs
}

// onto: a disk of a log and these blocks behind it (the first of them is block 31), and a transaction of it.
func onto(t *testing.T, bs []api.Block) (*disk.Disk, *wal.Log, *wal.Txn) {
	t.Helper()
	d, e := disk.Of(append(make([]api.Block, logLen), bs...))
	if e != api.OK {
		t.Fatalf("Of = %d", e)
	}
	l, e := wal.Open(d, 0)
	if e != api.OK {
		t.Fatalf("Open = %d", e)
	}
	if e := l.Format(); e != api.OK {
		t.Fatalf("Format = %d", e)
	}
	return d, l, l.Begin()
}

func made(t *testing.T, x *wal.Txn, first, many int) *bits.Map {
	t.Helper()
	m, e := bits.New(x, first, many)
	if m == nil || e != api.OK {
		t.Fatalf("New(_, %d, %d) = %v, %d", first, many, m, e)
	}
	return m
}

// stands: the chapter's words for where bit i is, by division: is it set in these blocks?
func stands(bs []api.Block, i int) bool {
	v := int(bs[i/512][i/8%64])
	for range i % 8 {
		v /= 2
	}
	return v%2 == 1
}

// holds: does the map answer what these blocks, of so many bits, say?
func holds(t *testing.T, m *bits.Map, bs []api.Block, many int) {
	t.Helper()
	free := -1
	var list []int
	for i := range many {
		want := stands(bs, i)
		if on, e := m.Has(i); on != want || e != api.OK {
			t.Fatalf("of %d: Has(%d) = %v, %d, wanted %v", many, i, on, e, want)
		}
		if want {
			list = append(list, i)
		} else if free < 0 {
			free = i
		}
	}
	if n, e := m.Free(); n != free || e != api.OK {
		t.Errorf("of %d: Free = %d, %d, wanted %d", many, n, e, free)
	}
	if n, e := m.Count(); n != len(list) || e != api.OK {
		t.Errorf("of %d: Count = %d, %d, wanted %d", many, n, e, len(list))
	}
	if l, e := m.List(); !slices.Equal(l, list) || e != api.OK {
		t.Errorf("of %d: List = %v, %d, wanted %v", many, l, e, list)
	}
}

// fails: do all three look through, and answer this error?
func fails(t *testing.T, m *bits.Map, want api.Errno) {
	t.Helper()
	if n, e := m.Free(); n != -1 || e != want {
		t.Errorf("Free = %d, %d, wanted -1, %d", n, e, want)
	}
	if n, e := m.Count(); n != 0 || e != want {
		t.Errorf("Count = %d, %d, wanted 0, %d", n, e, want)
	}
	if l, e := m.List(); len(l) != 0 || e != want {
		t.Errorf("List = %v, %d, wanted none, %d", l, e, want)
	}
}

// edges: numbers of bits about the ends of bytes, of blocks, and of the last block's bytes.
func edges() []int {
	return []int{0, 1, 2, 7, 8, 9, 15, 16, 63, 64, 65, 255, 256, 504, 511, 512, 513, 520, 1023, 1024, 1025, 1535, 1536}
}

func outOf(many int) []int {
	return []int{-1, -8, -512, many, many + 1, many + 8, 1 << 32, math.MinInt, math.MaxInt}
}

// P5.1: its errors and their order; what it is given is not looked up on the disk.
func TestNew(t *testing.T) {
	d, _, x := onto(t, full(1))
	r, w := d.Counts()
	for _, n := range []int{0, 1, 31, 32, 512, 65535, 65536} {
		made(t, x, n, 8)
		made(t, x, 31, n)
		made(t, x, n, n)
	}
	for _, n := range []int{-1, -65536, 65537, 1 << 17, 1 << 32, math.MinInt, math.MaxInt} {
		for _, a := range [][2]int{{n, 8}, {31, n}, {n, n}, {n, 0}, {0, n}} {
			if m, e := bits.New(x, a[0], a[1]); m != nil || e != api.ErrRange {
				t.Errorf("New(_, %d, %d) = %v, %d", a[0], a[1], m, e)
			}
			if m, e := bits.New(nil, a[0], a[1]); m != nil || e != api.ErrNil {
				t.Errorf("New(nil, %d, %d) = %v, %d", a[0], a[1], m, e)
			}
		}
	}
	if m, e := bits.New(nil, 31, 8); m != nil || e != api.ErrNil {
		t.Errorf("New(nil, 31, 8) = %v, %d", m, e)
	}
	if nr, nw := d.Counts(); nr != r || nw != w || x.Len() != 0 {
		t.Error("New touched the disk")
	}
}

// P5.1: where a bit stands: block, byte, value of the byte when it alone is set.
var spots = []struct {
	i, block, at int
	v            byte
}{
	{0, 0, 0, 1}, {1, 0, 0, 2}, {2, 0, 0, 4}, {6, 0, 0, 64}, {7, 0, 0, 128},
	{8, 0, 1, 1}, {15, 0, 1, 128}, {16, 0, 2, 1}, {255, 0, 31, 128}, {256, 0, 32, 1},
	{504, 0, 63, 1}, {511, 0, 63, 128}, {512, 1, 0, 1}, {519, 1, 0, 128}, {520, 1, 1, 1},
	{1023, 1, 63, 128}, {1024, 2, 0, 1}, {1535, 2, 63, 128},
}

// P5.1
func TestHasSpots(t *testing.T) {
	for _, s := range spots {
		bs := make([]api.Block, 3)
		bs[s.block][s.at] = s.v
		_, _, x := onto(t, bs)
		m := made(t, x, 31, 1536)
		for i := range 1536 {
			if on, e := m.Has(i); on != (i == s.i) || e != api.OK {
				t.Fatalf("bit %d set: Has(%d) = %v, %d", s.i, i, on, e)
			}
		}
	}
}

// P5.1
func TestSetSpots(t *testing.T) {
	for _, s := range spots {
		for _, on := range []bool{true, false} {
			bs := make([]api.Block, 3)
			if !on {
				bs = full(3)
			}
			_, _, x := onto(t, bs)
			m := made(t, x, 31, 1536)
			if e := m.Set(s.i, on); e != api.OK {
				t.Fatalf("Set(%d, %v) = %d", s.i, on, e)
			}
			bs[s.block][s.at] ^= s.v
			if !slices.Equal(x.Blocks(), []int{31 + s.block}) {
				t.Errorf("Set(%d, %v): Blocks = %v", s.i, on, x.Blocks())
			}
			if b, _ := x.Get(31 + s.block); b != bs[s.block] {
				t.Errorf("Set(%d, %v): %v", s.i, on, b)
			}
			holds(t, m, bs, 1536)
		}
	}
}

// P5.1: all of noise, from several blocks on.
func TestHas(t *testing.T) {
	bs := noise(7)
	_, _, x := onto(t, bs)
	for k := range 4 {
		for _, many := range edges() {
			m := made(t, x, 31+k, many)
			for i := range many {
				if on, e := m.Has(i); on != stands(bs[k:], i) || e != api.OK {
					t.Fatalf("from %d: Has(%d) = %v, %d", 31+k, i, on, e)
				}
			}
		}
	}
	if x.Len() != 0 {
		t.Error("Has put")
	}
}

// P5.1, P5.2: from the disk's first block on, the log behind.
func TestFirstBlock(t *testing.T) {
	bs := noise(2)
	d, _ := disk.Of(append(slices.Clone(bs), make([]api.Block, logLen)...))
	l, e := wal.Open(d, 2)
	if e != api.OK {
		t.Fatalf("Open = %d", e)
	}
	m := made(t, l.Begin(), 0, 1000)
	holds(t, m, bs, 1000)
	for _, i := range []int{0, 999} {
		bs[i/512][i/8%64] ^= 1 << (i % 8)
		if e := m.Set(i, stands(bs, i)); e != api.OK {
			t.Errorf("Set(%d) = %d", i, e)
		}
	}
	holds(t, m, bs, 1000)
}

// P5.1: out of the bits that count, though the block is there.
func TestHasSetRange(t *testing.T) {
	for _, bs := range [][]api.Block{full(4), make([]api.Block, 4)} {
		d, _, x := onto(t, bs)
		for _, many := range edges() {
			m := made(t, x, 31, many)
			for _, i := range outOf(many) {
				if on, e := m.Has(i); on || e != api.ErrRange {
					t.Errorf("of %d: Has(%d) = %v, %d", many, i, on, e)
				}
				for _, on := range []bool{true, false} {
					if e := m.Set(i, on); e != api.ErrRange {
						t.Errorf("of %d: Set(%d, %v) = %d", many, i, on, e)
					}
				}
			}
		}
		if x.Len() != 0 || x.Commit() != api.OK || !slices.Equal(d.Image()[31:], bs) {
			t.Error("a Set out of range put")
		}
	}
}

// P5.1: one after the other in any order; the others stay.
func TestSet(t *testing.T) {
	r := rand.New(rand.NewSource(5))
	for _, many := range edges() {
		bs := noise(6)
		_, _, x := onto(t, bs)
		m := made(t, x, 32, many)
		for range min(many*2, 400) {
			i, on := r.Intn(many), r.Intn(2) == 1
			if e := m.Set(i, on); e != api.OK {
				t.Fatalf("Set(%d, %v) = %d", i, on, e)
			}
			if stands(bs[1:], i) != on {
				bs[1+i/512][i/8%64] ^= 1 << (i % 8)
			}
			if now, e := m.Has(i); now != on || e != api.OK {
				t.Fatalf("behind Set(%d, %v): Has = %v, %d", i, on, now, e)
			}
		}
		holds(t, m, bs[1:], many)
		for k, b := range bs {
			if got, _ := x.Get(31 + k); got != b {
				t.Errorf("of %d: block %d isn't as it was to be", many, 31+k)
			}
		}
	}
}

// P5.1: what is so already isn't Put: not in the log's blocks, where a Put fails, nor when there is no more room.
func TestSetSame(t *testing.T) {
	bs := noise(40)
	d, _, x := onto(t, bs)
	m := made(t, x, 31, 40*512)
	for i := range 40 * 512 {
		if e := m.Set(i, stands(bs, i)); e != api.OK {
			t.Fatalf("Set(%d) = %d", i, e)
		}
	}
	if x.Len() != 0 {
		t.Errorf("Len = %d", x.Len())
	}
	log := made(t, x, 5, 512)
	for i := range 512 {
		if e := log.Set(i, false); e != api.OK {
			t.Fatalf("Set(%d) in the log = %d", i, e)
		}
	}
	_, w := d.Counts()
	if e := x.Commit(); e != api.OK {
		t.Errorf("Commit = %d", e)
	}
	for k := range 30 {
		m.Set(k*512, !stands(bs, k*512))
	}
	if x.Len() != 30 {
		t.Errorf("Len = %d", x.Len())
	}
	for i := 30 * 512; i < 40*512; i++ {
		if e := m.Set(i, stands(bs, i)); e != api.OK {
			t.Fatalf("Set(%d) with no more room = %d", i, e)
		}
	}
	if _, now := d.Counts(); now != w {
		t.Error("wrote ahead of Commit")
	}
	if e := x.Commit(); e != api.OK {
		t.Errorf("Commit = %d", e)
	}
}

// P5.1: what comes back to what the disk has was Put all the same: it isn't so in the transaction.
func TestSetBack(t *testing.T) {
	_, _, x := onto(t, make([]api.Block, 1))
	m := made(t, x, 31, 8)
	m.Set(3, true)
	if e := m.Set(3, false); e != api.OK {
		t.Errorf("Set = %d", e)
	}
	holds(t, m, make([]api.Block, 1), 8)
}

// P5.1: the transaction's error of a Put: the log's block, the 31st block; a bit that doesn't count is told ahead of that.
func TestSetPutErrors(t *testing.T) {
	_, _, x := onto(t, make([]api.Block, 40))
	log := made(t, x, 5, 512)
	if e := log.Set(3, true); e != api.ErrRange {
		t.Errorf("Set in the log = %d", e)
	}
	if on, e := log.Has(3); on || e != api.OK {
		t.Errorf("Has behind it = %v, %d", on, e)
	}
	if e := x.Commit(); e != api.ErrRange {
		t.Errorf("Commit behind it = %d", e)
	}
	x.Drop()
	m := made(t, x, 31, 31*512)
	for k := range 30 {
		if e := m.Set(k*512+k, true); e != api.OK {
			t.Fatalf("Set(%d) = %d", k*512+k, e)
		}
	}
	if e := m.Set(31*512, true); e != api.ErrRange {
		t.Errorf("Set out of range = %d", e)
	}
	if e := m.Set(30*512, true); e != api.ErrMany {
		t.Errorf("Set in the 31st block = %d", e)
	}
	if on, e := m.Has(30 * 512); on || e != api.OK {
		t.Errorf("Has behind it = %v, %d", on, e)
	}
	if e := m.Set(29*512, true); e != api.OK {
		t.Errorf("Set in the 30th block = %d", e)
	}
}

// P5.1: a block that the disk doesn't have: nothing is Put, so that Commit goes on.
func TestNoSuchBlock(t *testing.T) {
	d, _, x := onto(t, make([]api.Block, 2))
	for _, first := range []int{31, 32, 33, 34, 65536} {
		m := made(t, x, first, 65536)
		for i := 0; i < 65536; i += 511 {
			want := api.OK
			if first+i/512 >= 33 {
				want = api.ErrRange
			}
			if on, e := m.Has(i); on || e != want {
				t.Errorf("from %d: Has(%d) = %v, %d", first, i, on, e)
			}
			if e := m.Set(i, false); e != want {
				t.Errorf("from %d: Set(%d, false) = %d", first, i, e)
			}
			if want != api.OK && m.Set(i, true) != want {
				t.Errorf("from %d: Set(%d, true) isn't %d", first, i, want)
			}
		}
	}
	if x.Len() != 0 || x.Commit() != api.OK || d.Len() != 33 {
		t.Error("what failed was Put")
	}
}

// P5.2: of noise, of ones, of noughts; whatever stands behind the bits that count.
func TestLook(t *testing.T) {
	for _, bs := range [][]api.Block{noise(5), full(5), make([]api.Block, 5)} {
		_, _, x := onto(t, bs)
		for _, many := range edges() {
			for k := range 2 {
				holds(t, made(t, x, 31+k, many), bs[k:], many)
			}
		}
		if x.Len() != 0 {
			t.Error("a look put")
		}
	}
}

// P5.2: the first of few that aren't set.
func TestFree(t *testing.T) {
	for _, many := range edges() {
		bs := full(4)
		_, _, x := onto(t, bs)
		m := made(t, x, 31, many)
		for i := many; i < 4*512; i++ {
			made(t, x, 31, 4*512).Set(i, false)
		}
		if n, e := m.Free(); n != -1 || e != api.OK {
			t.Errorf("of %d, all set: Free = %d, %d", many, n, e)
		}
		for i := many - 1; i >= 0; i -= 1 + i/3 {
			if e := m.Set(i, false); e != api.OK {
				t.Fatalf("Set = %d", e)
			}
			if n, e := m.Free(); n != i || e != api.OK {
				t.Errorf("of %d: Free = %d, %d, wanted %d", many, n, e, i)
			}
		}
	}
}

// P5.2: all are taken one by one, the first free one each time; then two are given back.
func TestTake(t *testing.T) {
	_, _, x := onto(t, full(3))
	m := made(t, x, 31, 1100)
	for i := range 1100 {
		m.Set(i, false)
	}
	for i := range 1100 {
		if n, e := m.Free(); n != i || e != api.OK {
			t.Fatalf("Free = %d, %d, wanted %d", n, e, i)
		}
		if n, e := m.Count(); n != i || e != api.OK {
			t.Fatalf("Count = %d, %d, wanted %d", n, e, i)
		}
		m.Set(i, true)
	}
	if n, e := m.Free(); n != -1 || e != api.OK {
		t.Errorf("Free = %d, %d", n, e)
	}
	m.Set(700, false)
	m.Set(600, false)
	if n, _ := m.Free(); n != 600 {
		t.Errorf("Free = %d", n)
	}
}

// P5.2: as many as there may be.
func TestMost(t *testing.T) {
	bs := full(128)
	_, _, x := onto(t, bs)
	m := made(t, x, 31, 65536)
	if n, e := m.Free(); n != -1 || e != api.OK {
		t.Errorf("Free = %d, %d", n, e)
	}
	if n, e := m.Count(); n != 65536 || e != api.OK {
		t.Errorf("Count = %d, %d", n, e)
	}
	m.Set(65535, false)
	if n, e := m.Free(); n != 65535 || e != api.OK {
		t.Errorf("Free = %d, %d", n, e)
	}
	if l, e := m.List(); len(l) != 65535 || l[65534] != 65534 || e != api.OK {
		t.Errorf("List has %d, %d", len(l), e)
	}
	if b, _ := x.Get(158); b[63] != 127 {
		t.Errorf("the last byte is %d", b[63])
	}
}

// P5.2: beside a transaction's error there is nothing, though some bits were seen; what is found ahead of it is found.
func TestLookErrors(t *testing.T) {
	_, _, x := onto(t, full(2))
	for _, first := range []int{33, 34, 65536} {
		for _, many := range []int{1, 8, 512, 65536} {
			fails(t, made(t, x, first, many), api.ErrRange)
		}
		holds(t, made(t, x, first, 0), nil, 0)
	}
	for _, many := range []int{1025, 1536, 65536} {
		fails(t, made(t, x, 31, many), api.ErrRange)
	}
	m := made(t, x, 31, 1025)
	m.Set(1023, false)
	if n, e := m.Free(); n != 1023 || e != api.OK {
		t.Errorf("Free = %d, %d", n, e)
	}
	if n, e := m.Count(); n != 0 || e != api.ErrRange {
		t.Errorf("Count = %d, %d", n, e)
	}
	if l, e := m.List(); len(l) != 0 || e != api.ErrRange {
		t.Errorf("List = %v, %d", l, e)
	}
}

// P1, R7: nil, and what nobody made.
func TestNil(t *testing.T) {
	var none *bits.Map
	for _, i := range append(outOf(8), 0, 5) {
		if on, e := none.Has(i); on || e != api.ErrNil {
			t.Errorf("Has(%d) of nil = %v, %d", i, on, e)
		}
		if e := none.Set(i, true); e != api.ErrNil {
			t.Errorf("Set(%d) of nil = %d", i, e)
		}
		if on, e := new(bits.Map).Has(i); on || e != api.ErrRange {
			t.Errorf("Has(%d) of no bits = %v, %d", i, on, e)
		}
		if e := new(bits.Map).Set(i, true); e != api.ErrRange {
			t.Errorf("Set(%d) of no bits = %d", i, e)
		}
	}
	fails(t, none, api.ErrNil)
	holds(t, new(bits.Map), nil, 0)
	m := made(t, new(wal.Txn), 0, 8) // of no disk
	if on, e := m.Has(3); on || e != api.ErrNil {
		t.Errorf("Has of no disk = %v, %d", on, e)
	}
	if e := m.Set(3, true); e != api.ErrNil {
		t.Errorf("Set of no disk = %d", e)
	}
	fails(t, m, api.ErrNil)
}

// P2, R6: a list is new memory; nor does what is done with it come into the next one.
func TestListIsNew(t *testing.T) {
	_, _, x := onto(t, full(1))
	m := made(t, x, 31, 20)
	a, _ := m.List()
	b, _ := m.List()
	for i := range a {
		a[i] = -7
	}
	a = append(a[:3], 99, 98)
	c, _ := m.List()
	if !slices.Equal(b, c) || b[0] != 0 || b[19] != 19 {
		t.Errorf("List = %v, %v behind a change of %v", b, c, a)
	}
}

// P2, R8: nothing is kept but the transaction: another map of it, another hand, Drop, Commit are seen.
func TestKeepsNothing(t *testing.T) {
	d, l, x := onto(t, make([]api.Block, 2))
	m, n := made(t, x, 31, 1024), made(t, x, 32, 512)
	n.Set(5, true)
	if on, _ := m.Has(517); !on {
		t.Error("another map's bit isn't seen")
	}
	x.Put(31, full(1)[0])
	if k, _ := m.Count(); k != 513 {
		t.Errorf("Count = %d", k)
	}
	if k, _ := m.Free(); k != 512 {
		t.Errorf("Free = %d", k)
	}
	x.Drop()
	holds(t, m, make([]api.Block, 2), 1024)
	m.Set(600, true)
	other := made(t, l.Begin(), 31, 1024)
	holds(t, other, make([]api.Block, 2), 1024)
	if e := x.Commit(); e != api.OK {
		t.Errorf("Commit = %d", e)
	}
	holds(t, other, d.Image()[31:], 1024)
	if on, e := other.Has(600); !on || e != api.OK {
		t.Errorf("Has behind Commit = %v, %d", on, e)
	}
}

// The chapter's example.
func TestExample(t *testing.T) {
	_, _, x := onto(t, make([]api.Block, 1))
	m := made(t, x, 31, 8)
	for _, i := range []int{3, 0, 1} {
		m.Set(i, true)
	}
	if n, e := m.Free(); n != 2 || e != api.OK {
		t.Errorf("Free = %d, %d", n, e)
	}
	if n, e := m.Count(); n != 3 || e != api.OK {
		t.Errorf("Count = %d, %d", n, e)
	}
	if l, e := m.List(); !slices.Equal(l, []int{0, 1, 3}) || e != api.OK {
		t.Errorf("List = %v, %d", l, e)
	}
}
