package wal_test

import (
	"math"
	"math/rand"
	"slices"
	"testing"

	"garrison/api"
	"garrison/disk"
	"garrison/wal"
)

// begin: a transaction of the log of d whose head is at first, with these Put.
func begin(t *testing.T, d *disk.Disk, first int, ws []write) *wal.Txn {
	t.Helper()
	x := open(t, d, first).Begin()
	if x == nil {
		t.Fatal("Begin = nil")
	}
	for _, w := range ws {
		if e := x.Put(w.at, w.b); e != api.OK {
			t.Fatalf("Put(%d) = %d", w.at, e)
		}
	}
	return x
}

// has: are just these to be written?
func has(t *testing.T, x *wal.Txn, want ...int) {
	t.Helper()
	if x.Len() != len(want) || !slices.Equal(x.Blocks(), want) {
		t.Errorf("Len = %d, Blocks = %v, wanted %v", x.Len(), x.Blocks(), want)
	}
}

// gets: is block n as it will be b?
func gets(t *testing.T, x *wal.Txn, n int, b api.Block) {
	t.Helper()
	if got, e := x.Get(n); got != b || e != api.OK {
		t.Errorf("Get(%d) = %v, %d, wanted %v", n, got, e, b)
	}
}

// run: puts of these blocks, by numbers that tell them apart.
func run(places ...int) []write {
	var ws []write
	for i, n := range places {
		ws = append(ws, write{n, block(1000 + i)})
	}
	return ws
}

// many: so many puts, of blocks from 40 on, falling.
func many(n int) []write {
	var places []int
	for i := range n {
		places = append(places, 39+n-i)
	}
	return run(places...)
}

// committed: what Commit has to write: into the log, rising; the head; to their places; the empty head.
func committed(first int, puts []write) []write {
	last := map[int]api.Block{}
	var places []int
	for _, w := range puts {
		if _, ok := last[w.at]; !ok {
			places = append(places, w.at)
		}
		last[w.at] = w.b
	}
	slices.Sort(places)
	var ws, home []write
	for i, n := range places {
		ws = append(ws, write{first + 1 + i, last[n]})
		home = append(home, write{n, last[n]})
	}
	if len(ws) == 0 {
		return nil
	}
	ws = append(append(ws, write{first, head(places...)}), home...)
	return append(ws, write{first, head()})
}

// P4.2
func TestBegin(t *testing.T) {
	d, l := made(t, 50, 1)
	w := wrote(d)
	x := l.Begin()
	has(t, x)
	for n := range 50 {
		b, _ := d.Read(n)
		gets(t, x, n, b)
	}
	d.Arm(0)
	if e := x.Commit(); e != api.OK || d.Dead() || wrote(d) != w {
		t.Errorf("Commit of nothing = %d", e)
	}
}

// P4.2: the block that was Put last, else the disk's.
func TestGet(t *testing.T) {
	d, l := made(t, 50, 1)
	x := l.Begin()
	for i := range 3 {
		if e := x.Put(40, block(400+i)); e != api.OK {
			t.Errorf("Put = %d", e)
		}
		gets(t, x, 40, block(400+i))
		gets(t, x, 41, block(41))
		gets(t, x, 1, head())
		gets(t, x, 2, block(2))
	}
	x.Put(0, api.Block{})
	gets(t, x, 0, api.Block{})
	if b, _ := d.Read(40); b != block(40) {
		t.Error("Put wrote")
	}
	d.Write(41, block(500))
	d.Write(40, block(501))
	gets(t, x, 41, block(500))
	gets(t, x, 40, block(402))
	for _, n := range []int{-1, 50, 51, 65536, math.MinInt, math.MaxInt} {
		if b, e := x.Get(n); b != (api.Block{}) || e != api.ErrRange {
			t.Errorf("Get(%d) = %v, %d", n, b, e)
		}
	}
	d.Arm(0)
	d.Write(0, block(1))
	gets(t, x, 40, block(402))
	gets(t, x, 39, block(39))
	has(t, x, 0, 40)
}

// P4.2: neither out of the disk nor the log's, its head included.
func TestPutRange(t *testing.T) {
	for _, first := range []int{0, 1, 10, 19} {
		_, l := made(t, 50, first)
		x := l.Begin()
		var want []int
		for n := -3; n < 54; n++ {
			before := x.Len()
			e := x.Put(n, block(n))
			switch {
			case n < 0 || n >= 50 || n >= first && n <= first+30:
				if e != api.ErrRange || x.Len() != before {
					t.Errorf("log at %d: Put(%d) = %d", first, n, e)
				}
			case e != api.OK:
				t.Errorf("log at %d: Put(%d) = %d", first, n, e)
			default:
				want = append(want, n)
				gets(t, x, n, block(n))
			}
		}
		has(t, x, want...)
		for _, n := range []int{1 << 16, 1 << 32, 1<<32 + 40, math.MinInt, math.MaxInt} {
			if e := x.Put(n, block(1)); e != api.ErrRange {
				t.Errorf("Put(%d) = %d", n, e)
			}
		}
		gets(t, x, first, head())
		gets(t, x, first+30, block(first+30))
		has(t, x, want...)
	}
}

// P4.2: thirty are let in; one of them again isn't the 31st; a block that isn't there is told ahead of too many.
func TestPutMany(t *testing.T) {
	d, _ := made(t, 100, 1)
	x := begin(t, d, 1, many(30))
	for _, n := range []int{40, 69, 55} {
		if e := x.Put(n, block(2000+n)); e != api.OK {
			t.Errorf("Put(%d) again = %d", n, e)
		}
		gets(t, x, n, block(2000+n))
	}
	if e := x.Commit(); e != api.OK {
		t.Errorf("Commit of 30 = %d", e)
	}
	x = begin(t, d, 1, many(30))
	for _, n := range []int{39, 70, 0} {
		old, _ := d.Read(n)
		if e := x.Put(n, block(1)); e != api.ErrMany {
			t.Errorf("Put(%d) = %d", n, e)
		}
		gets(t, x, n, old)
	}
	for _, n := range []int{-1, 1, 31, 100} {
		if e := x.Put(n, block(1)); e != api.ErrRange {
			t.Errorf("Put(%d) = %d", n, e)
		}
	}
	if x.Len() != 30 || x.Put(50, block(3)) != api.OK {
		t.Errorf("Len = %d", x.Len())
	}
}

// P4.2
func TestBlocks(t *testing.T) {
	d, _ := made(t, 600, 200)
	x := begin(t, d, 200, run(500, 3, 256, 255, 0, 3, 599, 500))
	has(t, x, 0, 3, 255, 256, 500, 599)
	for range 50 {
		y := begin(t, d, 200, many(30))
		if bs := y.Blocks(); !slices.IsSorted(bs) || len(bs) != 30 || bs[0] != 40 || bs[29] != 69 {
			t.Fatalf("Blocks = %v", bs)
		}
	}
}

// P4.2
func TestDrop(t *testing.T) {
	d, l := made(t, 50, 1)
	bs, w := d.Image(), wrote(d)
	x := begin(t, d, 1, run(40, 41))
	x.Drop()
	has(t, x)
	gets(t, x, 40, block(40))
	if e := x.Commit(); e != api.OK || wrote(d) != w || !slices.Equal(d.Image(), bs) {
		t.Errorf("Commit behind Drop = %d", e)
	}
	x.Put(42, block(420))
	has(t, x, 42)
	if e := x.Commit(); e != api.OK || !slices.Equal(d.Image(), onto(bs, committed(1, []write{{42, block(420)}}))) {
		t.Errorf("Commit = %d", e)
	}
	y := l.Begin()
	y.Drop()
	y.Drop()
	has(t, y)
}

// P4.2: in this order, and no others; the disk's first error ends it.
func TestCommit(t *testing.T) {
	for _, x := range []struct {
		n, first int
		puts     []write
	}{
		{32, 0, nil},
		{32, 0, run(31)},
		{32, 1, run(0)},
		{50, 1, run(40)},
		{50, 1, run(49, 0, 40)},
		{50, 1, run(41, 40, 41)},
		{100, 1, many(29)},
		{100, 1, many(30)},
		{100, 5, append(many(30), run(50, 69, 40)...)},
		{700, 300, run(600, 299, 255, 256, 257, 331, 512)},
		{65536, 65505, run(65504, 0, 32768, 256, 255)},
		{65536, 1, run(65535, 65534, 32)},
	} {
		d, _ := made(t, x.n, x.first)
		inOrder(t, "Commit", d.Image(), committed(x.first, x.puts), func(d *disk.Disk) api.Errno {
			return begin(t, d, x.first, x.puts).Commit()
		})
	}
}

// P4.2: a log that was never formatted, or isn't empty, is written likewise.
func TestCommitOver(t *testing.T) {
	for _, h := range []api.Block{{}, block(7), head(44, 45, 46), manyHead(65535)} {
		d, _ := laid(t, 50, 1, h)
		puts := run(41, 40)
		inOrder(t, "Commit", d.Image(), committed(1, puts), func(d *disk.Disk) api.Errno {
			return begin(t, d, 1, puts).Commit()
		})
	}
}

// P4.2: till the head is written all is still to be written; from then on nothing.
func TestCommitLeaves(t *testing.T) {
	for k := -1; k <= 6; k++ { // of 2 in the log, the head, 2 at their places, the empty head
		d, _ := made(t, 50, 1)
		x := begin(t, d, 1, run(41, 40))
		bs := d.Image()
		d.Arm(k)
		e := x.Commit()
		if want := k < 0 || k == 6; (e == api.OK) != want || !want && e != api.ErrDead {
			t.Errorf("%d writes: Commit = %d", k, e)
		}
		if k >= 3 || k < 0 {
			has(t, x)
			b, _ := d.Read(40)
			gets(t, x, 40, b)
			if e := x.Commit(); e != api.OK {
				t.Errorf("%d writes: Commit again = %d", k, e)
			}
			continue
		}
		has(t, x, 40, 41)
		gets(t, x, 40, block(1001))
		gets(t, x, 41, block(1000))
		if e := x.Commit(); e != api.ErrDead {
			t.Errorf("%d writes: Commit again = %d", k, e)
		}
		d.Wake()
		if e := x.Commit(); e != api.OK || !slices.Equal(d.Image(), onto(bs, committed(1, run(41, 40)))) {
			t.Errorf("%d writes: Commit behind Wake = %d", k, e)
		}
		has(t, x)
	}
}

// P4.2: the first error of a Put ends it, till Drop; nothing is written, and what is to be written stays.
func TestCommitOfErrors(t *testing.T) {
	for _, x := range []struct {
		bad  []int // what is Put behind the thirty
		want api.Errno
	}{
		{[]int{-1}, api.ErrRange},
		{[]int{100}, api.ErrRange},
		{[]int{1}, api.ErrRange},
		{[]int{31}, api.ErrRange},
		{[]int{70}, api.ErrMany},
		{[]int{70, -1, 31}, api.ErrMany},
		{[]int{31, 70}, api.ErrRange},
		{[]int{70, 40, 50}, api.ErrMany}, // some that are right behind it
		{[]int{math.MinInt, 71, 40}, api.ErrRange},
	} {
		d, _ := made(t, 100, 1)
		bs, w := d.Image(), wrote(d)
		tx := begin(t, d, 1, many(30))
		for _, n := range x.bad {
			tx.Put(n, block(5))
		}
		for range 3 {
			if e := tx.Commit(); e != x.want || tx.Len() != 30 {
				t.Errorf("%v: Commit = %d, %d blocks", x.bad, e, tx.Len())
			}
		}
		d.Arm(0)
		if e := tx.Commit(); e != x.want || d.Dead() {
			t.Errorf("%v: Commit = %d", x.bad, e)
		}
		d.Wake()
		if wrote(d) != w || !slices.Equal(d.Image(), bs) {
			t.Errorf("%v: Commit wrote", x.bad)
		}
		tx.Drop()
		has(t, tx)
		if e := tx.Commit(); e != api.OK {
			t.Errorf("%v: Commit behind Drop = %d", x.bad, e)
		}
		tx.Put(33, block(330))
		if e := tx.Commit(); e != api.OK || !slices.Equal(d.Image(), onto(bs, committed(1, []write{{33, block(330)}}))) {
			t.Errorf("%v: Commit = %d", x.bad, e)
		}
	}
}

// P4.2: an error of a Put alone, with nothing to be written; an error of Get is none of Put's.
func TestCommitOfErrorAlone(t *testing.T) {
	_, l := made(t, 50, 1)
	x := l.Begin()
	x.Get(-1)
	if e := x.Commit(); e != api.OK {
		t.Errorf("Commit = %d", e)
	}
	x.Put(50, block(1))
	has(t, x)
	if e := x.Commit(); e != api.ErrRange {
		t.Errorf("Commit = %d", e)
	}
	if y := l.Begin(); y.Put(49, block(1)) != api.OK || y.Commit() != api.OK {
		t.Error("another transaction has the error too")
	}
}

// P4.2: two transactions of one log know nothing of each other till Commit.
func TestTwoTransactions(t *testing.T) {
	d, l := made(t, 50, 1)
	x, y := l.Begin(), l.Begin()
	x.Put(40, block(1))
	x.Put(41, block(2))
	y.Put(40, block(3))
	gets(t, y, 41, block(41))
	if e := x.Commit(); e != api.OK {
		t.Errorf("Commit = %d", e)
	}
	has(t, y, 40)
	gets(t, y, 40, block(3))
	gets(t, y, 41, block(2))
	if e := y.Commit(); e != api.OK {
		t.Errorf("Commit = %d", e)
	}
	if b, _ := d.Read(40); b != block(3) {
		t.Error("the second isn't written")
	}
	x.Put(42, block(4))
	x.Put(-1, block(4))
	if e := y.Commit(); e != api.OK || x.Len() != 1 || y.Len() != 0 {
		t.Errorf("Commit = %d", e)
	}
}

// The chapter's example.
func TestExamples(t *testing.T) {
	d, l := made(t, 50, 1)
	bs := d.Image()
	four := []write{{2, block(9)}, {1, head(40)}, {40, block(9)}, {1, head()}}
	inOrder(t, "Commit", bs, four, func(d *disk.Disk) api.Errno {
		return begin(t, d, 1, []write{{40, block(9)}}).Commit()
	})
	x := l.Begin()
	x.Put(40, block(9))
	if w := wrote(d); x.Commit() != api.OK || wrote(d) != w+4 {
		t.Error("not four")
	}
}

// apart: the blocks that aren't the log's.
func apart(bs []api.Block, first int) []api.Block {
	return slices.Concat(bs[:first], bs[first+31:])
}

// recoverStopped: Recover of d, that stops behind k writes; then Wake and Recover, that stops again behind k2 of them; then to its end.
func recoverStopped(t *testing.T, d *disk.Disk, first, k, k2 int) {
	t.Helper()
	for _, stop := range []int{k, k2} {
		d.Wake()
		d.Arm(stop)
		if _, e := open(t, d, first).Recover(); e != api.OK && e != api.ErrDead {
			t.Fatalf("Recover = %d", e)
		}
	}
	d.Wake()
	if _, e := open(t, d, first).Recover(); e != api.OK {
		t.Fatalf("Recover = %d", e)
	}
}

// P4.3, P5: wherever Commit stops, and then wherever Recover does, twice: all, if the head was written, else none; what was committed ahead stays.
func TestStops(t *testing.T) {
	for _, x := range []struct {
		n, first int
		puts     []write
	}{{32, 1, run(0)}, {50, 1, run(41, 0, 49)}, {50, 19, run(3, 0, 18, 3)}, {100, 1, many(9)}, {100, 5, many(30)}} {
		made, l := made(t, x.n, x.first)
		ahead := l.Begin()
		ahead.Put(x.puts[0].at, block(77))
		if ahead.Commit() != api.OK {
			t.Fatal("Commit")
		}
		bs := made.Image()
		ws := committed(x.first, x.puts)
		headAt := len(ws) / 2 // so many, the head; so many, the empty head
		before, behind := apart(bs, x.first), apart(onto(bs, ws), x.first)
		for k := range len(ws) + 1 {
			want := before
			if k >= headAt {
				want = behind
			}
			for k2 := range headAt + 1 {
				for _, k3 := range []int{0, 1, headAt / 2, headAt} {
					d := of(t, bs)
					d.Arm(k)
					begin(t, d, x.first, x.puts).Commit()
					recoverStopped(t, d, x.first, k2, k3)
					if !slices.Equal(apart(d.Image(), x.first), want) {
						t.Fatalf("%d puts, stopped behind %d, %d and %d writes: neither all nor none, or the other", len(x.puts), k, k2, k3)
					}
					if n, e := open(t, d, x.first).Recover(); n != 0 || e != api.OK {
						t.Fatalf("the log isn't empty: %d, %d", n, e)
					}
				}
			}
		}
	}
}

// P4.3: a stop and a Recover, then the next Commit, over and over.
func TestStopsInRows(t *testing.T) {
	r := rand.New(rand.NewSource(4))
	for range 200 {
		d, _ := made(t, 60, 10)
		now := apart(d.Image(), 10)
		for range 12 {
			var puts []write
			for range 1 + r.Intn(8) {
				puts = append(puts, write{(41 + r.Intn(29)) % 60, block(r.Intn(1 << 20))})
			}
			to := apart(onto(d.Image(), committed(10, puts)), 10)
			stop := r.Intn(20) - 1
			d.Arm(stop)
			e := begin(t, d, 10, puts).Commit()
			recoverStopped(t, d, 10, r.Intn(10), r.Intn(10))
			got := apart(d.Image(), 10)
			if all := slices.Equal(got, to); !all && (e == api.OK || !slices.Equal(got, now)) {
				t.Fatalf("stopped behind %d of %d puts: neither all nor none", stop, len(puts))
			}
			now = got
		}
	}
}

// P2, R6: what Blocks answers is new, and what is handed in isn't kept.
func TestNothingShared(t *testing.T) {
	d, _ := made(t, 50, 1)
	x := begin(t, d, 1, run(42, 40, 41))
	bs := x.Blocks()
	clear(bs)
	bs = append(bs, 7)
	has(t, x, 40, 41, 42)
	b := block(5)
	x.Put(43, b)
	b[0]++
	gets(t, x, 43, block(5))
	got, _ := x.Get(43)
	got[0]++
	gets(t, x, 43, block(5))
	if e := x.Commit(); e != api.OK {
		t.Errorf("Commit = %d", e)
	}
	has(t, x)
}
