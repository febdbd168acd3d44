package fsck_test

import (
	"math/rand"
	"reflect"
	"slices"
	"testing"

	"garrison/api"
	"garrison/conf"
	"garrison/disk"
	"garrison/fsck"
	"garrison/wal"
)

// P14.2: as the transaction has it, not as the disk still is.
func TestAsTheTransactionHasIt(t *testing.T) {
	p := plant(t)
	if e := p.x.Put(0, api.Block{}); e != api.OK {
		t.Fatalf("Put = %d", e)
	}
	p.isWrong(t, "a block 0 that is to be noughts")
	if l := fsck.Check(p.l.Begin(), p.c); len(l) > 0 {
		t.Errorf("P14.2: the disk: %v", l)
	}
	p.x.Drop()
	p.isRight(t, "dropped")
	// The disk is wrong, the transaction mends it.
	bs := p.d.Image()
	at := p.data(t, low, 1)
	for _, n := range []int{0, p.geo(t, left).Base, at} {
		q := p.copied(t)
		q.put(t, n, api.Block{255, 255, 255})
		q.isWrong(t, "a block of noise")
		if e := q.x.Put(n, bs[n]); e != api.OK {
			t.Fatalf("Put = %d", e)
		}
		q.isRight(t, "a block of noise that is mended")
		q.commit(t)
		q.isRight(t, "mended")
	}
}

// same: is a transaction as it was?
func same(t *testing.T, x *wal.Txn, blocks []int, bs []api.Block) {
	t.Helper()
	if x.Len() != len(blocks) || !slices.Equal(x.Blocks(), blocks) {
		t.Errorf("R6: of %v it has %v", blocks, x.Blocks())
	}
	for i, want := range bs {
		if b, e := x.Get(i); b != want || e != api.OK {
			t.Errorf("R6: block %d is %v, %d, wanted %v", i, b, e, want)
		}
	}
}

// P2, R6: neither a transaction nor a configuration is changed, be it of a disk that is right or not, be it full.
func TestStays(t *testing.T) {
	for seed := range int64(20) {
		r := rand.New(rand.NewSource(seed))
		w := lived(t, r, 60)
		for range r.Intn(3) {
			w.harm(t, r)
		}
		places := r.Perm(w.c.Total())
		for _, n := range places[:r.Intn(60)] {
			b := w.get(t, n)
			if r.Intn(10) == 0 {
				b[r.Intn(64)]++
			}
			if w.x.Len() < api.LogBlocks && (n == 0 || n > 31) {
				w.x.Put(n, b)
			}
		}
		var bs []api.Block
		for n := range w.c.Total() {
			bs = append(bs, w.get(t, n))
		}
		blocks, text, sum, image := w.x.Blocks(), w.c.Text(), w.c.Sum(), w.d.Image()
		_, writes := w.d.Counts()
		fsck.Check(w.x, w.c)
		fsck.Super(w.c)
		same(t, w.x, blocks, bs)
		if _, now := w.d.Counts(); now != writes || !slices.Equal(w.d.Image(), image) {
			t.Error("R6: Check writes")
		}
		if w.c.Text() != text || w.c.Sum() != sum {
			t.Error("R6: the configuration is another")
		}
		if e := w.x.Commit(); e != api.OK {
			t.Errorf("R6: Commit = %d", e)
		}
		now := w.d.Image()
		for n := range now {
			if n != 1 && (n < 2 || n > 31) && now[n] != bs[n] {
				t.Errorf("R6: block %d was committed as %v", n, now[n])
			}
		}
	}
}

// P2, R6: a transaction that failed has still failed as it did; one that didn't hasn't.
func TestFailureStays(t *testing.T) {
	p := plant(t)
	p.x.Put(0, fsck.Super(p.c))
	p.x.Put(5, api.Block{}) // the log's
	if l := fsck.Check(p.x, p.c); len(l) > 0 {
		t.Errorf("P14.2: %v", l)
	}
	if e := p.x.Commit(); e != api.ErrRange {
		t.Errorf("R6: Commit = %d", e)
	}
	p.x.Drop()
	bs := p.d.Image()
	short := onto(t, p.c, bs[:p.c.Total()-30])
	short.x.Put(0, api.Block{9})
	short.isWrong(t, "too short")
	if e := short.x.Commit(); e != api.OK {
		t.Errorf("R6: Commit = %d", e)
	}
	if b, _ := short.d.Read(0); b != (api.Block{9}) {
		t.Errorf("R6: block 0 is %v", b)
	}
}

// P14.2: a disk that has stopped can still be read, and looked at.
func TestStopped(t *testing.T) {
	p := plant(t)
	p.d.Arm(0)
	if e := p.d.Write(0, api.Block{}); e != api.ErrDead {
		t.Fatalf("Write = %d", e)
	}
	p.isRight(t, "a disk that has stopped")
	if !p.d.Dead() {
		t.Error("R6: it works again")
	}
}

// P2, R6: faults are new memory: what is written into them, or behind them, comes nowhere. R8: asked again, the same.
func TestFaultsAreNew(t *testing.T) {
	for seed := range int64(40) {
		r := rand.New(rand.NewSource(seed))
		w := lived(t, r, 30)
		for range r.Intn(5) {
			w.harm(t, r)
		}
		one, two := fsck.Check(w.x, w.c), fsck.Check(w.x, w.c)
		want := slices.Clone(two)
		if !slices.Equal(one, two) {
			t.Fatalf("R8: %v, then %v", one, two)
		}
		for i := range one[:cap(one)] {
			one[:cap(one)][i] = fsck.Fault{Lab: 9, Num: 9, Code: 99}
		}
		_ = append(one, fsck.Fault{Lab: 8})
		if three := fsck.Check(w.x, w.c); !slices.Equal(two, want) || !slices.Equal(three, want) {
			t.Errorf("R6: %v, then %v, wanted %v", two, three, want)
		}
	}
	one, two := fsck.Check(nil, nil), fsck.Check(nil, nil)
	one[0].Code = api.OK
	if two[0].Code != api.ErrNil || fsck.Check(nil, nil)[0].Code != api.ErrNil {
		t.Error("R6: the fault of nothing is handed out twice")
	}
}

// P2, R7
func TestWithout(t *testing.T) {
	p := plant(t)
	want := []fsck.Fault{{Code: api.ErrNil}}
	for _, x := range []struct {
		t *wal.Txn
		c *conf.Conf
	}{{nil, nil}, {nil, p.c}, {p.x, nil}, {nil, &conf.Conf{}}, {&wal.Txn{}, nil}} {
		if l := fsck.Check(x.t, x.c); !reflect.DeepEqual(l, want) {
			t.Errorf("P14.2: Check without a transaction or a configuration = %v", l)
		}
	}
	// Of what nobody has made there is no block.
	for _, x := range []*wal.Txn{{}, (&wal.Log{}).Begin()} {
		for _, c := range []*conf.Conf{p.c, {}} {
			if l := fsck.Check(x, c); len(l) == 0 {
				t.Error("P14.2: no disk is right")
			}
		}
	}
	d, _ := disk.New(31)
	l, _ := wal.Open(d, 0)
	if l := fsck.Check(l.Begin(), p.c); len(l) == 0 {
		t.Error("P14.2: a disk of a log alone is right")
	}
	// A configuration of no labels: a disk of which block 0 alone counts.
	q := p.copied(t)
	q.c = &conf.Conf{}
	if l := fsck.Check(q.x, q.c); len(l) != 1 || l[0].Lab != 0 || l[0].Num != 0 || l[0].Code == api.OK {
		t.Errorf("P14.2: a disk of no labels: %v", l)
	}
	q.put(t, 0, fsck.Super(q.c))
	q.isRight(t, "of no labels")
}
