package image_test

import (
	"testing"

	"garrison/api"
	"garrison/conf"
	"garrison/disk"
	"garrison/image"
)

// P15.1: byte by byte, of ordinary configurations, and of the least and the most that a label, and a disk, may have.
func TestEmpty(t *testing.T) {
	least, e := conf.New([]api.Reg{{Name: "low", Blocks: 4, Nodes: 4, Frames: 1, Procs: 1, Opens: 1}}, nil)
	if e != api.OK {
		t.Fatalf("New = %d", e)
	}
	for _, c := range []*conf.Conf{least, parsed(t, two), parsed(t, four), parsed(t, edges), most(t)} {
		d, e := image.Empty(c)
		if e != api.OK {
			t.Fatalf("P15.1: Empty = %d", e)
		}
		want := begun(t, c)
		bs := d.Image()
		if len(bs) != c.Total() || d.Len() != c.Total() {
			t.Fatalf("P15.1: %d blocks, wanted %d", len(bs), c.Total())
		}
		if i := differ(bs, want); i >= 0 {
			t.Errorf("P15.1: block %d = %v, wanted %v", i, bs[i], want[i])
		}
		if !image.Right(d, c) {
			t.Error("P15.1, P14.2: an Empty disk isn't right")
		}
	}
}

// P15.1: by hand, of the two labels' disk: what of it isn't noughts.
func TestEmptyByHand(t *testing.T) {
	d, e := image.Empty(parsed(t, two))
	if e != api.OK || d.Len() != 130 {
		t.Fatalf("P15.1: Empty = %d blocks, %d", d.Len(), e)
	}
	want := map[int]api.Block{
		1:  {0xa1, 0x67},
		33: {0: 2, 1: 1, 2: 1, 32: 1, 33: 1, 34: 1},
		34: {0: 1, 1: 1, 2: 1},
		82: {0: 2, 1: 1, 2: 1, 32: 1, 33: 1, 34: 1},
		83: {0: 1, 1: 1, 2: 1},
	}
	for i, b := range d.Image() {
		if i > 0 && b != want[i] {
			t.Errorf("P15.1: block %d = %v, wanted %v", i, b, want[i])
		}
	}
	b, _ := d.Read(0)
	if [8]byte(b[:8]) != [8]byte{0x72, 0x6a, 0, 0, 130, 0, 0, 0} {
		t.Errorf("P15.1: block 0 = %v", b)
	}
}

// P15.1: it works, lets all writes through, and its log is empty.
func TestEmptyWorks(t *testing.T) {
	c := parsed(t, four)
	d, e := image.Empty(c)
	if e != api.OK || d.Dead() {
		t.Fatalf("P15.1: Empty = %d, dead: %v", e, d.Dead())
	}
	l, e := image.Open(d)
	if e != api.OK {
		t.Fatalf("P15.1: Open = %d", e)
	}
	if n, e := l.Recover(); n != 0 || e != api.OK {
		t.Errorf("P15.1: Recover = %d, %d", n, e)
	}
	x := l.Begin()
	for i := range api.LogBlocks {
		if e := x.Put(40+i, api.Block{byte(i)}); e != api.OK {
			t.Fatalf("Put = %d", e)
		}
	}
	if e := x.Commit(); e != api.OK {
		t.Errorf("P15.1: Commit = %d", e)
	}
}

// P15.1: the log's head is block 1: behind a stop it says what Recover has to do; blocks 1 to 31 are the log's.
func TestOpen(t *testing.T) {
	if image.LogAt != 1 {
		t.Errorf("LogAt = %d", image.LogAt)
	}
	d := built(t, parsed(t, two))
	l, e := image.Open(d)
	if e != api.OK || l == nil {
		t.Fatalf("P15.1: Open = %d", e)
	}
	for _, n := range []int{1, 2, 31} {
		if e := l.Begin().Put(n, api.Block{}); e != api.ErrRange {
			t.Errorf("P15.1: Put of the log's block %d = %d", n, e)
		}
	}
	for _, n := range []int{0, 32, 129} {
		if e := l.Begin().Put(n, api.Block{}); e != api.OK {
			t.Errorf("P15.1: Put of block %d = %d", n, e)
		}
	}
	x := l.Begin()
	x.Put(60, api.Block{7})
	d.Arm(2)
	if e := x.Commit(); e != api.ErrDead {
		t.Fatalf("Commit = %d", e)
	}
	if b, _ := d.Read(1); b != (api.Block{0xa1, 0x67, 1, 0, 60}) {
		t.Errorf("P15.1: the head is %v", b)
	}
	if b, _ := d.Read(2); b != (api.Block{7}) {
		t.Errorf("P15.1: the log's first block is %v", b)
	}
	d.Wake()
	again, e := image.Open(d)
	if e != api.OK {
		t.Fatalf("P15.1: Open = %d", e)
	}
	if n, e := again.Recover(); n != 1 || e != api.OK {
		t.Errorf("P15.1: Recover = %d, %d", n, e)
	}
	if b, _ := d.Read(60); b != (api.Block{7}) {
		t.Errorf("P15.1: block 60 is %v", b)
	}
}

// P15.1: wal.Open's errors: of no disk; of one that has no room for the log. It neither reads nor writes: noise is no error, nor is a disk that has stopped.
func TestOpenErrors(t *testing.T) {
	if l, e := image.Open(nil); l != nil || e != api.ErrNil {
		t.Errorf("P15.1: Open(nil) = %v, %d", l, e)
	}
	for n, want := range map[int]api.Errno{0: api.ErrRange, 1: api.ErrRange, 2: api.ErrRange, 31: api.ErrRange, 32: api.OK, 33: api.OK, 65536: api.OK} {
		d, _ := disk.New(n)
		if l, e := image.Open(d); e != want || (l == nil) != (want != api.OK) {
			t.Errorf("P15.1: Open of %d blocks = %v, %d, wanted %d", n, l != nil, e, want)
		}
	}
	bs := make([]api.Block, 40)
	for i := range bs {
		bs[i][0] = 255
	}
	d := onto(t, bs)
	d.Arm(0)
	d.Write(0, api.Block{})
	reads, writes := d.Counts()
	if l, e := image.Open(d); l == nil || e != api.OK {
		t.Errorf("P15.1: Open of noise = %d", e)
	}
	if r, w := d.Counts(); r != reads || w != writes || !d.Dead() {
		t.Errorf("P15.1: Open did something: %d, %d", r, w)
	}
}

// P15.1, R7: without a configuration; and of one that nobody has made, which has no room for a block 0.
func TestEmptyErrors(t *testing.T) {
	if d, e := image.Empty(nil); d != nil || e != api.ErrNil {
		t.Errorf("P15.1: Empty(nil) = %v, %d", d, e)
	}
	if d, e := image.Empty(&conf.Conf{}); d != nil || e == api.OK {
		t.Errorf("P1: Empty of no labels = %v, %d", d, e)
	}
}
