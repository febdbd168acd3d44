package image_test

import (
	"fmt"
	"math/rand"
	"testing"

	"garrison/api"
	"garrison/conf"
	"garrison/disk"
	"garrison/image"
	"garrison/tree"
	"garrison/wal"
	"garrison/walk"
)

// seen: what all subjects read by some paths.
func seen(d *disk.Disk, c *conf.Conf) string {
	s := ""
	for subject := range labels {
		for _, path := range []string{"/a", "/b", "/c", "/d/a", "/d/b", "/a@low", "/d@low/a", "/m@low/a", "/m@low/b"} {
			b, e := image.Read(d, c, subject, path)
			s += fmt.Sprint(subject, path, string(b), e, "\n")
		}
	}
	return s
}

// act: something is done to names of a built disk; nothing is written yet.
func act(r *rand.Rand, x *wal.Txn, c *conf.Conf) api.Errno {
	at := &tree.Tree{View: &walk.View{T: x, C: c}, Subject: r.Intn(labels)}
	a := oneOf(r, "/a", "/b", "/c", "/d/a", "/d/b", "/m@low/a", "/m@low/b", "/d")
	b := oneOf(r, "/a", "/b", "/c", "/d/a", "/d/b", "/m@low/a", "/m@low/b", "/d")
	var e api.Errno
	switch r.Intn(6) {
	case 0:
		_, e = at.Make(a, oneOf(r, api.KFile, api.KDir))
	case 1:
		_, e = at.Symlink(b, a)
	case 2:
		e = at.Link(b, a)
	case 3:
		e = at.Unlink(a)
	default:
		e = at.Rename(b, a)
	}
	return e
}

// P5: wherever a disk that was built stops, behind whatever block, also while it is recovered: behind that it is right, and all is read as ahead of it, or as behind it.
func TestStops(t *testing.T) {
	c := parsed(t, four)
	many := 0
	for seed := range int64(25) {
		r := rand.New(rand.NewSource(seed))
		d := built(t, c,
			aDir(low, "/d"), aMulti(low, "/m"), aFile(low, "/a", "one"), aFile(low, "/d/a", text(1, 700)), aFile(low, "/m@low/a", "two"),
			aDir(left, "/d"), aFile(left, "/a", "three"), aFile(left, "/m@low/b", "four"), aLink(right, "/b", "/a@low"), aFile(high, "/c", ""),
		)
		for range 15 {
			was, ahead, next := d.Image(), seen(d, c), r.Int63()
			x := txn(t, d)
			if act(rand.New(rand.NewSource(next)), x, c) != api.OK || x.Len() == 0 {
				continue
			}
			writes := 2*x.Len() + 2
			if e := x.Commit(); e != api.OK || !image.Right(d, c) {
				t.Fatalf("seed %d: Commit = %d", seed, e)
			}
			behind := seen(d, c)
			for n := range writes {
				stopped := onto(t, was)
				x := txn(t, stopped)
				act(rand.New(rand.NewSource(next)), x, c)
				stopped.Arm(n)
				if e := x.Commit(); e != api.ErrDead {
					t.Fatalf("Commit = %d behind %d of %d writes", e, n, writes)
				}
				again(t, stopped, r.Intn(3))
				if now := seen(stopped, c); now != ahead && now != behind {
					t.Errorf("P5: seed %d, behind %d writes: neither as ahead nor as behind", seed, n)
				}
				if !image.Right(stopped, c) {
					t.Errorf("P5: seed %d, behind %d writes: it isn't right", seed, n)
				}
				many++
			}
		}
	}
	if many < 300 {
		t.Errorf("it stopped %d times", many)
	}
}

// again: a disk works again, and is recovered by its log, as Open finds it; it stops once more on the way there.
func again(t *testing.T, d *disk.Disk, writes int) {
	t.Helper()
	for _, n := range []int{writes, -1} {
		d.Wake()
		d.Arm(n)
		l, e := image.Open(d)
		if e != api.OK {
			t.Fatalf("P15.1: Open = %d", e)
		}
		if _, e := l.Recover(); e != api.OK && e != api.ErrDead {
			t.Fatalf("Recover = %d", e)
		}
	}
	if d.Dead() {
		t.Error("it is still dead")
	}
}
