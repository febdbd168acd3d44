package image_test

import (
	"math/rand"
	"testing"

	"garrison/api"
	"garrison/conf"
	"garrison/disk"
	"garrison/fsck"
	"garrison/image"
	"garrison/node"
	"garrison/tree"
	"garrison/walk"
)

// lived: a disk with something of each kind.
func lived(t *testing.T) (*disk.Disk, *conf.Conf) {
	t.Helper()
	c := parsed(t, four)
	return built(t, c,
		aFile(low, "/a", "low's a"), aDir(low, "/d"), aFile(low, "/d/f", text(1, 5000)), aMulti(low, "/m"), aFifo(low, "/p"),
		aFile(left, "/a", "left's a"), aFile(left, "/m@low/x", "left's x"), aFile(right, "/a", "right's a"), aFile(right, "/m@low/x", "right's x"),
		aLink(low, "/l", "/d@low/f"), aLink(left, "/l", "/l@low"), aLink(high, "/l", "/l@left"), aLink(low, "/loop", "/loop"),
		aLink(low, "/to", "/d"), aLink(low, "/gone", "/nobody"), aLink(high, "/mine", "/a"), aFile(high, "/none", ""), aLink(low, "/any", "a"),
		aLink(low, "/multi", "/m"), aLink(low, "/root", "/"), aLink(low, "/pipe", "p"), aLink(left, "/up", "/a@high"),
	), c
}

// P15.3: each subject reads what a path is for it, links followed.
func TestRead(t *testing.T) {
	d, c := lived(t)
	for _, x := range []struct {
		subject    int
		path, want string
	}{
		{low, "/a", "low's a"}, {low, "a", "low's a"}, {low, "//a/", "low's a"}, {low, "/d/../a", "low's a"}, {low, "/a@low", "low's a"},
		{left, "/a", "left's a"}, {left, "/a@low", "low's a"}, {left, "/@low/a", "low's a"},
		{high, "/a@left", "left's a"}, {high, "/a@right", "right's a"}, {high, "/a@low", "low's a"},
		{low, "/d/f", text(1, 5000)}, {high, "/d@low/f", text(1, 5000)}, {low, "/to/f", text(1, 5000)},
		{low, "/l", text(1, 5000)}, {left, "/l", text(1, 5000)}, {high, "/l", text(1, 5000)},
		{left, "/m@low/x", "left's x"}, {right, "/m@low/x", "right's x"}, {high, "/m@low/x@left", "left's x"}, {high, "/m@low/@right/x", "right's x"},
		{low, "/any", "low's a"}, {left, "/any@low", "left's a"}, {right, "/any@low", "right's a"},
		{high, "/none", ""},
	} {
		reads(t, d, c, x.subject, x.path, x.want)
	}
}

// P15.3: walk's errors; ErrNone, if it isn't there, not even where a link leads; ErrIsDir of all that is no file.
func TestReadErrors(t *testing.T) {
	d, c := lived(t)
	for _, x := range []struct {
		subject int
		path    string
		want    api.Errno
	}{
		{low, "", api.ErrInvalid}, {low, "/@", api.ErrInvalid}, {low, "/..@low", api.ErrInvalid}, {low, text(1, 121), api.ErrLong},
		{low, "/b", api.ErrNone}, {left, "/d", api.ErrNone}, {high, "/a", api.ErrNone}, {low, "/d/g", api.ErrNone}, {low, "/no/f", api.ErrNone},
		{low, "/gone", api.ErrNone}, {high, "/mine", api.ErrNone}, {left, "/to@low/f", api.ErrNone}, {high, "/any@low", api.ErrNone},
		{low, "/m/x", api.ErrNone}, {high, "/m@low/x", api.ErrNone}, {low, "/a@nobody", api.ErrNone},
		{low, "/d", api.ErrIsDir}, {low, "/to", api.ErrIsDir}, {low, "/", api.ErrIsDir}, {high, ".", api.ErrIsDir}, {low, "/m", api.ErrIsDir},
		{low, "/multi", api.ErrIsDir}, {low, "/root", api.ErrIsDir}, {low, "/p", api.ErrIsDir}, {high, "/p@low", api.ErrIsDir}, {low, "/pipe", api.ErrIsDir},
		{left, "/@low", api.ErrIsDir}, {left, "/m@low/@left", api.ErrIsDir}, {low, "/d/.", api.ErrIsDir}, {low, "/d/..", api.ErrIsDir},
		{low, "/loop", api.ErrLoop}, {low, "/a/b", api.ErrNotDir}, {low, "/a/.", api.ErrNotDir}, {low, "/p/x", api.ErrNotDir},
		{low, "/a@left", api.ErrPerm}, {left, "/a@right", api.ErrPerm}, {right, "/a@high", api.ErrPerm}, {left, "/m@low/x@right", api.ErrPerm}, {left, "/up", api.ErrPerm},
		{high, "/d@low/f@high", api.ErrAway}, {low, "/d/f@left", api.ErrAway},
	} {
		doesntRead(t, d, c, x.subject, x.path, x.want)
	}
}

// P15.3: a subject that there isn't: what walk says of it.
func TestReadNobody(t *testing.T) {
	d, c := lived(t)
	for _, subject := range []int{-1, 4, 63, 64, 255, 256, 1 << 16, 1 << 32, -1 << 63, 1<<63 - 1} {
		for _, path := range []string{"/a", "/a@low", "/", "", "/@low/a", "/d@low/f", "/loop@low"} {
			v := &walk.View{T: txn(t, d), C: c}
			f, want := v.Walk(subject, walk.Start(), path, true)
			if want == api.OK && f.Kind == api.KMulti {
				want = api.ErrIsDir
			}
			if want == api.OK {
				t.Fatalf("Walk(%d, %s) = %v", subject, path, f)
			}
			doesntRead(t, d, c, subject, path, want)
		}
	}
}

// P15.3, R7: Open's error ahead of walk's, of which the first is ErrNil, if there is no configuration.
func TestReadWithout(t *testing.T) {
	d, c := lived(t)
	short, _ := disk.New(31)
	doesntRead(t, nil, c, low, "/a", api.ErrNil)
	doesntRead(t, nil, nil, low, "", api.ErrNil)
	doesntRead(t, nil, c, 9, "", api.ErrNil)
	doesntRead(t, short, c, 9, "", api.ErrRange)
	doesntRead(t, short, nil, low, "/a", api.ErrRange)
	doesntRead(t, &disk.Disk{}, c, low, "/a", api.ErrRange)
	doesntRead(t, d, nil, low, "/a", api.ErrNil)
	doesntRead(t, d, nil, 9, "", api.ErrNil)
	for _, path := range []string{"", "/", "/a", "/a@low"} {
		if b, e := image.Read(d, &conf.Conf{}, low, path); e == api.OK || len(b) > 0 {
			t.Errorf("P1: Read(%s) of no labels = %q, %d", path, b, e)
		}
	}
}

// P15.3: of a file that grew longer than one piece, and of one that was cut; one of several names; as the disk has it, a transaction that isn't committed not.
func TestReadChanged(t *testing.T) {
	d, c := lived(t)
	l, _ := image.Open(d)
	v := &walk.View{T: l.Begin(), C: c}
	at := &tree.Tree{View: v, Subject: low}
	if e := at.Link("/d/f", "/g"); e != api.OK {
		t.Fatalf("Link = %d", e)
	}
	doesntRead(t, d, c, low, "/g", api.ErrNone)
	if e := v.T.Commit(); e != api.OK {
		t.Fatalf("Commit = %d", e)
	}
	reads(t, d, c, low, "/g", text(1, 5000))
	if e := at.Unlink("/d/f"); e != api.OK || v.T.Commit() != api.OK {
		t.Fatalf("Unlink = %d", e)
	}
	reads(t, d, c, low, "/g", text(1, 5000))
	doesntRead(t, d, c, low, "/l", api.ErrNone)
	if !image.Right(d, c) {
		t.Error("P14.2: it isn't right")
	}
}

// P15.3: of a disk that isn't right: the errors of what is read, nothing beside them. What isn't on the way is no matter.
func TestReadWrong(t *testing.T) {
	d, c := lived(t)
	bs := d.Image()
	g, _ := c.Geo(low)
	change := func(f func(bs []api.Block)) *disk.Disk {
		l := append([]api.Block{}, bs...)
		f(l)
		return onto(t, l)
	}
	const f = 6 // low's node of /d/f
	table, at, _ := node.Place(g, f)
	n := nodeOf(t, d, c, low, f)
	if n.Size != 5000 {
		t.Fatalf("node %d is %v", f, n)
	}
	w := change(func(bs []api.Block) { bs[table][at+8], bs[table][at+9] = 255, 255 }) // its first block is none of the group's
	doesntRead(t, w, c, low, "/d/f", api.ErrRange)
	reads(t, w, c, low, "/a", "low's a")
	w = change(func(bs []api.Block) { bs[table][at+10], bs[table][at+11] = 0, 0 }) // its second one lacks
	doesntRead(t, w, c, low, "/d/f", api.ErrRange)
	w = change(func(bs []api.Block) { bs[table][at] = 99 }) // it is of no kind
	doesntRead(t, w, c, low, "/d/f", api.ErrForm)
	w = change(func(bs []api.Block) { clear(bs[table][at : at+32]) }) // it is free
	doesntRead(t, w, c, low, "/d/f", api.ErrStale)
	w = change(func(bs []api.Block) { bs[0], bs[1] = api.Block{}, api.Block{9} }) // neither block 0 nor the log is on the way
	reads(t, w, c, low, "/d/f", text(1, 5000))
	short := onto(t, bs[:g.Data])
	doesntRead(t, short, c, low, "/a", api.ErrRange)
	doesntRead(t, short, c, left, "/a", api.ErrRange)
}

// P15.3: a disk that has stopped is read as it is; it isn't recovered, nor does it work again.
func TestReadStopped(t *testing.T) {
	d, c := lived(t)
	l, _ := image.Open(d)
	v := &walk.View{T: l.Begin(), C: c}
	if e := (&tree.Tree{View: v, Subject: low}).Rename("/a", "/b"); e != api.OK {
		t.Fatalf("Rename = %d", e)
	}
	d.Arm(v.T.Len() + 1)
	if e := v.T.Commit(); e != api.ErrDead {
		t.Fatalf("Commit = %d", e)
	}
	_, writes := d.Counts()
	reads(t, d, c, low, "/a", "low's a")
	doesntRead(t, d, c, low, "/b", api.ErrNone)
	if !image.Right(d, c) {
		t.Error("P15.3: it isn't right")
	}
	if _, w := d.Counts(); w != writes || !d.Dead() {
		t.Error("P15.3: it works again, or was written")
	}
	d.Wake()
	l.Recover()
	reads(t, d, c, low, "/b", "low's a")
	doesntRead(t, d, c, low, "/a", api.ErrNone)
}

// P15.3: Total blocks, neither fewer nor more, and Check finds nothing.
func TestRight(t *testing.T) {
	d, c := lived(t)
	bs := d.Image()
	if !image.Right(d, c) || !image.Right(onto(t, bs), c) {
		t.Error("P15.3: it isn't right")
	}
	for _, n := range []int{0, 1, 31, 32, 33, c.Total() - 60, c.Total() - 1} {
		if image.Right(onto(t, bs[:n]), c) {
			t.Errorf("P15.3: %d blocks of it are right", n)
		}
	}
	for _, n := range []int{1, 2, 100} {
		if image.Right(onto(t, append(append([]api.Block{}, bs...), make([]api.Block, n)...)), c) {
			t.Errorf("P15.3: with %d blocks more it is right", n)
		}
	}
	noughts, _ := disk.New(c.Total())
	if image.Right(noughts, c) {
		t.Error("P15.3: noughts are right")
	}
	// Of each group: a bit too many; a byte of block 0; what Check doesn't look at.
	for lab := range c.Len() {
		g, _ := c.Geo(lab)
		w := append([]api.Block{}, bs...)
		w[g.Base][6] ^= 128
		if image.Right(onto(t, w), c) {
			t.Errorf("P15.3: a bit of %d too many is right", lab)
		}
	}
	for at := range 64 {
		w := append([]api.Block{}, bs...)
		w[0][at]++
		if image.Right(onto(t, w), c) {
			t.Errorf("P15.3: another byte %d of block 0 is right", at)
		}
	}
	w := append([]api.Block{}, bs...)
	for i := 1; i < 32; i++ {
		w[i] = api.Block{byte(i), 2, 3}
	}
	if !image.Right(onto(t, w), c) {
		t.Error("P15.3: a log of anything isn't right")
	}
}

// P15.3, R7: of nothing; of another configuration, even one of as many blocks.
func TestRightWithout(t *testing.T) {
	d, c := lived(t)
	short, _ := disk.New(31)
	for _, d := range []*disk.Disk{nil, {}, short} {
		for _, c := range []*conf.Conf{nil, {}, c} {
			if image.Right(d, c) {
				t.Error("P15.3: no disk is right")
			}
		}
	}
	if image.Right(d, nil) || image.Right(d, &conf.Conf{}) {
		t.Error("P15.3: it is right without a configuration")
	}
	other := parsed(t, two)
	if image.Right(d, other) || image.Right(built(t, other), c) {
		t.Error("P15.3: it is right of another configuration")
	}
	// The same blocks in all; another one has them.
	swapped := parsed(t, "label low 0 blocks 41 nodes 16 frames 1 procs 1 opens 1 clear low\nlabel top 3 blocks 39 nodes 16 frames 1 procs 1 opens 1 clear top\n")
	if swapped.Total() != other.Total() {
		t.Fatalf("%d, %d", swapped.Total(), other.Total())
	}
	if image.Right(built(t, other), swapped) || image.Right(built(t, swapped), other) {
		t.Error("P15.3: it is right of another configuration of as many blocks")
	}
	// A disk of 32 blocks, and a configuration of none: they haven't as many.
	least, _ := disk.New(32)
	if image.Right(least, &conf.Conf{}) || image.Right(least, nil) {
		t.Error("P15.3: a log alone is right")
	}
}

// P1: noise: it ends; what can be read is of the length that its node says.
func TestNoise(t *testing.T) {
	d, c := lived(t)
	bs := d.Image()
	paths := []string{"/a", "/d/f", "/l", "/loop", "/m@low/x", "/", "/a@left", "/to/f", "/d/../d/f", "/p"}
	for seed := range int64(300) {
		r := rand.New(rand.NewSource(seed))
		w := append([]api.Block{}, bs...)
		if seed%3 == 0 {
			clear(w)
		}
		for range r.Intn(1 << r.Intn(11)) {
			w[r.Intn(len(w))][r.Intn(64)] = byte(r.Intn(1 << r.Intn(9)))
		}
		if seed%2 == 0 {
			w = w[:32+r.Intn(len(w)-31)]
		}
		noise := onto(t, w)
		for _, path := range paths {
			for subject := range labels {
				if b, e := image.Read(noise, c, subject, path); e != api.OK && len(b) > 0 {
					t.Errorf("R3: Read(%d, %s) = %q, %d", subject, path, b, e)
				}
			}
		}
		want := len(w) == c.Total() && len(fsck.Check(txn(t, noise), c)) == 0
		if is := image.Right(noise, c); is != want {
			t.Errorf("P15.3: seed %d: Right = %v", seed, is)
		}
	}
}
