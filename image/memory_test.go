package image_test

import (
	"slices"
	"testing"

	"garrison/api"
	"garrison/conf"
	"garrison/disk"
	"garrison/image"
)

// P2, R6: items are neither changed nor kept, spare room included; nor is a configuration changed.
func TestItemsStay(t *testing.T) {
	c := parsed(t, four)
	words, sum := c.Text(), c.Sum()
	room := []image.Item{aDir(low, "/d"), aFile(low, "/d/f", text(1, 300)), aLink(left, "/l", "/d@low/f"), {Lab: 7, Kind: 7, Path: "x", Text: "y"}, {Lab: 8}}
	want := slices.Clone(room)
	d := built(t, c, room[:3]...)
	if !slices.Equal(room, want) {
		t.Errorf("R6: the items are %v", room)
	}
	fails(t, c, 3, api.ErrRange, room[:4]...)
	if !slices.Equal(room, want) {
		t.Errorf("R6: the items are %v", room)
	}
	was := d.Image()
	clear(room)
	if differ(d.Image(), was) >= 0 {
		t.Error("R6: the items are kept")
	}
	reads(t, d, c, left, "/l", text(1, 300))
	image.Empty(c)
	image.Right(d, c)
	if c.Text() != words || c.Sum() != sum {
		t.Error("R6: the configuration is another")
	}
}

// P2, R6, R8: each disk is a new one, the same as one asked for so before; what is written on one comes to no other.
func TestDisksAreNew(t *testing.T) {
	c := parsed(t, two)
	empty := func() *disk.Disk {
		d, e := image.Empty(c)
		if e != api.OK {
			t.Fatalf("P15.1: Empty = %d", e)
		}
		return d
	}
	items := []image.Item{aDir(low, "/d"), aFile(top, "/f", text(3, 700)), aFile(low, "/d/f", "x")}
	for _, make := range []func() *disk.Disk{empty, func() *disk.Disk { return built(t, c, items...) }} {
		one, two := make(), make()
		if one == two {
			t.Fatal("R6: the same disk twice")
		}
		was := two.Image()
		if i := differ(one.Image(), was); i >= 0 {
			t.Errorf("R8: block %d differs", i)
		}
		for i := range one.Len() {
			one.Write(i, api.Block{byte(i), 1, 2, 3})
		}
		one.Arm(0)
		one.Write(0, api.Block{})
		if differ(two.Image(), was) >= 0 || two.Dead() || differ(make().Image(), was) >= 0 {
			t.Error("R6: two disks share something")
		}
	}
}

// P2, R6: a file's bytes are new memory, spare room included: what is written into them comes nowhere.
func TestBytesAreNew(t *testing.T) {
	d, c := lived(t)
	was := d.Image()
	for _, path := range []string{"/a", "/d/f", "/l", "/any"} {
		one, e := image.Read(d, c, low, path)
		two, f := image.Read(d, c, low, path)
		if e != api.OK || f != api.OK {
			t.Fatalf("P15.3: Read = %d, %d", e, f)
		}
		want := string(two)
		for i := range one[:cap(one)] {
			one[:cap(one)][i] = 0xee
		}
		_ = append(one, 1, 2, 3)
		if string(two) != want || differ(d.Image(), was) >= 0 {
			t.Errorf("R6: the bytes of %s are shared", path)
		}
		reads(t, d, c, low, path, want)
	}
}

// P2, R6: Read and Right neither write nor stop nor wake a disk; Open doesn't even read it. R8: asked again, the same.
func TestDiskStays(t *testing.T) {
	d, c := lived(t)
	was := d.Image()
	_, writes := d.Counts()
	d.Arm(1)
	for range 2 {
		reads(t, d, c, low, "/a", "low's a")
		doesntRead(t, d, c, low, "/b", api.ErrNone)
		doesntRead(t, d, c, low, "/a@high", api.ErrPerm)
		if !image.Right(d, c) || image.Right(d, parsed(t, two)) || image.Right(d, nil) {
			t.Error("P15.3: Right is another")
		}
		image.Open(d)
	}
	if _, w := d.Counts(); w != writes || differ(d.Image(), was) >= 0 || d.Dead() {
		t.Error("R6: the disk is another")
	}
	if e := d.Write(40, api.Block{}); e != api.OK {
		t.Errorf("R6: Write = %d", e)
	}
	if e := d.Write(40, api.Block{}); e != api.ErrDead {
		t.Errorf("R6: Write = %d: more are let through", e)
	}
}

// P2, R6: a log that is answered is built on the disk: what it writes is there.
func TestLogIsTheDisks(t *testing.T) {
	c := parsed(t, two)
	d := built(t, c)
	one, _ := image.Open(d)
	two, _ := image.Open(d)
	x := one.Begin()
	x.Put(50, api.Block{5})
	if b, _ := two.Begin().Get(50); b != (api.Block{}) {
		t.Errorf("block 50 is %v", b)
	}
	if e := x.Commit(); e != api.OK {
		t.Fatalf("Commit = %d", e)
	}
	if b, _ := two.Begin().Get(50); b != (api.Block{5}) {
		t.Errorf("block 50 is %v", b)
	}
	if b, _ := d.Read(50); b != (api.Block{5}) {
		t.Errorf("block 50 is %v", b)
	}
}

// P2, R7: of nothing each call answers ErrNil, or a zero value, and doesn't end the program.
func TestNil(t *testing.T) {
	d, c := lived(t)
	if l, e := image.Open(nil); l != nil || e != api.ErrNil {
		t.Errorf("R7: Open = %d", e)
	}
	if d, e := image.Empty(nil); d != nil || e != api.ErrNil {
		t.Errorf("R7: Empty = %d", e)
	}
	if d, at, e := image.Build(nil, nil); d != nil || at != -1 || e != api.ErrNil {
		t.Errorf("R7: Build = %d, %d", at, e)
	}
	for _, x := range []struct {
		d *disk.Disk
		c *conf.Conf
	}{{nil, nil}, {d, nil}, {nil, c}} {
		doesntRead(t, x.d, x.c, low, "/a", api.ErrNil)
		if image.Right(x.d, x.c) {
			t.Error("R7: it is right")
		}
	}
}
