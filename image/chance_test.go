package image_test

import (
	"math/rand"
	"strings"
	"testing"

	"garrison/api"
	"garrison/conf"
	"garrison/disk"
	"garrison/file"
	"garrison/group"
	"garrison/image"
	"garrison/tree"
	"garrison/wal"
	"garrison/walk"
)

// oneOf: by chance.
func oneOf[T any](r *rand.Rand, l ...T) T { return l[r.Intn(len(l))] }

// somePath: by chance, most of them of few parts that may be there.
func somePath(r *rand.Rand) string {
	if r.Intn(40) == 0 {
		return oneOf(r, "", "/", ".", "..", "/a@", "/\x00", strings.Repeat("/a", 61), "/123456789012345", "a//b/")
	}
	var b strings.Builder
	for range r.Intn(3) + 1 {
		b.WriteString("/" + oneOf(r, "a", "b", "c", "d", "e", "f", "g", "h", "a@low", "b@low", "c@left", "@low/d", ".."))
	}
	return b.String()
}

// someItem: by chance; a file's text begins with its label, so that it is to be seen whose it is.
func someItem(r *rand.Rand) image.Item {
	it := image.Item{Lab: r.Intn(labels), Path: somePath(r)}
	switch r.Intn(10) {
	case 0, 1, 2:
		it.Kind = api.KDir
	case 3:
		it.Kind = api.KMulti
	case 4:
		it.Kind = api.KFifo
	case 5:
		it.Kind = api.KLink
		it.Text = somePath(r)
	default:
		it.Kind = api.KFile
		it.Text = string(rune('0'+it.Lab)) + text(r.Intn(100), r.Intn(1<<r.Intn(11)))
	}
	switch r.Intn(200) {
	case 0:
		it.Lab = oneOf(r, -1, labels, 1<<40)
	case 1:
		it.Kind = api.Kind(r.Intn(256))
	case 2:
		it.Kind, it.Text = api.KDir, "text"
	case 3:
		it.Text = text(7, 20000)
	}
	return it
}

// laid: is an item made, by the calls that the chapter names, each in a transaction of its own?
func laid(t *testing.T, d *disk.Disk, c *conf.Conf, it image.Item) api.Errno {
	t.Helper()
	if _, ok := c.Reg(it.Lab); !ok {
		return api.ErrRange
	}
	if len(it.Text) > 0 && it.Kind != api.KFile && it.Kind != api.KLink {
		return api.ErrInvalid
	}
	var ino api.Ino
	e := done(t, d, func(x *wal.Txn) (e api.Errno) {
		at := &tree.Tree{View: &walk.View{T: x, C: c}, Subject: it.Lab}
		if it.Kind == api.KLink {
			_, e = at.Symlink(it.Text, it.Path)
			return e
		}
		ino, e = at.Make(it.Path, it.Kind)
		return e
	})
	left := []byte(it.Text)
	for e == api.OK && it.Kind == api.KFile && len(left) > 0 {
		many := min(128, len(left))
		e = done(t, d, func(x *wal.Txn) api.Errno {
			g, e := group.Open(x, c, it.Lab)
			if e != api.OK {
				return e
			}
			return file.Write(g, int(ino.Num), len(it.Text)-len(left), left[:many])
		})
		left = left[many:]
	}
	return e
}

// done: what a transaction does is on the disk, if it is no error.
func done(t *testing.T, d *disk.Disk, f func(x *wal.Txn) api.Errno) api.Errno {
	t.Helper()
	x := txn(t, d)
	if e := f(x); e != api.OK {
		return e
	}
	if e := x.Commit(); e != api.OK {
		t.Fatalf("Commit = %d", e)
	}
	return api.OK
}

// kept: those of some items that are made, one behind the other, onto a disk laid by hand: the disk, too.
func kept(t *testing.T, c *conf.Conf, items []image.Item) ([]image.Item, *disk.Disk) {
	t.Helper()
	d := onto(t, begun(t, c))
	var l []image.Item
	for _, it := range items {
		was := d.Image()
		if laid(t, d, c, it) != api.OK {
			d = onto(t, was)
			continue
		}
		l = append(l, it)
	}
	return l, d
}

// P15.2, P15.3: items of chance: the disk is what the calls that the chapter names make of them; each file reads as its text; what fails does so at its place.
func TestChance(t *testing.T) {
	c := parsed(t, four)
	var made, failed int
	for seed := range int64(150) {
		r := rand.New(rand.NewSource(seed))
		var items []image.Item
		for range r.Intn(90) {
			items = append(items, someItem(r))
		}
		items, want := kept(t, c, items)
		made += len(items)
		d := built(t, c, items...)
		for lab := range labels {
			if i := differ(blocksOf(t, d, c, lab), blocksOf(t, want, c, lab)); i >= 0 {
				t.Fatalf("P15.2: seed %d: block %d of group %d differs", seed, i, lab)
			}
		}
		for _, it := range items {
			if it.Kind == api.KFile {
				reads(t, d, c, it.Lab, it.Path, it.Text)
			}
		}
		for range 40 { // one more, anywhere
			it := someItem(r)
			n := r.Intn(len(items) + 1)
			_, on := kept(t, c, items[:n])
			if e := laid(t, on, c, it); e != api.OK {
				failed++
				l := append(append([]image.Item{}, items[:n]...), it)
				fails(t, c, n, e, append(l, items[n:]...)...)
			}
		}
	}
	t.Log(made, failed)
	if made < 1000 || failed < 1000 {
		t.Errorf("%d were made, %d failed", made, failed)
	}
}

// P3: what a subject reads, by whatever path, is of a label at or below its own.
func TestReadsNothingAbove(t *testing.T) {
	c := parsed(t, four)
	many := 0
	for seed := range int64(60) {
		r := rand.New(rand.NewSource(seed))
		var items []image.Item
		for range 90 {
			items = append(items, someItem(r))
		}
		_, d := kept(t, c, items)
		for range 300 {
			subject := r.Intn(labels)
			b, e := image.Read(d, c, subject, somePath(r))
			if e != api.OK || len(b) == 0 {
				continue
			}
			many++
			if lab := int(b[0] - '0'); !c.Leq(lab, subject) {
				t.Errorf("P3: seed %d: %d reads what is of %d", seed, subject, lab)
			}
		}
	}
	if many < 1000 {
		t.Errorf("so little was read: %d", many)
	}
}

// P4: without the items of labels that aren't at or below one, the groups at or below it are the same, and so is what is read of them; so is the error of an item.
func TestNothingFlowsDown(t *testing.T) {
	c := parsed(t, four)
	var same, failed int
	for seed := range int64(120) {
		r := rand.New(rand.NewSource(seed))
		var items []image.Item
		for range 60 {
			items = append(items, someItem(r))
		}
		items, _ = kept(t, c, items)
		if seed%2 == 0 {
			at := r.Intn(len(items) + 1)
			items = append(items[:at], append([]image.Item{someItem(r)}, items[at:]...)...)
		}
		d, at, e := image.Build(c, items)
		for lab := range labels {
			var below []image.Item
			place := -1
			for i, it := range items {
				if i == at {
					place = len(below)
				}
				if c.Leq(it.Lab, lab) {
					below = append(below, it)
				}
			}
			if e != api.OK {
				if c.Leq(items[at].Lab, lab) {
					failed++
					fails(t, c, place, e, below...)
				}
				continue
			}
			only := built(t, c, below...)
			for x := range labels {
				if !c.Leq(x, lab) {
					continue
				}
				same++
				if i := differ(blocksOf(t, d, c, x), blocksOf(t, only, c, x)); i >= 0 {
					t.Errorf("P4: seed %d: block %d of group %d hears of what isn't at or below %d", seed, i, x, lab)
				}
			}
			for range 30 {
				s := somePath(r)
				one, e := image.Read(d, c, lab, s)
				two, f := image.Read(only, c, lab, s)
				if e != f || string(one) != string(two) {
					t.Errorf("P4: seed %d: Read(%d, %s) = %q, %d, and %q, %d", seed, lab, s, one, e, two, f)
				}
			}
		}
	}
	if same < 300 || failed < 20 {
		t.Errorf("the same %d times, failed %d times", same, failed)
	}
}
