package fsck_test

import (
	"strings"
	"testing"

	"garrison/api"
	"garrison/group"
	"garrison/inst"
)

// planted is a disk on which there is something of all kinds.
type planted struct {
	world
	// Files of low: /small, of 70 bytes; /exact, of two full blocks; /mid, of 1000; /long, of 3000; /none, of none.
	small, exact, mid, long, none api.Ino
	// Directories of low: /d, of many places, /d/e in it, and /hollow, that has no entries; /d/e/f is a file.
	outer, inner, hollow, leaf api.Ino
	// Of low: /l, a link; /full, one as long as may be; /p, a pipe; /m and /k, each label its own of; low's own directories of these.
	sym, full, p, m, k api.Ino
	ownM, ownK         int
	// Of high: its own directory of low's /m, in it the directory h, in that the file x; its own directory of what is gone.
	highM, stale int
	hall, deep   api.Ino
}

// plant: such a disk.
func plant(t *testing.T) planted {
	t.Helper()
	p := planted{world: begun(t, four)}
	p.small = p.grow(t, low, "/small", 70)
	p.exact = p.grow(t, low, "/exact", 128)
	p.mid = p.grow(t, low, "/mid", 1000)
	p.long = p.grow(t, low, "/long", 3000)
	p.none = p.grow(t, low, "/none", 0)
	p.outer = p.make(t, low, "/d", api.KDir)
	p.inner = p.make(t, low, "/d/e", api.KDir)
	p.leaf = p.make(t, low, "/d/e/f", api.KFile)
	for _, s := range []string{"/d/q", "/d/r", "/d/s", "/d/t"} {
		p.link(t, low, "/small", s)
	}
	p.hollow = p.make(t, low, "/hollow", api.KDir)
	p.sym = p.symlink(t, low, "/d/e", "/l")
	p.full = p.symlink(t, low, "/d/e"+strings.Repeat("/.", 27)+"/f", "/full")
	p.p = p.make(t, low, "/p", api.KFifo)
	p.m = p.make(t, low, "/m", api.KMulti)
	p.k = p.make(t, low, "/k", api.KMulti)
	p.make(t, low, "/m/a", api.KFile)
	p.make(t, low, "/k/b", api.KDir)
	p.ownM, p.ownK = p.own(t, low, p.m), p.own(t, low, p.k)
	p.make(t, high, "/gone", api.KMulti)
	p.make(t, high, "/@low/m/q", api.KFile)
	p.hall = p.make(t, high, "/@low/m/h", api.KDir)
	p.deep = p.make(t, high, "/@low/m/h/x", api.KFile)
	gone := p.make(t, low, "/gone", api.KMulti)
	p.make(t, high, "/@low/gone/y", api.KFile)
	p.stale = p.own(t, high, gone)
	if e := p.tree(low).Rmdir("/gone"); e != api.OK {
		t.Fatalf("Rmdir = %d", e)
	}
	p.commit(t)
	p.highM = p.own(t, high, p.m)
	p.lay(t, left, inst.Audit, []byte("told"))
	return p
}

// link: a subject's node has one name more.
func (w world) link(t *testing.T, subject int, old, s string) {
	t.Helper()
	if e := w.tree(subject).Link(old, s); e != api.OK {
		t.Fatalf("Link(%s, %s) = %d", old, s, e)
	}
	w.commit(t)
}

// symlink: a subject's new link.
func (w world) symlink(t *testing.T, subject int, target, s string) api.Ino {
	t.Helper()
	i, e := w.tree(subject).Symlink(target, s)
	if e != api.OK {
		t.Fatalf("Symlink(%s, %s) = %d", target, s, e)
	}
	w.commit(t)
	return i
}

// take: a block of a label is taken, of these bytes.
func (w world) take(t *testing.T, lab int, bytes ...byte) uint16 {
	t.Helper()
	var n uint16
	w.do(t, lab, func(g *group.Group) (e api.Errno) {
		if n, e = g.Take(); e != api.OK {
			return e
		}
		var b api.Block
		copy(b[:], bytes)
		return g.Put(n, b)
	})
	return n
}

// deed is something that is done to such a disk, on which each else was as planted.
type deed struct {
	what string
	do   func(t *testing.T, p planted)
}

// rightBehind: is the disk right behind each of these, alone?
func rightBehind(t *testing.T, l []deed) {
	t.Helper()
	p := plant(t)
	p.isRight(t, "as planted")
	for _, x := range l {
		q := p
		q.world = p.copied(t)
		x.do(t, q)
		q.isRight(t, x.what)
	}
}

// wrongBehind: isn't it?
func wrongBehind(t *testing.T, l []deed) {
	t.Helper()
	p := plant(t)
	p.isRight(t, "as planted")
	for _, x := range l {
		q := p
		q.world = p.copied(t)
		x.do(t, q)
		q.isWrong(t, x.what)
	}
}
