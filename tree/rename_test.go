package tree_test

import (
	"testing"

	"garrison/api"
	"garrison/file"
	"garrison/inst"
)

// P13.4: another name, in the same directory, in another one, in one's own one; each node stays the one that it is.
func TestRename(t *testing.T) {
	w := planted(t)
	was := map[api.Ino]api.Node{}
	for _, i := range []api.Ino{w.a, w.b, w.sub, w.f, w.p, w.m, w.l, w.mlow} {
		was[i] = w.node(t, i)
	}
	w.rename(t, low, "/f", "/g", api.OK) // in the place that was its own
	w.list(t, w.own(low), entry("a", w.a), entry("g", w.f), entry("p", w.p), entry("m", w.m), entry("l", w.l), entry("dead", w.dead))
	w.rename(t, low, "/l", "/a/l", api.OK) // the link, not what it leads to
	w.rename(t, low, "/p", "/f@low", api.OK)
	w.list(t, w.own(low), entry("a", w.a), entry("g", w.f), entry("f", w.p), entry("m", w.m), entry("dead", w.dead))
	w.rename(t, low, "/a/b", "/b", api.OK)
	w.list(t, w.own(low), entry("a", w.a), entry("g", w.f), entry("f", w.p), entry("m", w.m), entry("b", w.b), entry("dead", w.dead))
	w.list(t, w.a, entry("d", w.sub), entry("l", w.l))
	w.right(t)
	w.rename(t, low, "/a/d", "/m/d", api.OK)
	w.rename(t, low, "/a", "/m/d/a", api.OK)
	w.rename(t, low, "/m", "/n", api.OK)
	w.list(t, w.mlow, entry("x", w.mine), entry("d", w.sub))
	w.list(t, w.sub, entry("e", w.e), entry("a", w.a))
	if s, e := w.tree(high).Stat("/n@low/i", false); e != api.OK || s.Ino != w.hi {
		t.Errorf("high's own directory = %v, %d", s, e)
	}
	e := w.tree(low, stack(w.m, w.sub)...).Rename("a/l", "../l")
	w.done(t, low, "Rename", e, api.OK)
	w.list(t, w.mlow, entry("x", w.mine), entry("d", w.sub), entry("l", w.l))
	for i, n := range was {
		n.Size = w.node(t, i).Size
		if now := w.node(t, i); now.Kind != n.Kind || now.Links != n.Links || now.Gen != n.Gen {
			t.Errorf("%v was %v, is %v", i, n, now)
		}
	}
	w.right(t)
}

// P13.4: the own directory that isn't there is made.
func TestRenameNeeds(t *testing.T) {
	w := planted(t)
	w.rename(t, left, "/a", "/m@low/b", api.OK)
	w.list(t, w.ownOf(t, left, w.m), entry("b", w.la))
	w.list(t, w.own(left))
	w.rename(t, high, "/a", "/n/a", api.OK)
	w.list(t, w.ownOf(t, high, w.hn), entry("a", w.ha))
	w.rename(t, high, "/n", "/m@low/n", api.OK)
	w.list(t, w.mhigh, entry("i", w.hi), entry("n", w.hn))
	w.right(t)
}

// P13.4: what isn't one's own, and the way to the other name.
func TestRenameErrors(t *testing.T) {
	w := planted(t)
	for s, want := range map[string]api.Errno{
		"/": api.ErrBusy, ".": api.ErrBusy, "..": api.ErrBusy, "/a/.": api.ErrBusy, "@low": api.ErrBusy, "/m/@low": api.ErrBusy,
		"/z/z": api.ErrNone, "/f/z": api.ErrNotDir, "/l/z": api.ErrNotDir, "": api.ErrInvalid, "/a b": api.ErrInvalid, "/abcdefghijklmno": api.ErrLong,
		"/z@high": api.ErrPerm, "/@left/z": api.ErrPerm, "/a/z@left": api.ErrAway, "/z@none": api.ErrNone,
	} {
		for _, old := range []string{"/f", "/l", "/p", "/a/d", "/m/x"} {
			w.rename(t, low, old, s, want)
		}
	}
	for _, x := range []struct {
		subject int
		old, s  string
		want    api.Errno
	}{
		{high, "/a", "/z@low", api.ErrPerm}, {high, "/a", "/f@low", api.ErrPerm}, {high, "/a", "/a@low", api.ErrPerm}, {high, "/a", "/a@low/z", api.ErrPerm}, {high, "/m@low/i", "/m@low/x@low", api.ErrPerm},
		{high, "/m@low/i", "/m@low/z@left", api.ErrPerm}, {left, "/a", "/m@low/z@low", api.ErrPerm}, {left, "/a", "/m@low/z@right", api.ErrPerm}, {high, "/n", "/m@low", api.ErrPerm}, {left, "/a", "/@low", api.ErrBusy},
	} {
		w.rename(t, x.subject, x.old, x.s, x.want)
	}
	w.none(t, left, w.m)
	w.enter(t, w.own(low), "two", inst.Table)
	w.rename(t, low, "/f", "/two", api.ErrBusy)
	w.rename(t, low, "/a", "/two", api.ErrBusy)
}

// P13.4: a directory doesn't come into itself, nor into what is in it.
func TestRenameInto(t *testing.T) {
	w := planted(t)
	deep := w.make(t, low, "/a/d/deep", api.KMulti)
	w.make(t, low, "/a/d/deep/in", api.KDir)
	w.make(t, low, "/m/sub", api.KDir)
	w.symlink(t, low, "/a", "/toa")
	w.symlink(t, low, "/f", "/a/out")
	for _, x := range []struct{ old, s string }{
		{"/a", "/a/z"}, {"/a", "/a/b"}, {"/a", "/a/d"}, {"/a", "/a/d/e"}, {"/a", "/a/d/z"}, {"/a", "/a/d/deep/z"}, {"/a", "/a/d/deep/in"}, {"/a", "/a/d/deep/in/z"}, {"/a", "/a/."}, {"/a", "/a/d/.."}, {"/a", "/a/@low"}, {"/a", "/toa/z"}, {"/a", "/toa/d"}, {"/a", "/a/out"},
		{"/a", "/a@low/z@low"}, {"/a", "/@low/a/z"}, {"/a/d", "/a/d/z"}, {"/a/d", "/toa/d/deep/in/z"}, {"/m", "/m/z"}, {"/m", "/m/x"}, {"/m", "/m/sub"}, {"/m", "/m/sub/z"}, {"/m", "/m/@low"}, {"/m", "/m/@low/z"}, {"/a/d/deep", "/a/d/deep/z"}, {"/a/d/deep", "/a/d/deep/in/z"},
	} {
		w.rename(t, low, x.old, x.s, api.ErrInvalid)
	}
	for _, x := range []struct {
		from []api.Ino
		s    string
	}{{stack(w.a), "z"}, {stack(w.a, w.sub), "z"}, {stack(w.a, w.sub), "e"}, {stack(w.a, w.sub), "."}, {stack(w.a, w.sub), ".."}, {stack(w.a, w.sub, deep), "in/z"}, {stack(w.a, w.sub, deep), "z"}} {
		w.done(t, low, "Rename", w.tree(low, x.from...).Rename("/a", x.s), api.ErrInvalid)
	}
	w.right(t)
	// what is no directory may, and a way that has left it doesn't go through it
	w.rename(t, low, "/f", "/a/d/f", api.OK)
	w.rename(t, low, "/a", "/a/../m/a", api.OK)
	w.rename(t, low, "/m", "/m/../k", api.OK)
	w.right(t)
}

// P13.4: nor where the way from where one is doesn't go through it any more, as it was moved since: else it would lie in itself (P14.2).
func TestRenameIntoMoved(t *testing.T) {
	w := planted(t)
	o := w.make(t, low, "/o", api.KDir)
	i := w.make(t, low, "/o/i", api.KDir)
	full := w.make(t, low, "/o/full", api.KMulti)
	w.make(t, low, "/o/full/x", api.KFile)
	f := w.make(t, low, "/o/f", api.KFile)
	var theirs [][]api.Ino // where one was ahead of it
	for _, s := range []string{"/o", "/o/i", "/o/full"} {
		l, e := w.view().Dir(low, nil, s)
		if e != api.OK {
			t.Fatalf("Dir = %d", e)
		}
		theirs = append(theirs, l)
	}
	w.rename(t, low, "/o", "/a/d/o", api.OK)
	for _, from := range theirs {
		for _, old := range []string{"/a", "/a/d"} {
			for _, s := range []string{"z", "z@low", "./z", "i", "f", "x"} {
				w.done(t, low, "Rename of "+old+" "+s, w.tree(low, from...).Rename(old, s), api.ErrInvalid)
			}
			w.done(t, low, "Rename", w.tree(low, from...).Rename(old, "../o/z"), api.ErrNone)
			w.done(t, low, "Rename", w.tree(low, from...).Rename(old, "."), api.ErrBusy)
		}
	}
	w.done(t, low, "Rename", w.tree(low, o).Rename("/a", "z"), api.ErrInvalid)
	w.done(t, low, "Rename", w.tree(low, i).Rename("/a", "z"), api.ErrInvalid)
	w.done(t, low, "Rename", w.tree(low, w.own(low)).Rename("/a", "z"), api.OK)
	w.done(t, low, "Rename", w.tree(low).Rename("/z", "/a"), api.OK)
	// of what each label has its own of likewise, also if its own directory of the place isn't there yet
	n := w.make(t, low, "/n", api.KMulti)
	e := w.make(t, low, "/n/e", api.KMulti)
	w.rename(t, low, "/a", "/n/a", api.OK)
	w.done(t, low, "Rename", w.tree(low, stack(o)...).Rename("/n", "z"), api.ErrInvalid)
	w.done(t, low, "Rename", w.tree(low, stack(e)...).Rename("/n", "z"), api.ErrInvalid)
	w.done(t, low, "Rename", w.tree(low, w.ownOf(t, low, n)).Rename("/n", "z"), api.ErrInvalid)
	w.done(t, low, "Rename", w.tree(low, full).Rename("/n", "z"), api.ErrInvalid)
	w.right(t)
	// others come there
	w.done(t, low, "Rename", w.tree(low, stack(o)...).Rename("/m", "m"), api.OK)
	w.done(t, low, "Rename", w.tree(low, stack(o)...).Rename("/f", "f"), api.OK)
	w.list(t, o, entry("i", i), entry("full", full), entry("f", w.f), entry("m", w.m))
	w.gone(t, f)
	w.right(t)
}

// P13.4: on a disk that isn't right, on which a directory lies in itself, the look into it ends.
func TestRenameRound(t *testing.T) {
	w := planted(t)
	w.enter(t, w.sub, "a", w.a.Num)
	w.enter(t, w.sub, "again", w.a.Num)
	o := w.make(t, low, "/o", api.KDir)
	w.done(t, low, "Rename", w.tree(low, stack(o)...).Rename("/a", "z"), api.OK)
	w.done(t, low, "Rename", w.tree(low, o).Rename("/o/z/d", "y"), api.OK)
	w.lay(t, low, int(w.sub.Num), append([]byte{1}, make([]byte, 15)...))
	w.done(t, low, "Rename", w.tree(low, stack(w.m)...).Rename("/o", "o"), api.ErrForm)
	w.rename(t, low, "/o", "/oo", api.OK) // nothing in it is looked at
	w.lay(t, low, int(w.sub.Num), []byte{61, 0, 'x', 15: 0})
	w.done(t, low, "Rename", w.tree(low, stack(w.m)...).Rename("/oo", "o"), api.ErrRange)
	w.lay(t, low, int(w.sub.Num), []byte{60, 0, 'x', 15: 0})
	w.done(t, low, "Rename", w.tree(low, stack(w.m)...).Rename("/oo", "o"), api.OK)
}

// P13.4: the same node: nothing is changed, whichever of its names it is.
func TestRenameSame(t *testing.T) {
	w := planted(t)
	w.link(t, low, "/f", "/a/f", api.OK)
	w.link(t, low, "/l", "/k", api.OK)
	was := w.d.Image()
	for _, x := range []struct{ old, s string }{{"/f", "/f"}, {"/f", "/a/f"}, {"/a/f", "/f"}, {"/l", "/k"}, {"/a", "/a"}, {"/a", "/a@low"}, {"/a/d", "/a/d"}, {"/m", "/m"}, {"/a", "/a/../a"}, {"/p", "//p/"}} {
		if e := w.tree(low).Rename(x.old, x.s); e != api.OK || w.x.Len() > 0 {
			t.Errorf("Rename(%q, %q) = %d, %d blocks are put", x.old, x.s, e, w.x.Len())
		}
	}
	if now := w.d.Image(); len(now) != len(was) || w.node(t, w.f).Links != 2 {
		t.Error("something is changed")
	}
	w.right(t)
}

// P13.4: what is no directory in place of what is none: that has one name less, and goes with its last one.
func TestRenameOnto(t *testing.T) {
	w := planted(t)
	g := w.open(t, low)
	if e := file.Write(g, int(w.b.Num), 0, make([]byte, 100)); e != api.OK {
		t.Fatalf("Write = %d", e)
	}
	w.commit(t)
	w.link(t, low, "/a/b", "/a/c", api.OK)
	w.rename(t, low, "/f", "/a/b", api.OK)
	w.list(t, w.a, entry("b", w.f), entry("d", w.sub), entry("c", w.b))
	if n := w.node(t, w.b); n.Links != 1 || n.Size != 100 {
		t.Errorf("what had the name is %v", n)
	}
	before, _, _ := g.Usage()
	w.rename(t, low, "/p", "/a/c", api.OK)
	w.gone(t, w.b)
	if after, _, _ := g.Usage(); after != before-2 {
		t.Errorf("%d blocks, then %d", before, after)
	}
	w.rename(t, low, "/l", "/dead", api.OK) // neither is followed
	w.gone(t, w.dead)
	w.rename(t, low, "/m/x", "/dead", api.OK)
	w.gone(t, w.l)
	w.list(t, w.mlow)
	w.list(t, w.own(low), entry("a", w.a), api.Entry{Name: "m", Num: w.m.Num}, entry("dead", w.mine))
	w.right(t)
	w.rename(t, low, "/a/c", "/a/b", api.OK) // in one directory
	w.list(t, w.a, entry("b", w.p), entry("d", w.sub))
	w.gone(t, w.f)
	w.right(t)
}

// P13.4: a directory in place of one, of either kind, that is empty.
func TestRenameOntoDir(t *testing.T) {
	w := planted(t)
	for _, s := range []string{"/f", "/p", "/l", "/dead", "/m/x"} {
		w.rename(t, low, "/a", s, api.ErrNotDir)
		w.rename(t, low, "/a/d", s, api.ErrNotDir)
	}
	for _, s := range []string{"/a", "/a/d", "/m"} {
		w.rename(t, low, "/f", s, api.ErrIsDir)
		w.rename(t, low, "/l", s, api.ErrIsDir)
	}
	w.rename(t, low, "/m", "/f", api.ErrNotDir)
	w.rename(t, low, "/a", "/m", api.ErrNotEmpty)
	w.rename(t, low, "/m", "/a", api.ErrNotEmpty)
	w.rename(t, low, "/m", "/a/d", api.ErrNotEmpty)
	w.rename(t, low, "/a/d", "/a", api.ErrNotEmpty) // it is in it
	one := w.make(t, low, "/one", api.KDir)
	two := w.make(t, low, "/two", api.KMulti)
	w.lay(t, low, int(one.Num), make([]byte, 5*16)) // empty places
	w.rename(t, low, "/a", "/one", api.OK)
	w.gone(t, one)
	w.rename(t, low, "/one/d", "/two", api.OK)
	w.gone(t, two)
	w.list(t, w.sub, entry("e", w.e))
	w.list(t, w.a, entry("b", w.b))
	w.right(t)
	w.unlink(t, low, "/m/x", api.OK)
	w.rename(t, low, "/two", "/m", api.OK) // its own directory goes, high's stays
	w.gone(t, w.m, w.mlow)
	w.list(t, w.mhigh, entry("i", w.hi))
	w.list(t, w.own(low), entry("f", w.f), entry("p", w.p), entry("m", w.sub), entry("l", w.l), entry("dead", w.dead), entry("one", w.a))
	if l, e := inst.List(w.open(t, low)); e != api.OK || len(l) > 0 {
		t.Errorf("records: %v, %d", l, e)
	}
	w.right(t)
	k := w.make(t, low, "/k", api.KMulti)
	in := w.make(t, low, "/k/in", api.KFile)
	w.unlink(t, low, "/one/b", api.OK)
	w.rename(t, low, "/k", "/one", api.OK)
	w.gone(t, w.a)
	w.list(t, w.ownOf(t, low, k), entry("in", in))
	w.right(t)
}

// P13.3, P13.4: a directory goes as one, though it says that it has more names.
func TestDirLinks(t *testing.T) {
	w := planted(t)
	for _, s := range []string{"/n", "/k"} {
		i := w.make(t, low, s, api.KDir)
		n := w.node(t, i)
		n.Links = 2
		w.set(t, i, n)
		if s == "/n" {
			w.rmdir(t, low, s, api.OK)
		} else {
			w.rename(t, low, "/a", s, api.OK)
		}
		w.gone(t, i)
	}
	w.right(t)
}

// P13.4, P6: a name that is another one needs no block, where the one that goes gives one.
func TestRenameSpace(t *testing.T) {
	w := begun(t, scarce)
	d := w.make(t, low, "/d", api.KDir)
	f := w.make(t, low, "/f", api.KFile)
	if e := file.Write(w.open(t, low), int(f.Num), 0, make([]byte, 3*64)); e != api.OK {
		t.Fatalf("Write = %d", e)
	}
	w.commit(t)
	w.rename(t, low, "/f", "/g", api.OK)
	w.rename(t, low, "/f", "/d/g", api.ErrNone)
	w.rename(t, low, "/g", "/d/g", api.ErrSpace) // the root keeps its block, as /d is in it
	w.link(t, low, "/g", "/x", api.OK)
	w.rename(t, low, "/x", "/g", api.OK)
	w.rename(t, low, "/d", "/x", api.ErrNotDir)
	w.unlink(t, low, "/x", api.OK)
	w.rename(t, low, "/g", "/d", api.ErrIsDir)
	w.list(t, w.own(low), entry("d", d), entry("g", f))
	w.right(t)
	k := begun(t, scarce) // the root's second block goes, and is the directory's
	d = k.make(t, low, "/d", api.KDir)
	var last api.Ino
	for _, s := range []string{"/f", "/g", "/h", "/i"} {
		last = k.make(t, low, s, api.KFile)
	}
	if e := file.Write(k.open(t, low), int(last.Num), 0, make([]byte, 2*64)); e != api.OK {
		t.Fatalf("Write = %d", e)
	}
	k.commit(t)
	k.rename(t, low, "/i", "/d/i", api.OK)
	k.list(t, d, entry("i", last))
	k.right(t)
}

// P13.4: what the directories and the table say of themselves.
func TestRenameForm(t *testing.T) {
	w := planted(t)
	n := w.make(t, low, "/n", api.KDir)
	w.lay(t, low, int(n.Num), append([]byte{1}, make([]byte, 15)...))
	w.rename(t, low, "/f", "/n/z", api.ErrForm)
	w.rename(t, low, "/a", "/n", api.ErrForm) // whether it is empty can't be said
	// from the root on what is in it isn't looked at, from elsewhere it is
	w.rename(t, low, "/n", "/k", api.OK)
	w.done(t, low, "Rename", w.tree(low).Rename("k", "n"), api.OK)
	w.done(t, low, "Rename", w.tree(low, stack()...).Rename("n", "k"), api.OK)
	w.done(t, low, "Rename", w.tree(low, stack(w.a)...).Rename("/k", "/n"), api.OK)
	w.done(t, low, "Rename", w.tree(low, stack(w.a)...).Rename("/n", "k"), api.ErrForm)
	w.lay(t, low, inst.Table, []byte{1})
	w.rename(t, low, "/a", "/m", api.ErrForm)
	w.rename(t, low, "/m", "/mm", api.OK)
	w.lay(t, left, inst.Table, []byte{1})
	w.rename(t, left, "/a", "/mm@low/a", api.ErrForm)
	w.rename(t, left, "/a", "/aa", api.OK)
}
