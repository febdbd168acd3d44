package tree_test

import (
	"testing"

	"garrison/api"
	"garrison/file"
	"garrison/inst"
)

// ownErrors: what is no name of low's own, in planted, and why; of such as are directories, or aren't, too.
func ownErrors() map[string]api.Errno {
	return map[string]api.Errno{
		"/z": api.ErrNone, "/a/z": api.ErrNone, "/m/z": api.ErrNone, "z": api.ErrNone,
		"/": api.ErrBusy, ".": api.ErrBusy, "..": api.ErrBusy, "/a/.": api.ErrBusy, "/a/d/..": api.ErrBusy, "/a/d/../..": api.ErrBusy, "@low": api.ErrBusy, "/@low": api.ErrBusy, "/m/@low": api.ErrBusy, "/a/@low": api.ErrBusy,
		"/one": api.ErrBusy, "/two": api.ErrBusy, "/three": api.ErrBusy,
		"/z/z": api.ErrNone, "/f/z": api.ErrNotDir, "/f/.": api.ErrNotDir, "/l/z": api.ErrNotDir, "": api.ErrInvalid, "/a b": api.ErrInvalid, "/abcdefghijklmno": api.ErrLong,
		"/a@high": api.ErrPerm, "/@left/a": api.ErrPerm, "/a/b@left": api.ErrAway, "/a@none": api.ErrNone,
	}
}

// withOwn: planted, and names of low's own nodes 1 to 3, though no disk that is right has such.
func withOwn(t *testing.T) trees {
	t.Helper()
	w := planted(t)
	for i, s := range []string{"one", "two", "three"} {
		w.enter(t, w.own(low), s, uint16(i+1))
	}
	return w
}

// P13.3, P13.4: what each of them changes has to be a name of one's own.
func TestOwnErrors(t *testing.T) {
	w := withOwn(t)
	for s, want := range ownErrors() {
		w.link(t, low, s, "/n", want)
		w.link(t, low, s, "/a", want) // told ahead of the other path's errors
		w.link(t, low, s, "", want)
		w.unlink(t, low, s, want)
		w.rmdir(t, low, s, want)
		w.rename(t, low, s, "/n", want)
		w.rename(t, low, s, "/f", want)
		w.rename(t, low, s, "", want)
		w.rename(t, low, s, "/z/z/z", want)
	}
	for _, s := range []string{"/a", "/n", "/a/n", "/", "", "/z/z", "/f/z"} {
		w.link(t, high, "/f@low", s, api.ErrPerm)
		w.rename(t, high, "/f@low", s, api.ErrPerm)
		w.rename(t, high, "/a@low", s, api.ErrPerm)
	}
}

// P13.3, P13.4, P3: of another label nobody changes a name, be it below or not.
func TestOwnPerm(t *testing.T) {
	w := withOwn(t)
	for _, x := range []struct {
		subject int
		s       string
		want    api.Errno
	}{
		{high, "/f@low", api.ErrPerm}, {high, "/a@low", api.ErrPerm}, {high, "/@low/f", api.ErrPerm}, {high, "/a@low/b", api.ErrPerm}, {high, "/a@low/d", api.ErrPerm}, {high, "/m@low", api.ErrPerm}, {high, "/m@low/x@low", api.ErrPerm}, {high, "/l@low", api.ErrPerm}, {high, "/p@low", api.ErrPerm}, {high, "/a@left", api.ErrPerm},
		{left, "/f@low", api.ErrPerm}, {left, "/m@low/x@low", api.ErrPerm}, {left, "/a@high", api.ErrPerm}, {left, "/a@right", api.ErrPerm}, {high, "/one@low", api.ErrPerm}, {high, "/two@low", api.ErrPerm},
		{high, "/z@low", api.ErrNone}, {high, "/m@low/z@low", api.ErrNone}, {high, "/m@low/z@left", api.ErrNone}, {high, "/a@low/z", api.ErrNone}, {left, "/m@low/z", api.ErrNone},
		{high, "/@low", api.ErrBusy}, {high, "/a@low/.", api.ErrBusy}, {high, "/m@low/@low", api.ErrBusy},
	} {
		w.link(t, x.subject, x.s, "/n", x.want)
		w.unlink(t, x.subject, x.s, x.want)
		w.rmdir(t, x.subject, x.s, x.want)
		w.rename(t, x.subject, x.s, "/k", x.want)
		w.rename(t, x.subject, x.s, "/a", x.want)
	}
	for _, from := range []api.Ino{w.ha, w.mhigh} { // where no way of low leads to
		tr := w.tree(low, from)
		for _, s := range []string{"i", "z"} {
			want := api.ErrPerm
			if from == w.ha || s == "z" {
				want = api.ErrNone
			}
			w.done(t, low, "Unlink "+s, tr.Unlink(s), want)
			w.done(t, low, "Rename "+s, tr.Rename(s, "/z"), want)
			w.done(t, low, "Link "+s, tr.Link(s, "/z"), want)
		}
		w.done(t, low, "Link", tr.Link("/f", "z"), api.ErrPerm)
		w.done(t, low, "Rename", tr.Rename("/f", "z"), api.ErrPerm)
	}
}

// P13.3: one more name of a file, a pipe, a symbolic link; in whatever directory of one's own.
func TestLink(t *testing.T) {
	w := planted(t)
	for _, x := range []struct {
		old  string
		node api.Ino
	}{{"/f", w.f}, {"/p", w.p}, {"/l", w.l}, {"/dead", w.dead}, {"/a/b", w.b}, {"/m/x", w.mine}} {
		was := w.node(t, x.node)
		name := "n" + string('a'+rune(x.node.Num))
		w.link(t, low, x.old, "/"+name, api.OK)
		w.link(t, low, "/"+name, "/a/"+name, api.OK)
		w.link(t, low, x.old, "/m/"+name, api.OK)
		w.link(t, low, "/a/d/../"+name, "/a/d/"+name+"@low", api.OK)
		was.Links += 4
		if n := w.node(t, x.node); n != was {
			t.Errorf("%s is %v, wanted %v", x.old, n, was)
		}
		for _, s := range []string{x.old, "/" + name, "/a/" + name, "/a/d/" + name, "/m/" + name} {
			if st, e := w.tree(low).Stat(s, false); e != api.OK || st.Ino != x.node || st.Links != 5 {
				t.Errorf("Stat of %q = %v, %d", s, st, e)
			}
		}
	}
	e := w.tree(low, stack(w.a, w.sub)...).Link("../b", "./again")
	w.done(t, low, "Link", e, api.OK)
	w.make(t, left, "/m@low/q", api.KFile)
	w.make(t, left, "/k", api.KMulti)
	w.link(t, left, "/m@low/q", "/k/q", api.OK) // its own directory is made
	w.list(t, w.ownOf(t, left, api.Ino{Lab: left, Num: 7, Gen: 1}), api.Entry{Name: "q", Num: 6})
	w.right(t)
}

// P13.3: no directory; no new place; neither of another label's.
func TestLinkErrors(t *testing.T) {
	w := planted(t)
	for _, s := range []string{"/z", "/f", "", "/z/z", "/z@high", "/", "/z@none"} {
		for _, old := range []string{"/a", "/a/d", "/m"} {
			w.link(t, low, old, s, api.ErrIsDir)
		}
	}
	for s, want := range newErrors() {
		for _, old := range []string{"/f", "/l", "/a/b", "/p"} {
			w.link(t, low, old, s, want)
		}
	}
	w.link(t, left, "/a", "/n@low", api.ErrPerm)
	w.link(t, left, "/a", "/a@low/d/n", api.ErrPerm)
	w.link(t, high, "/m@low/i", "/m@low/n@left", api.ErrPerm)
	w.none(t, left, w.m)
	if n := w.node(t, w.f); n.Links != 1 {
		t.Errorf("/f is %v", n)
	}
	w.right(t)
}

// P13.3: 250 links, not 251; ahead of that is what the directory says.
func TestLinkMany(t *testing.T) {
	w := planted(t)
	d := 0
	for i := 1; i < 250; i++ {
		if i%50 == 1 {
			d++
			w.make(t, low, "/a/"+string('q'+rune(d)), api.KDir)
		}
		w.link(t, low, "/f", "/a/"+string('q'+rune(d))+"/"+string('a'+rune(i%50/25))+string('a'+rune(i%25)), api.OK)
	}
	if n := w.node(t, w.f); n.Links != 250 {
		t.Fatalf("/f is %v", n)
	}
	w.right(t)
	w.link(t, low, "/f", "/g", api.ErrMany)
	w.link(t, low, "/f", "/a/b", api.ErrExists)
	w.link(t, low, "/f", "/a/g", api.ErrMany)
	w.unlink(t, low, "/f", api.OK)
	w.link(t, low, "/a/r/aa", "/g", api.OK)
	w.link(t, low, "/g", "/f", api.ErrMany)
	w.right(t)
	for _, links := range []uint8{250, 251, 255} { // as it can't be on a disk that is right
		n := w.node(t, w.b)
		n.Links = links
		w.set(t, w.b, n)
		w.link(t, low, "/a/b", "/k", api.ErrMany)
	}
}

// P13.3, P6: dir.Add's error comes ahead of that of too many links.
func TestLinkSpace(t *testing.T) {
	w := begun(t, scarce)
	f := w.make(t, low, "/f", api.KFile)
	for _, s := range []string{"/g", "/h", "/i"} {
		w.link(t, low, "/f", s, api.OK)
	}
	if e := file.Write(w.open(t, low), int(f.Num), 0, make([]byte, 3*64)); e != api.OK {
		t.Fatalf("Write = %d", e)
	}
	w.commit(t)
	w.link(t, low, "/f", "/j", api.ErrSpace)
	n := w.node(t, f)
	n.Links = 250
	w.set(t, f, n)
	w.link(t, low, "/f", "/j", api.ErrSpace)
	w.unlink(t, low, "/i", api.OK)
	n.Links = 4
	w.set(t, f, n)
	w.link(t, low, "/f", "/j", api.OK)
}

// P13.3: name by name goes, with the last one the node, and its blocks.
func TestUnlink(t *testing.T) {
	w := planted(t)
	g := w.open(t, low)
	if e := file.Write(g, int(w.f.Num), 0, make([]byte, 500)); e != api.OK {
		t.Fatalf("Write = %d", e)
	}
	w.commit(t)
	w.link(t, low, "/f", "/a/g", api.OK)
	w.link(t, low, "/f", "/m/h", api.OK)
	was := w.node(t, w.f)
	for i, s := range []string{"/a/g", "/f"} {
		before, _, _ := g.Usage()
		w.unlink(t, low, s, api.OK)
		after, _, _ := g.Usage()
		was.Links = uint8(2 - i)
		if n := w.node(t, w.f); n != was || after != before {
			t.Errorf("without %s it is %v, wanted %v; %d blocks, then %d", s, n, was, before, after)
		}
		if _, e := w.tree(low).Stat(s, false); e != api.ErrNone {
			t.Errorf("Stat of %s = %d", s, e)
		}
		w.unlink(t, low, s, api.ErrNone)
	}
	before, nodes, _ := g.Usage()
	w.unlink(t, low, "/m/h", api.OK)
	w.gone(t, w.f)
	if after, now, _ := g.Usage(); after != before-9 || now != nodes-1 { // eight, and one of pointers
		t.Errorf("%d blocks, %d nodes, then %d, %d", before, nodes, after, now)
	}
	if n, e := g.Node(int(w.f.Num)); e != api.OK || n != (api.Node{Gen: 1}) {
		t.Errorf("a free node is %v, %d", n, e)
	}
	w.list(t, w.mlow, entry("x", w.mine))
	w.list(t, w.own(low), entry("a", w.a), entry("p", w.p), entry("m", w.m), entry("l", w.l), entry("dead", w.dead))
	w.right(t)
}

// P13.3: of each kind that is no directory; a link isn't followed.
func TestUnlinkKinds(t *testing.T) {
	w := planted(t)
	before, _, _ := w.open(t, low).Usage()
	for _, s := range []string{"/l", "/dead", "/p", "/m/x", "/a/d/e"} {
		w.unlink(t, low, s, api.OK)
	}
	w.gone(t, w.l, w.dead, w.p, w.mine, w.e)
	if after, _, _ := w.open(t, low).Usage(); after != before-5 { // two links; the root's second block; two directories are empty
		t.Errorf("%d blocks, then %d", before, after)
	}
	w.unlink(t, left, "/a", api.OK)
	w.unlink(t, high, "/m@low/i", api.OK)
	w.gone(t, w.la, w.hi)
	w.list(t, w.mlow)
	w.list(t, w.mhigh) // it stays
	e := w.tree(low, stack(w.a, w.sub)...).Unlink("../b")
	w.done(t, low, "Unlink", e, api.OK)
	w.gone(t, w.b)
	for _, s := range []string{"/a", "/a/d", "/m"} {
		w.unlink(t, low, s, api.ErrIsDir)
	}
	w.right(t)
}

// P13.3: a directory that is empty goes, and its blocks.
func TestRmdir(t *testing.T) {
	w := planted(t)
	g := w.open(t, low)
	for _, s := range []string{"/f", "/p", "/l", "/dead", "/a/b", "/m/x"} {
		w.rmdir(t, low, s, api.ErrNotDir)
	}
	w.rmdir(t, low, "/a", api.ErrNotEmpty)
	w.rmdir(t, low, "/a/d", api.ErrNotEmpty)
	w.unlink(t, low, "/a/d/e", api.OK)
	w.rmdir(t, low, "/a/d", api.OK)
	w.gone(t, w.sub)
	w.list(t, w.a, entry("b", w.b))
	w.rmdir(t, low, "/a", api.ErrNotEmpty)
	w.unlink(t, low, "/a/b", api.OK)
	_, nodes, _ := g.Usage()
	e := w.tree(low, stack(w.a)...).Rmdir("../a") // where one is
	w.done(t, low, "Rmdir", e, api.OK)
	w.gone(t, w.a)
	if _, now, _ := g.Usage(); now != nodes-1 {
		t.Errorf("%d nodes, then %d", nodes, now)
	}
	w.rmdir(t, low, "/a", api.ErrNone)
	w.rmdir(t, high, "/a", api.OK)
	w.gone(t, w.ha)
	w.right(t)
}

// P13.3: a directory with places, that are empty all the same, has blocks to give.
func TestRmdirPlaces(t *testing.T) {
	w := planted(t)
	d := w.make(t, low, "/n", api.KDir)
	w.lay(t, low, int(d.Num), make([]byte, 10*16))
	before, _, _ := w.open(t, low).Usage()
	w.rmdir(t, low, "/n", api.OK)
	if after, _, _ := w.open(t, low).Usage(); after != before-3 {
		t.Errorf("%d blocks, then %d", before, after)
	}
	w.right(t)
}

// P13.3: of what each label has its own of: the subject's own has to be empty, and goes; of others' it doesn't hear (P3).
func TestRmdirMulti(t *testing.T) {
	w := planted(t)
	w.rmdir(t, low, "/m", api.ErrNotEmpty)
	w.unlink(t, low, "/m/x", api.OK)
	if l, e := inst.List(w.open(t, low)); e != api.OK || len(l) != 1 {
		t.Errorf("records: %v, %d", l, e)
	}
	w.rmdir(t, low, "/m", api.OK) // though high's isn't empty
	w.gone(t, w.m, w.mlow)
	if l, e := inst.List(w.open(t, low)); e != api.OK || len(l) > 0 {
		t.Errorf("records: %v, %d", l, e)
	}
	w.list(t, w.mhigh, entry("i", w.hi)) // it stays, as its label's
	if own := w.ownOf(t, high, w.m); own != w.mhigh {
		t.Errorf("high's own directory is %v", own)
	}
	w.right(t)
	w.rmdir(t, high, "/n", api.OK) // nobody had his own of it
	w.gone(t, w.hn)
	again := w.make(t, low, "/m", api.KMulti) // another one: high has none of it
	if again == w.m {
		t.Fatalf("Make = %v again", again)
	}
	w.none(t, high, again)
	w.none(t, low, again)
	w.rmdir(t, low, "/m", api.OK)
	w.right(t)
}

// P13.3: what the directories and the table say of themselves.
func TestNamesForm(t *testing.T) {
	w := planted(t)
	w.lay(t, low, int(w.sub.Num), append([]byte{1}, make([]byte, 15)...))
	w.rmdir(t, low, "/a/d", api.ErrForm)
	w.unlink(t, low, "/a/d/e", api.ErrForm)
	w.link(t, low, "/f", "/a/d/z", api.ErrForm)
	w.lay(t, low, inst.Table, []byte{1})
	w.rmdir(t, low, "/m", api.ErrForm)
	w.unlink(t, low, "/m/x", api.ErrForm)
	w.unlink(t, low, "/a/b", api.OK)
	w.lay(t, low, int(w.a.Num), []byte{60, 0, 'b', 15: 0})
	w.unlink(t, low, "/a/b", api.ErrStale) // a name of a free node
}
