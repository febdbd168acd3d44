package tree_test

import (
	"strconv"
	"strings"
	"testing"

	"garrison/api"
	"garrison/file"
	"garrison/inst"
)

// P13.2: a node of each kind, with its name in the first empty place, or behind all.
func TestMake(t *testing.T) {
	w := begun(t, four)
	var want []api.Entry
	for i, k := range []api.Kind{api.KFile, api.KDir, api.KMulti, api.KFifo} {
		for j, s := range []string{"/x" + strconv.Itoa(i), "//y" + strconv.Itoa(i) + "/", "z" + strconv.Itoa(i), "./u" + strconv.Itoa(i), "@low/v" + strconv.Itoa(i), "/../w" + strconv.Itoa(i) + "@low"} {
			num := uint16(4 + 6*i + j)
			made, e := w.tree(low).Make(s, k)
			w.done(t, low, "Make "+s, e, api.OK)
			if made != (api.Ino{Lab: low, Num: num, Gen: 1}) {
				t.Errorf("Make(%q, %d) = %v", s, k, made)
			}
			if n := w.node(t, made); n != (api.Node{Kind: k, Links: 1, Gen: 1}) {
				t.Errorf("Make(%q, %d) = %v", s, k, n)
			}
			want = append(want, entry(string("xyzuvw"[j])+strconv.Itoa(i), made))
		}
	}
	w.list(t, w.own(low), want...)
	w.unlink(t, low, "/y0", api.OK)
	made := w.make(t, low, "/n", api.KDir)
	if made != (api.Ino{Lab: low, Num: 5, Gen: 2}) {
		t.Errorf("Make in place of another one = %v", made)
	}
	want[1] = entry("n", made)
	w.list(t, w.own(low), want...)
	w.right(t)
}

// P13.2: in directories, by links on the way, from where the subject is.
func TestMakeIn(t *testing.T) {
	w := planted(t)
	w.symlink(t, low, "/a/d", "/tod")
	one := w.make(t, low, "/a/d/one", api.KFile)
	two := w.make(t, low, "/tod/two", api.KDir)
	three, e := w.tree(low, stack(w.a)...).Make("d/two/three", api.KFifo)
	w.done(t, low, "Make", e, api.OK)
	four, e := w.tree(low, stack(w.a, w.sub)...).Make("../four", api.KMulti)
	w.done(t, low, "Make", e, api.OK)
	five, e := w.tree(low, w.sub).Make("five@low", api.KFile)
	w.done(t, low, "Make", e, api.OK)
	w.list(t, w.sub, entry("e", w.e), entry("one", one), entry("two", two), entry("five", five))
	w.list(t, two, entry("three", three))
	w.list(t, w.a, entry("b", w.b), entry("d", w.sub), entry("four", four))
	w.right(t)
}

// P13.2: of a label's own directories: the one that is there, or the one that is made.
func TestMakeInOwn(t *testing.T) {
	w := planted(t)
	y := w.make(t, low, "/m/y", api.KFile)
	w.list(t, w.mlow, entry("x", w.mine), entry("y", y))
	z := w.make(t, low, "/m/z@low", api.KFile)
	w.list(t, w.mlow, entry("x", w.mine), entry("y", y), entry("z", z))
	u, e := w.tree(low, stack(w.m)...).Make("u", api.KFile)
	w.done(t, low, "Make", e, api.OK)
	w.list(t, w.mlow, entry("x", w.mine), entry("y", y), entry("z", z), entry("u", u))
	w.none(t, left, w.m)
	for i, s := range []string{"/m@low/x", "/m@low/y@left"} { // the same name may be in each one's
		made := w.make(t, left, s, api.KFile)
		own := w.ownOf(t, left, w.m)
		if want := (api.Ino{Lab: left, Num: uint16(6 + i), Gen: 1}); made != want || own != (api.Ino{Lab: left, Num: 5, Gen: 1}) {
			t.Errorf("Make of %s = %v, in %v, wanted %v", s, made, own, want)
		}
	}
	w.none(t, right, w.m)
	n := w.make(t, right, "/m@low/n", api.KMulti)
	deep := w.make(t, right, "/m@low/n/deep", api.KDir)
	w.list(t, w.ownOf(t, right, w.m), entry("n", n))
	w.list(t, w.ownOf(t, right, n), entry("deep", deep))
	w.list(t, w.mlow, entry("x", w.mine), entry("y", y), entry("z", z), entry("u", u))
	w.right(t)
}

// newErrors: what is no new place for low, in planted, and why.
func newErrors() map[string]api.Errno {
	return map[string]api.Errno{
		"/a": api.ErrExists, "/a/": api.ErrExists, "/f": api.ErrExists, "/a/b": api.ErrExists, "/m": api.ErrExists, "/m/x": api.ErrExists, "/l": api.ErrExists, "/dead": api.ErrExists, "/@low/a": api.ErrExists,
		"/": api.ErrExists, ".": api.ErrExists, "..": api.ErrExists, "/a/.": api.ErrExists, "/a/d/..": api.ErrExists, "@low": api.ErrExists, "/m/@low": api.ErrExists,
		"/z/z": api.ErrNone, "/f/z": api.ErrNotDir, "/l/z": api.ErrNotDir, "/dead/z": api.ErrNone, "": api.ErrInvalid, "/a b": api.ErrInvalid, "/z@": api.ErrInvalid, "/abcdefghijklmno": api.ErrLong, "/" + strings.Repeat("a/", 60): api.ErrLong,
		"/z@high": api.ErrPerm, "/@left/z": api.ErrPerm, "/a/z@left": api.ErrAway, "/z@none": api.ErrNone,
	}
}

// P13.2: what is no new place, ahead of what can't be made.
func TestMakeErrors(t *testing.T) {
	w := planted(t)
	for s, want := range newErrors() {
		for k := range api.Kind(8) {
			i, e := w.tree(low).Make(s, k)
			w.done(t, low, "Make "+s, e, want)
			if i != root {
				t.Errorf("Make(%q, %d) = %v beside %d", s, k, i, e)
			}
		}
		i, e := w.tree(low).Symlink("/a", s)
		w.done(t, low, "Symlink "+s, e, want)
		if i != root {
			t.Errorf("Symlink %q = %v beside %d", s, i, e)
		}
	}
	for _, k := range []api.Kind{api.KFree, api.KLink, 6, 7, 255} {
		for _, s := range []string{"/z", "/a/z", "/m/z"} {
			if i, e := w.tree(low).Make(s, k); e != api.ErrRange || i != root {
				t.Errorf("Make(%q, %d) = %v, %d", s, k, i, e)
			}
			w.x.Drop()
		}
	}
	w.right(t)
}

// P13.2, P3: in another label's directories nobody makes anything, be they below or not, there or not.
func TestMakePerm(t *testing.T) {
	w := planted(t)
	for _, x := range []struct {
		subject int
		s       string
		want    api.Errno
	}{
		{high, "/z@low", api.ErrPerm}, {high, "/@low/z", api.ErrPerm}, {high, "/a@low/z", api.ErrPerm}, {high, "/a@low/d/z@low", api.ErrPerm}, {high, "/m@low/z@low", api.ErrPerm}, {high, "/m@low/z@left", api.ErrPerm}, {high, "/m@low/@low/z", api.ErrPerm},
		{left, "/z@low", api.ErrPerm}, {left, "/m@low/z@low", api.ErrPerm}, {left, "/m@low/z@right", api.ErrPerm}, {left, "/m@low/z@high", api.ErrPerm}, {left, "/z@high", api.ErrPerm},
		{high, "/a@low", api.ErrExists}, {high, "/a@low/b", api.ErrExists}, {high, "/a@low/.", api.ErrExists}, // it is there: told ahead
	} {
		i, e := w.tree(x.subject).Make(x.s, api.KFile)
		w.done(t, x.subject, "Make "+x.s, e, x.want)
		j, e := w.tree(x.subject).Symlink("/a", x.s)
		w.done(t, x.subject, "Symlink "+x.s, e, x.want)
		if i != root || j != root {
			t.Errorf("%q of %d: %v, %v", x.s, x.subject, i, j)
		}
	}
	for _, lab := range []int{left, right} {
		w.none(t, lab, w.m)
	}
	if i, e := w.tree(low, w.ha).Make("z", api.KFile); e != api.ErrPerm || i != root {
		t.Errorf("Make in a directory above = %v, %d", i, e)
	}
	w.right(t)
}

// P13.2: in what isn't there any more.
func TestMakeStale(t *testing.T) {
	w := planted(t)
	n := w.make(t, low, "/n", api.KDir)
	w.rmdir(t, low, "/n", api.OK)
	again := w.make(t, low, "/n", api.KDir)
	if again.Num != n.Num {
		t.Fatalf("%v, then %v", n, again)
	}
	for _, s := range []string{"z", "./z", ".", "z/z"} {
		if i, e := w.tree(low, stack(n)...).Make(s, api.KFile); e != api.ErrStale || i != root {
			t.Errorf("Make(%q) = %v, %d", s, i, e)
		}
	}
	i, e := w.tree(low, stack(n)...).Make("../z", api.KFile)
	w.done(t, low, "Make", e, api.OK)
	if i == root {
		t.Error("Make = the root")
	}
	w.right(t)
}

// P13.2: a link, and the text it leads by: which block it has, noughts behind.
func TestSymlink(t *testing.T) {
	w := planted(t)
	g := w.open(t, low)
	for i, target := range []string{"a", "/", "/a/b", "..", ".", "@low", "a@high", "/z/z/z", strings.Repeat("a/", 30), "/" + strings.Repeat("ab/", 19) + "cd"} {
		s := "/a/l" + strconv.Itoa(i)
		before, _, _ := g.Usage()
		l := w.symlink(t, low, target, s)
		n := w.node(t, l)
		after, _, _ := g.Usage()
		var want api.Block
		copy(want[:], target)
		b, e := g.Get(n.Direct[0])
		if n != (api.Node{Kind: api.KLink, Links: 1, Gen: 1, Size: uint32(len(target)), Direct: [6]uint16{n.Direct[0]}}) || b != want || e != api.OK {
			t.Errorf("Symlink of %q = %v, of the block %q", target, n, b)
		}
		if after < before+1 || int(l.Lab) != low {
			t.Errorf("Symlink of %q = %v, %d blocks, then %d", target, l, before, after)
		}
		if got, e := w.view().Target(l); e != api.OK || got != target {
			t.Errorf("Target = %q, %d, wanted %q", got, e, target)
		}
		if x, e := w.tree(low).Stat(s, false); e != api.OK || x.Ino != l {
			t.Errorf("Stat of %q = %v, %d", s, x, e)
		}
	}
	left1 := w.symlink(t, left, "/a@low/b", "/m@low/to")
	w.list(t, w.ownOf(t, left, w.m), entry("to", left1))
	if x, e := w.tree(left).Stat("/m@low/to", true); e != api.OK || x.Ino != w.b {
		t.Errorf("Stat of what a link leads to = %v, %d", x, e)
	}
	w.right(t)
}

// P13.2: the text's length, then its parts, then the new place.
func TestSymlinkErrors(t *testing.T) {
	w := planted(t)
	for target, want := range map[string]api.Errno{
		strings.Repeat("a", 61): api.ErrLong, strings.Repeat("/", 61): api.ErrLong, strings.Repeat(" ", 61): api.ErrLong, strings.Repeat("a/", 1000): api.ErrLong,
		"": api.ErrInvalid, "a b": api.ErrInvalid, "a@": api.ErrInvalid, "@": api.ErrInvalid, "/a/\x00": api.ErrInvalid, "..@low": api.ErrInvalid, "abcdefghijklmno": api.ErrLong, strings.Repeat("a", 60): api.ErrLong,
	} {
		for _, s := range []string{"/z", "/a", "", "/z/z", "/z@high", "/f/z", "/"} {
			i, e := w.tree(low).Symlink(target, s)
			w.done(t, low, "Symlink "+s, e, want)
			if i != root {
				t.Errorf("Symlink(%q, %q) = %v", target, s, i)
			}
		}
	}
	w.right(t)
}

// P13.2, P6: without a block, or a node, there is none; what others have doesn't count.
func TestNewSpace(t *testing.T) {
	w := begun(t, scarce) // low has four blocks, left six nodes, three of which are free
	w.make(t, low, "/a", api.KFile)
	if e := file.Write(w.open(t, low), 4, 0, []byte{1}); e != api.OK {
		t.Fatalf("Write = %d", e)
	}
	w.commit(t)
	w.symlink(t, low, "/a", "/b")
	w.symlink(t, low, "/a", "/c")
	i, e := w.tree(low).Symlink("/a", "/d")
	w.done(t, low, "Symlink", e, api.ErrSpace)
	w.make(t, low, "/d", api.KDir)
	j, e := w.tree(low).Make("/e", api.KFile) // its directory needs a second block
	w.done(t, low, "Make", e, api.ErrSpace)
	k, e := w.tree(low).Make("/d/e", api.KFile)
	w.done(t, low, "Make", e, api.ErrSpace)
	if i != root || j != root || k != root {
		t.Errorf("beside no space: %v, %v, %v", i, j, k)
	}
	w.unlink(t, low, "/c", api.OK)
	w.make(t, low, "/d/e", api.KFile)
	w.make(t, left, "/a", api.KFile)
	w.make(t, left, "/b", api.KMulti)
	w.make(t, left, "/d", api.KFile)
	i, e = w.tree(left).Make("/c", api.KFile)
	w.done(t, left, "Make", e, api.ErrSpace)
	j, e = w.tree(left).Symlink("/c", "/c")
	w.done(t, left, "Symlink", e, api.ErrSpace)
	k, e = w.tree(left).Make("/b/c", api.KFile) // its own directory needs a node
	w.done(t, left, "Make", e, api.ErrSpace)
	if i != root || j != root || k != root {
		t.Errorf("beside no space: %v, %v, %v", i, j, k)
	}
	if i, e := w.tree(left).Make("/c", api.KLink); e != api.ErrRange || i != root { // told ahead of it
		t.Errorf("Make of a link = %v, %d", i, e)
	}
	w.unlink(t, left, "/a", api.OK)
	k, e = w.tree(left).Make("/b/c", api.KFile) // one for the directory, none for the file: nothing is left of both
	w.done(t, left, "Make", e, api.ErrSpace)
	w.none(t, left, api.Ino{Lab: left, Num: 5, Gen: 1})
	if k != root {
		t.Errorf("beside no space: %v", k)
	}
	w.make(t, high, "/a", api.KFile)
	w.right(t)
}

// P13.2: each answers the transaction's errors: its 31st block.
func TestNewMany(t *testing.T) {
	w := planted(t)
	g := w.open(t, high)
	for i := range 30 {
		g.Put(uint16(100+i), api.Block{1})
	}
	i, e := w.tree(low).Make("/z", api.KFile)
	j, e2 := w.tree(low).Symlink("/a", "/z")
	if e != api.ErrMany || e2 != api.ErrMany || i != root || j != root {
		t.Errorf("Make = %v, %d, Symlink = %v, %d", i, e, j, e2)
	}
	w.x.Drop()
	w.right(t)
}

// P13.2: errors of the table where an own directory is needed.
func TestNeedErrors(t *testing.T) {
	w := planted(t)
	w.lay(t, left, inst.Table, []byte{1})
	if i, e := w.tree(left).Make("/m@low/z", api.KFile); e != api.ErrForm || i != root {
		t.Errorf("Make = %v, %d", i, e)
	}
	w.x.Drop()
	i := w.make(t, left, "/z", api.KFile) // it isn't needed here
	w.list(t, w.own(left), entry("a", w.la), entry("z", i))
}
