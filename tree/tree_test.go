package tree_test

import (
	"slices"
	"strconv"
	"strings"
	"testing"

	"garrison/api"
	"garrison/file"
	"garrison/inst"
	"garrison/tree"
)

// trees is a world with some names; what they are.
type trees struct {
	world
	a, b, sub, e, f, p, m, l, dead api.Ino // of low: /a, /a/b, /a/d, /a/d/e, /f, /p, /m, /l (to a/b), /dead (to nothing)
	mlow, mhigh                    api.Ino // own directories of m
	mine                           api.Ino // low's /m/x
	ha, hn, hi                     api.Ino // of high: /a, /n (each label has its own of it), /m/i
	la                             api.Ino // left's /a, a file
}

// planted: those.
func planted(t *testing.T) trees {
	t.Helper()
	w := trees{world: begun(t, four)}
	w.a = w.make(t, low, "/a", api.KDir)
	w.b = w.make(t, low, "/a/b", api.KFile)
	w.sub = w.make(t, low, "/a/d", api.KDir)
	w.e = w.make(t, low, "/a/d/e", api.KFile)
	w.f = w.make(t, low, "/f", api.KFile)
	w.p = w.make(t, low, "/p", api.KFifo)
	w.m = w.make(t, low, "/m", api.KMulti)
	w.l = w.symlink(t, low, "a/b", "/l")
	w.dead = w.symlink(t, low, "/z", "/dead")
	w.mine = w.make(t, low, "/m/x", api.KFile)
	w.ha = w.make(t, high, "/a", api.KDir)
	w.hn = w.make(t, high, "/n", api.KMulti)
	w.hi = w.make(t, high, "/m@low/i", api.KFile)
	w.la = w.make(t, left, "/a", api.KFile)
	w.mlow, w.mhigh = w.ownOf(t, low, w.m), w.ownOf(t, high, w.m)
	w.right(t)
	return w
}

// P13.1: what a path's end is: which one, its kind, links, length.
func TestStat(t *testing.T) {
	w := planted(t)
	w.link(t, low, "/f", "/a/f", api.OK)
	if e := file.Write(w.open(t, low), int(w.f.Num), 0, make([]byte, 70)); e != api.OK {
		t.Fatalf("Write = %d", e)
	}
	w.commit(t)
	b := api.Stat{Ino: w.b, Kind: api.KFile, Links: 1}
	for _, x := range []struct {
		subject int
		from    []api.Ino
		s       string
		want    api.Stat
	}{
		{low, nil, "/", api.Stat{Kind: api.KMulti, Links: 1}},
		{low, stack(w.a), "..", api.Stat{Kind: api.KMulti, Links: 1}},
		{low, nil, "/a", api.Stat{Ino: w.a, Kind: api.KDir, Links: 1, Size: 3 * 16}},
		{low, stack(w.a), ".", api.Stat{Ino: w.a, Kind: api.KDir, Links: 1, Size: 3 * 16}},
		{low, nil, "a/b", b},
		{low, stack(w.a), "b", b},
		{left, nil, "/a@low/b", b},
		{low, nil, "/f", api.Stat{Ino: w.f, Kind: api.KFile, Links: 2, Size: 70}},
		{high, nil, "/a@low/f", api.Stat{Ino: w.f, Kind: api.KFile, Links: 2, Size: 70}},
		{low, nil, "/p", api.Stat{Ino: w.p, Kind: api.KFifo, Links: 1}},
		{low, nil, "/m", api.Stat{Ino: w.m, Kind: api.KMulti, Links: 1}},
		{low, nil, "/m/@low", api.Stat{Ino: w.mlow, Kind: api.KDir, Links: 1, Size: 16}},
		{high, nil, "/m@low/x@low", api.Stat{Ino: w.mine, Kind: api.KFile, Links: 1}},
		{high, nil, "/m@low/i", api.Stat{Ino: w.hi, Kind: api.KFile, Links: 1}},
		{high, nil, "/a", api.Stat{Ino: w.ha, Kind: api.KDir, Links: 1}},
		{left, nil, "/a", api.Stat{Ino: w.la, Kind: api.KFile, Links: 1}},
		{high, nil, "/@low", api.Stat{Ino: w.own(low), Kind: api.KDir, Links: 1, Size: 6 * 16}},
	} {
		for _, follow := range []bool{false, true} {
			if s, e := w.tree(x.subject, x.from...).Stat(x.s, follow); e != api.OK || s != x.want {
				t.Errorf("Stat of %q for %d from %v = %v, %d, wanted %v", x.s, x.subject, x.from, s, e, x.want)
			}
		}
	}
	if s, e := w.tree(low).Stat("/l", true); e != api.OK || s != b {
		t.Errorf("Stat of what a link leads to = %v, %d", s, e)
	}
	if s, e := w.tree(low).Stat("/l", false); e != api.OK || s != (api.Stat{Ino: w.l, Kind: api.KLink, Links: 1, Size: 3}) {
		t.Errorf("Stat of a link = %v, %d", s, e)
	}
	if w.x.Len() > 0 {
		t.Error("Stat put something")
	}
}

// P13.1: a way's errors; what isn't there, also where a link leads to.
func TestStatErrors(t *testing.T) {
	w := planted(t)
	for s, want := range map[string]api.Errno{
		"/z": api.ErrNone, "z": api.ErrNone, "/a/z": api.ErrNone, "/z/z": api.ErrNone, "/a/b/z": api.ErrNotDir, "/f/.": api.ErrNotDir, "": api.ErrInvalid, "/a@": api.ErrInvalid,
		"/abcdefghijklmno": api.ErrLong, "/" + strings.Repeat("a/", 60): api.ErrLong, "/a@high": api.ErrPerm, "/@left": api.ErrPerm, "/a@none": api.ErrNone, "/a/b@left": api.ErrAway, "/dead/z": api.ErrNone,
	} {
		for _, follow := range []bool{false, true} {
			if x, e := w.tree(low).Stat(s, follow); e != want || x != (api.Stat{}) {
				t.Errorf("Stat of %q = %v, %d, wanted %d", s, x, e, want)
			}
		}
	}
	if x, e := w.tree(low).Stat("/dead", true); e != api.ErrNone || x != (api.Stat{}) {
		t.Errorf("Stat of where a link leads to nothing = %v, %d", x, e)
	}
	if x, e := w.tree(low).Stat("/dead", false); e != api.OK || x.Ino != w.dead {
		t.Errorf("Stat of a link to nothing = %v, %d", x, e)
	}
	if x, e := w.tree(low, stack(w.m)...).Stat("z", true); e != api.ErrNone || x != (api.Stat{}) {
		t.Errorf("Stat of z in its own directory = %v, %d", x, e)
	}
	if x, e := w.tree(left, stack(w.m)...).Stat("x", true); e != api.ErrNone || x != (api.Stat{}) {
		t.Errorf("Stat in an own directory that isn't there = %v, %d", x, e)
	}
	for _, subject := range []int{-1, 4, 255, 256, 1 << 40} {
		if x, e := w.tree(subject).Stat("/a", true); e != api.ErrRange || x != (api.Stat{}) {
			t.Errorf("Stat for %d = %v, %d", subject, x, e)
		}
	}
}

// P13.1: any node, of any label; what isn't there any more, or never was.
func TestOf(t *testing.T) {
	w := planted(t)
	for i, want := range map[api.Ino]api.Stat{
		root:                                 {Kind: api.KMulti, Links: 1},
		w.a:                                  {Ino: w.a, Kind: api.KDir, Links: 1, Size: 2 * 16},
		w.b:                                  {Ino: w.b, Kind: api.KFile, Links: 1},
		w.l:                                  {Ino: w.l, Kind: api.KLink, Links: 1, Size: 3},
		w.hi:                                 {Ino: w.hi, Kind: api.KFile, Links: 1},
		w.own(left):                          {Ino: w.own(left), Kind: api.KDir, Links: 1, Size: 16},
		{Lab: high, Num: inst.Table, Gen: 1}: {Ino: api.Ino{Lab: high, Num: inst.Table, Gen: 1}, Kind: api.KFile, Links: 1, Size: 8},
	} {
		for subject := range labels {
			if s, e := w.tree(subject).Of(i); e != api.OK || s != want {
				t.Errorf("Of(%v) = %v, %d, wanted %v", i, s, e, want)
			}
		}
	}
	for i, want := range map[api.Ino]api.Errno{
		{Lab: low, Num: w.a.Num, Gen: 2}: api.ErrStale, {Lab: low, Num: 60}: api.ErrStale, {Lab: low, Num: 61}: api.ErrRange, {Lab: low, Gen: 1}: api.ErrRange, {Lab: 4, Num: 1, Gen: 1}: api.ErrRange, {Lab: 255, Num: 65535}: api.ErrRange,
	} {
		if s, e := w.tree(low).Of(i); e != want || s != (api.Stat{}) {
			t.Errorf("Of(%v) = %v, %d, wanted %d", i, s, e, want)
		}
	}
	w.unlink(t, low, "/f", api.OK)
	if s, e := w.tree(low).Of(w.f); e != api.ErrStale || s != (api.Stat{}) {
		t.Errorf("Of what isn't there any more = %v, %d", s, e)
	}
	again := w.make(t, low, "/f", api.KFile)
	if _, e := w.tree(low).Of(w.f); e != api.ErrStale || again.Num != w.f.Num {
		t.Errorf("Of what was ahead of another one = %d", e)
	}
}

// P13.1: a directory's entries in their order; where each label has its own the subject's, and none if it has none yet.
func TestList(t *testing.T) {
	w := planted(t)
	lows := []api.Entry{entry("a", w.a), entry("f", w.f), entry("p", w.p), entry("m", w.m), entry("l", w.l), entry("dead", w.dead)}
	as := []api.Entry{entry("b", w.b), entry("d", w.sub)}
	w.symlink(t, low, "/a", "/a/d/up")
	w.symlink(t, high, "/a@low", "/a/to")
	for _, x := range []struct {
		subject int
		from    []api.Ino
		s       string
		want    []api.Entry
	}{
		{low, nil, "/", lows},
		{low, nil, ".", lows},
		{low, stack(w.a), "..", lows},
		{high, nil, "/@low", lows},
		{low, nil, "/a", as},
		{low, stack(w.a), ".", as},
		{low, stack(w.a), "d/..", as},
		{low, nil, "/a/d/up", as}, // a link is followed
		{high, nil, "/a/to", as},
		{left, nil, "/a@low", as},
		{low, nil, "/m", []api.Entry{entry("x", w.mine)}},
		{low, stack(w.m), ".", []api.Entry{entry("x", w.mine)}},
		{high, nil, "/m@low", []api.Entry{entry("i", w.hi)}},
		{high, nil, "/m@low/@low", []api.Entry{entry("x", w.mine)}},
		{left, nil, "/m@low", nil},
		{right, nil, "/m@low", nil},
		{right, nil, "/", nil},
		{high, nil, "/n", nil},
		{left, nil, "/", []api.Entry{entry("a", w.la)}},
	} {
		if l, e := w.tree(x.subject, x.from...).List(x.s); e != api.OK || !slices.Equal(l, x.want) {
			t.Errorf("List of %q for %d from %v = %v, %d, wanted %v", x.s, x.subject, x.from, l, e, x.want)
		}
	}
	if w.x.Len() > 0 {
		t.Error("List put something")
	}
	w.none(t, left, w.m)
}

// P13.1: walk's Dir's errors, and dir's.
func TestListErrors(t *testing.T) {
	w := planted(t)
	w.symlink(t, low, "self", "/self")
	w.symlink(t, low, "f", "/tof")
	for s, want := range map[string]api.Errno{
		"/z": api.ErrNone, "/a/z": api.ErrNone, "/f": api.ErrNotDir, "/p": api.ErrNotDir, "/l": api.ErrNotDir, "/tof": api.ErrNotDir, "/dead": api.ErrNone, "/self": api.ErrLoop,
		"": api.ErrInvalid, "/@high": api.ErrPerm, "/m@left": api.ErrPerm, "/a/@left": api.ErrAway, "@none": api.ErrNone, "/abcdefghijklmno": api.ErrLong,
	} {
		if l, e := w.tree(low).List(s); e != want || len(l) > 0 {
			t.Errorf("List of %q = %v, %d, wanted %d", s, l, e, want)
		}
	}
	if l, e := w.tree(left).List("/m@low/@left"); e != api.ErrNone || len(l) > 0 {
		t.Errorf("List of an own directory that isn't there = %v, %d", l, e)
	}
	w.lay(t, low, int(w.sub.Num), append([]byte{1}, make([]byte, 15)...)) // a number without a name
	if l, e := w.tree(low).List("/a/d"); e != api.ErrForm || len(l) > 0 {
		t.Errorf("List of a directory that isn't right = %v, %d", l, e)
	}
	w.lay(t, high, inst.Table, []byte{1, 2, 3, 4, 5, 6, 7})
	if l, e := w.tree(high).List("/m@low"); e != api.ErrForm || len(l) > 0 {
		t.Errorf("List with a table that isn't right = %v, %d", l, e)
	}
}

// P2, R7: a nil tree, one without a view, and one whose view lacks something.
func TestNil(t *testing.T) {
	w := planted(t)
	half, other := w.tree(low), w.tree(low)
	half.T, other.C = nil, nil
	for i, tr := range []*tree.Tree{nil, {}, {Subject: high, Cwd: stack(w.a)}, half, other} {
		for _, s := range []string{"/", ".", "/a", "/a/b", "/z", "a", "/m"} {
			var errs []api.Errno
			st, e := tr.Stat(s, true)
			l, e2 := tr.List(s)
			made, e3 := tr.Make(s, api.KFile)
			linked, e4 := tr.Symlink("/a", s)
			errs = append(errs, e, e2, e3, e4, tr.Link("/a/b", s), tr.Unlink(s), tr.Rmdir(s), tr.Rename("/f", s))
			_, e = tr.Of(w.a)
			errs = append(errs, e)
			if slices.ContainsFunc(errs, func(e api.Errno) bool { return e != api.ErrNil }) || st != (api.Stat{}) || len(l) > 0 || made != root || linked != root {
				t.Errorf("tree %d, %q: %v; %v, %v, %v, %v", i, s, errs, st, l, made, linked)
			}
		}
	}
	var none *tree.Tree
	if _, e := none.Of(root); e != api.ErrNil { // whatever it is asked
		t.Errorf("Of the root = %d", e)
	}
	if _, e := none.Symlink(strings.Repeat("a", 61), "/z"); e != api.ErrNil {
		t.Errorf("Symlink = %d", e)
	}
	if _, e := none.Symlink("", "/z"); e != api.ErrNil {
		t.Errorf("Symlink = %d", e)
	}
}

// P1: labels that nobody has, and such as are one modulo 256.
func TestNoSubject(t *testing.T) {
	w := planted(t)
	for _, subject := range []int{-1, 4, 255, 256, 257, -256, 1 << 32, -1 << 63} {
		tr := w.tree(subject, stack(w.a)...)
		errs := []api.Errno{tr.Link("b", "z"), tr.Unlink("b"), tr.Rmdir("d"), tr.Rename("b", "z")}
		_, e := tr.Make("z", api.KFile)
		_, e2 := tr.Symlink("/a", "z")
		if !slices.Equal(append(errs, e, e2), slices.Repeat([]api.Errno{api.ErrPerm}, 6)) {
			t.Errorf("of %d: %v, %d, %d", subject, errs, e, e2)
		}
		tr.Cwd = nil
		errs = []api.Errno{tr.Link("/f", "/z"), tr.Unlink("/f"), tr.Rmdir("/a"), tr.Rename("/f", "/z")}
		_, e = tr.Make("/z", api.KFile)
		if !slices.Equal(append(errs, e), slices.Repeat([]api.Errno{api.ErrRange}, 5)) || w.x.Len() > 0 {
			t.Errorf("of %s: %v, %d", strconv.Itoa(subject), errs, e)
		}
	}
}
