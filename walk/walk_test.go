package walk_test

import (
	"slices"
	"strings"
	"testing"

	"garrison/api"
	"garrison/dir"
	"garrison/file"
	"garrison/walk"
)

// trees is a world with some names; what they are.
type trees struct {
	world
	a, b, sub, e, f, p, m api.Ino // of low: /a, /a/b, /a/d, /a/d/e, /f, /p, /m
	mlow, mhigh           api.Ino // own directories of m
	mine                  api.Ino // low's /m/x
	ha, hn, hi            api.Ino // of high: /a, /n (each label has its own of it), /m/i
	la                    api.Ino // left's /a, a file
}

// planted: those.
func planted(t *testing.T) trees {
	t.Helper()
	w := trees{world: begun(t)}
	w.a = w.add(t, w.own(low), "a", api.KDir)
	w.b = w.add(t, w.a, "b", api.KFile)
	w.sub = w.add(t, w.a, "d", api.KDir)
	w.e = w.add(t, w.sub, "e", api.KFile)
	w.f = w.add(t, w.own(low), "f", api.KFile)
	w.p = w.add(t, w.own(low), "p", api.KFifo)
	w.m = w.add(t, w.own(low), "m", api.KMulti)
	w.mlow, w.mhigh = w.need(t, low, w.m), w.need(t, high, w.m)
	w.mine = w.add(t, w.mlow, "x", api.KFile)
	w.ha = w.add(t, w.own(high), "a", api.KDir)
	w.hn = w.add(t, w.own(high), "n", api.KMulti)
	w.hi = w.add(t, w.mhigh, "i", api.KFile)
	w.la = w.add(t, w.own(left), "a", api.KFile)
	return w
}

// goal is a way, and what it comes to.
type goal struct {
	subject int
	from    []api.Ino
	s       string
	want    walk.Found
}

// check: followed or not, as there is no link at the end of these ways.
func (w world) check(t *testing.T, goals []goal) {
	t.Helper()
	for _, g := range goals {
		w.holds(t, g.subject, g.from, g.s, true, g.want)
		w.holds(t, g.subject, g.from, g.s, false, g.want)
	}
}

// place: a way's end without a last name.
func place(k api.Kind, l ...api.Ino) walk.Found {
	return walk.Found{Stack: l, Node: l[len(l)-1], Kind: k}
}

// P12.2: names, one behind the other; each way's directories are those that were gone through, not the own ones.
func TestNames(t *testing.T) {
	w := planted(t)
	r := w.own(low)
	w.check(t, []goal{
		{low, nil, "/a", walk.Found{Stack: stack(), Dir: r, Name: "a", Node: w.a, Kind: api.KDir}},
		{low, nil, "a", walk.Found{Stack: stack(), Dir: r, Name: "a", Node: w.a, Kind: api.KDir}},
		{low, []api.Ino{}, "a", walk.Found{Stack: stack(), Dir: r, Name: "a", Node: w.a, Kind: api.KDir}},
		{low, stack(), "a", walk.Found{Stack: stack(), Dir: r, Name: "a", Node: w.a, Kind: api.KDir}},
		{low, nil, "//a//", walk.Found{Stack: stack(), Dir: r, Name: "a", Node: w.a, Kind: api.KDir}},
		{low, nil, "/f", walk.Found{Stack: stack(), Dir: r, Name: "f", Node: w.f, Kind: api.KFile}},
		{low, nil, "/p", walk.Found{Stack: stack(), Dir: r, Name: "p", Node: w.p, Kind: api.KFifo}},
		{low, nil, "/m", walk.Found{Stack: stack(), Dir: r, Name: "m", Node: w.m, Kind: api.KMulti}},
		{low, nil, "/a/b", walk.Found{Stack: stack(w.a), Dir: w.a, Name: "b", Node: w.b, Kind: api.KFile}},
		{low, nil, "a/d/e", walk.Found{Stack: stack(w.a, w.sub), Dir: w.sub, Name: "e", Node: w.e, Kind: api.KFile}},
		{low, stack(w.a), "d/e", walk.Found{Stack: stack(w.a, w.sub), Dir: w.sub, Name: "e", Node: w.e, Kind: api.KFile}},
		{low, stack(w.a, w.sub), "e", walk.Found{Stack: stack(w.a, w.sub), Dir: w.sub, Name: "e", Node: w.e, Kind: api.KFile}},
		{low, stack(w.a, w.sub), "/f", walk.Found{Stack: stack(), Dir: r, Name: "f", Node: w.f, Kind: api.KFile}},
		{low, []api.Ino{w.sub}, "e", walk.Found{Stack: []api.Ino{w.sub}, Dir: w.sub, Name: "e", Node: w.e, Kind: api.KFile}}, // a way's beginning isn't asked
		{low, nil, "/m/x", walk.Found{Stack: stack(w.m), Dir: w.mlow, Name: "x", Node: w.mine, Kind: api.KFile}},
		{high, nil, "/a", walk.Found{Stack: stack(), Dir: w.own(high), Name: "a", Node: w.ha, Kind: api.KDir}},
		{left, nil, "/a", walk.Found{Stack: stack(), Dir: w.own(left), Name: "a", Node: w.la, Kind: api.KFile}},
		{high, stack(w.a), "b", walk.Found{Stack: stack(w.a), Dir: w.a, Name: "b", Node: w.b, Kind: api.KFile}},
		{high, stack(w.m), "i", walk.Found{Stack: stack(w.m), Dir: w.mhigh, Name: "i", Node: w.hi, Kind: api.KFile}},
	})
}

// P12.2: a last name that isn't there: its directory; of an own one that isn't there only its label.
func TestNotThere(t *testing.T) {
	w := planted(t)
	w.check(t, []goal{
		{low, nil, "/z", walk.Found{Stack: stack(), Dir: w.own(low), Name: "z"}},
		{high, nil, "f", walk.Found{Stack: stack(), Dir: w.own(high), Name: "f"}},
		{right, nil, "/a", walk.Found{Stack: stack(), Dir: w.own(right), Name: "a"}},
		{low, nil, "/a/z", walk.Found{Stack: stack(w.a), Dir: w.a, Name: "z"}},
		{high, stack(w.a), "./z", walk.Found{Stack: stack(w.a), Dir: w.a, Name: "z"}},
		{low, nil, "/m/i", walk.Found{Stack: stack(w.m), Dir: w.mlow, Name: "i"}},
		{left, stack(w.m), "x", walk.Found{Stack: stack(w.m), Dir: api.Ino{Lab: left}, Name: "x"}},
		{right, nil, "/m@low/x", walk.Found{Stack: stack(w.m), Dir: api.Ino{Lab: right}, Name: "x"}},
		{high, nil, "/m@low/x@left", walk.Found{Stack: stack(w.m), Dir: api.Ino{Lab: left}, Name: "x"}},
		{low, stack(w.hn), "x", walk.Found{Stack: stack(w.hn), Dir: api.Ino{}, Name: "x"}},
		{low, stack(w.hn), "x@low", walk.Found{Stack: stack(w.hn), Dir: api.Ino{}, Name: "x"}},
		{low, nil, "/abcdefghijklmn", walk.Found{Stack: stack(), Dir: w.own(low), Name: "abcdefghijklmn"}},
	})
	for _, s := range []string{"/z/a", "/z/.", "/z/..", "/z/@low", "z/z", "/a/z/b", "/a/A/e", "/a/d/../z/."} {
		w.fails(t, low, nil, s, api.ErrNone)
	}
	w.fails(t, left, stack(w.m), "x/y", api.ErrNone)
	w.fails(t, high, nil, "/m@low/x@left/y", api.ErrNone)
	w.fails(t, high, nil, "/d/e", api.ErrNone)
}

// P12.2: which label's directory is wanted.
func TestWanted(t *testing.T) {
	w := planted(t)
	w.check(t, []goal{
		{high, nil, "/a@low/b", walk.Found{Stack: stack(w.a), Dir: w.a, Name: "b", Node: w.b, Kind: api.KFile}},
		{high, nil, "a@low", walk.Found{Stack: stack(), Dir: w.own(low), Name: "a", Node: w.a, Kind: api.KDir}},
		{high, nil, "a@left", walk.Found{Stack: stack(), Dir: w.own(left), Name: "a", Node: w.la, Kind: api.KFile}},
		{high, nil, "a@right", walk.Found{Stack: stack(), Dir: w.own(right), Name: "a"}},
		{high, nil, "a@high", walk.Found{Stack: stack(), Dir: w.own(high), Name: "a", Node: w.ha, Kind: api.KDir}},
		{low, nil, "/a@low/d@low/e@low", walk.Found{Stack: stack(w.a, w.sub), Dir: w.sub, Name: "e", Node: w.e, Kind: api.KFile}},
		{high, nil, "/m@low/i", walk.Found{Stack: stack(w.m), Dir: w.mhigh, Name: "i", Node: w.hi, Kind: api.KFile}},
		{high, nil, "/m@low/x@low", walk.Found{Stack: stack(w.m), Dir: w.mlow, Name: "x", Node: w.mine, Kind: api.KFile}},
		{left, nil, "/m@low/x@low", walk.Found{Stack: stack(w.m), Dir: w.mlow, Name: "x", Node: w.mine, Kind: api.KFile}},
		{high, nil, "/m@low/i@high", walk.Found{Stack: stack(w.m), Dir: w.mhigh, Name: "i", Node: w.hi, Kind: api.KFile}},
	})
}

// P12.2: a part without a name goes into the own directory, and it stands on the way.
func TestWithoutName(t *testing.T) {
	w := planted(t)
	r, h := w.own(low), w.own(high)
	w.check(t, []goal{
		{low, nil, "@low", place(api.KDir, root, r)},
		{high, nil, "/@low", place(api.KDir, root, r)},
		{high, nil, "/@high", place(api.KDir, root, h)},
		{high, nil, "/@low/a/b", walk.Found{Stack: stack(r, w.a), Dir: w.a, Name: "b", Node: w.b, Kind: api.KFile}},
		{high, nil, "/@low/a@low", walk.Found{Stack: stack(r), Dir: r, Name: "a", Node: w.a, Kind: api.KDir}},
		{high, nil, "/@low/z", walk.Found{Stack: stack(r), Dir: r, Name: "z"}},
		{high, nil, "/@low/..", place(api.KMulti, root)},
		{high, nil, "/@low/../@high", place(api.KDir, root, h)},
		{high, nil, "/m@low/@low", place(api.KDir, root, w.m, w.mlow)},
		{high, nil, "/m@low/@low/x", walk.Found{Stack: stack(w.m, w.mlow), Dir: w.mlow, Name: "x", Node: w.mine, Kind: api.KFile}},
		{high, stack(w.m), "@high", place(api.KDir, root, w.m, w.mhigh)},
		{high, stack(w.m), "@high/../@low", place(api.KDir, root, w.m, w.mlow)},
		{low, stack(w.a), "@low", place(api.KDir, root, w.a, w.a)}, // of a KDir: itself
		{high, stack(w.a), "@low/@low/d", walk.Found{Stack: stack(w.a, w.a, w.a), Dir: w.a, Name: "d", Node: w.sub, Kind: api.KDir}},
		{low, stack(w.a), "@low/..", place(api.KDir, root, w.a)},
	})
	w.fails(t, left, stack(w.m), "@left", api.ErrNone)
	w.fails(t, high, nil, "/m@low/@left", api.ErrNone)
	w.fails(t, high, nil, "/m@low/@right/x", api.ErrNone)
}

// P12.2: errors of a label that is wanted, in their order: of that name, of another label, at or below, a directory.
func TestWantedErrors(t *testing.T) {
	w := planted(t)
	for _, name := range []string{"", "a", "z"} {
		for _, subject := range []int{low, left, right, high} {
			w.fails(t, subject, nil, "/"+name+"@none", api.ErrNone)
			w.fails(t, subject, stack(w.a), name+"@none", api.ErrNone)
			w.fails(t, subject, stack(w.f), name+"@none", api.ErrNone)
			w.fails(t, subject, stack(w.m), name+"@none", api.ErrNone)
			for _, other := range []string{"left", "right", "high"} { // away, also where it isn't at or below
				w.fails(t, subject, stack(w.a), name+"@"+other, api.ErrAway)
				w.fails(t, subject, nil, "/@low/"+name+"@"+other, api.ErrAway)
			}
		}
		w.fails(t, high, stack(w.ha), name+"@low", api.ErrAway)
		for _, x := range []struct {
			subject int
			at      string
		}{{low, "left"}, {low, "right"}, {low, "high"}, {left, "right"}, {left, "high"}, {right, "left"}, {right, "high"}} {
			w.fails(t, x.subject, nil, "/"+name+"@"+x.at, api.ErrPerm)
			w.fails(t, x.subject, stack(w.m), name+"@"+x.at, api.ErrPerm)
			w.fails(t, x.subject, stack(w.f), name+"@"+x.at, api.ErrPerm)
		}
		for _, at := range []string{"low", "left", "high"} {
			w.fails(t, high, stack(w.f), name+"@"+at, api.ErrNotDir)
			w.fails(t, high, stack(w.p), name+"@"+at, api.ErrNotDir)
		}
		w.fails(t, low, stack(w.ha), name+"@high", api.ErrPerm)
	}
	w.fails(t, low, nil, "/@high", api.ErrPerm)
	w.fails(t, low, nil, "/m/i@high", api.ErrPerm)
	w.fails(t, left, nil, "/a@low/b@left", api.ErrAway)
}

// P12.2: . and ..: from the first directory nothing is left.
func TestDots(t *testing.T) {
	w := planted(t)
	w.check(t, []goal{
		{low, nil, "/", place(api.KMulti, root)},
		{low, nil, ".", place(api.KMulti, root)},
		{low, nil, "..", place(api.KMulti, root)},
		{low, nil, "/../..", place(api.KMulti, root)},
		{low, stack(w.a, w.sub), "/", place(api.KMulti, root)},
		{low, stack(w.a, w.sub), ".", place(api.KDir, root, w.a, w.sub)},
		{low, stack(w.a, w.sub), "./.", place(api.KDir, root, w.a, w.sub)},
		{low, stack(w.a, w.sub), "..", place(api.KDir, root, w.a)},
		{low, stack(w.a, w.sub), "../..", place(api.KMulti, root)},
		{low, stack(w.a, w.sub), "../../..", place(api.KMulti, root)},
		{low, stack(w.a, w.sub), "../b", walk.Found{Stack: stack(w.a), Dir: w.a, Name: "b", Node: w.b, Kind: api.KFile}},
		{low, stack(w.a, w.sub), "../../f", walk.Found{Stack: stack(), Dir: w.own(low), Name: "f", Node: w.f, Kind: api.KFile}},
		{low, []api.Ino{w.sub}, "..", place(api.KDir, w.sub)},
		{low, []api.Ino{w.sub, w.a}, "..", place(api.KDir, w.sub)}, // the list alone says where
		{low, nil, "/a/d/..", place(api.KDir, root, w.a)},
		{low, nil, "/a/./d/../d/e", walk.Found{Stack: stack(w.a, w.sub), Dir: w.sub, Name: "e", Node: w.e, Kind: api.KFile}},
		{high, nil, "/m@low/.", place(api.KMulti, root, w.m)},
		{high, nil, "/m@low/..", place(api.KMulti, root)},
		{low, stack(w.m, w.f), "..", place(api.KMulti, root, w.m)}, // what is left isn't asked
		{low, stack(w.m, api.Ino{Lab: low, Num: 60, Gen: 9}), "..", place(api.KMulti, root, w.m)},
	})
	for _, at := range []api.Ino{w.f, w.p} {
		w.fails(t, low, stack(at), ".", api.ErrNotDir)
		w.fails(t, low, stack(at, w.a), "..", api.ErrNotDir)
		w.fails(t, low, []api.Ino{at}, "..", api.ErrNotDir)
		w.fails(t, low, stack(at), "a", api.ErrNotDir)
		w.fails(t, low, stack(at), "a/b", api.ErrNotDir)
		w.fails(t, low, stack(at), "./../a", api.ErrNotDir)
	}
}

// P12.2: what is no directory isn't gone through.
func TestNotDir(t *testing.T) {
	w := planted(t)
	for _, s := range []string{"/f/a", "/f/.", "/f/..", "/f/@low", "/f/f", "/p/x", "/a/b/c", "/a/b/..", "/a@low/d/e/."} {
		w.fails(t, low, nil, s, api.ErrNotDir)
	}
	w.fails(t, high, nil, "/f@low/a", api.ErrNotDir)
	w.fails(t, left, nil, "/a/b", api.ErrNotDir)
	w.fails(t, high, nil, "/f@low/a@none", api.ErrNotDir) // it isn't gone into
}

// P12.2: chapter 11's errors, ahead of all that is on the way.
func TestParse(t *testing.T) {
	w := planted(t)
	gone := stack(api.Ino{Lab: 9, Num: 9, Gen: 9})
	for s, want := range map[string]api.Errno{
		"": api.ErrInvalid, "a b": api.ErrInvalid, "/f/f/a\x00": api.ErrInvalid, "a@LOW": api.ErrInvalid, "..@low": api.ErrInvalid, "a@": api.ErrInvalid, "@": api.ErrInvalid, "a@low@low": api.ErrInvalid, "@abcdefghi": api.ErrInvalid, "ä": api.ErrInvalid,
		"abcdefghijklmno": api.ErrLong, "/f/" + strings.Repeat("a", 118): api.ErrLong, strings.Repeat("/", 121): api.ErrLong, strings.Repeat("a b/", 31): api.ErrLong,
	} {
		for _, from := range [][]api.Ino{nil, stack(w.a), gone} {
			w.fails(t, low, from, s, want)
			w.fails(t, 99, from, s, want)
		}
	}
	w.check(t, []goal{
		{low, gone, strings.Repeat("/", 120), place(api.KMulti, root)},
		{low, nil, strings.Repeat("../", 39) + "a/.", place(api.KDir, root, w.a)},
	})
}

// P12.2: a place that isn't there any more, or never was; what is ahead of it on the way isn't asked.
func TestPlaces(t *testing.T) {
	w := planted(t)
	z := w.add(t, w.a, "z", api.KDir)
	if e := dir.Drop(w.open(t, low), int(w.a.Num), "z"); e != api.OK {
		t.Fatalf("Drop = %d", e)
	}
	w.end(t, z)
	for _, s := range []string{".", "a", "a@low", "@low", "a@none", "@high", "a/b", "./..", "a@high"} {
		w.fails(t, low, stack(z), s, api.ErrStale)
		w.fails(t, low, []api.Ino{z}, s, api.ErrStale)
		w.fails(t, low, stack(api.Ino{Lab: low, Num: w.a.Num, Gen: w.a.Gen + 1}), s, api.ErrStale)
		w.fails(t, low, stack(api.Ino{Lab: low, Num: 61}), s, api.ErrRange)
		w.fails(t, low, stack(api.Ino{Lab: low, Gen: 1}), s, api.ErrRange)
		w.fails(t, low, stack(api.Ino{Lab: 200, Num: 1, Gen: 1}), s, api.ErrRange)
	}
	w.fails(t, low, stack(z, w.a), "..", api.ErrStale)
	w.fails(t, low, stack(z, w.a), "../../a", api.ErrStale) // place by place
	w.check(t, []goal{
		{low, stack(z, w.a), "d", walk.Found{Stack: stack(z, w.a), Dir: w.a, Name: "d", Node: w.sub, Kind: api.KDir}},
		{low, stack(z), "..", place(api.KMulti, root)},
		{low, stack(z), "/a/d/.", place(api.KDir, root, w.a, w.sub)},
	})
}

// P12.2: a subject that is no label has no directory of its own, and none is at or below it.
func TestSubjects(t *testing.T) {
	w := planted(t)
	for _, subject := range oddLabels() {
		for _, s := range []string{"a", "/a/b", "./../f"} {
			w.fails(t, subject, nil, s, api.ErrRange)
		}
		for _, s := range []string{"/@low", "/a@low", "/a@high/b", "./@left"} {
			w.fails(t, subject, nil, s, api.ErrPerm)
		}
		w.fails(t, subject, stack(w.m), "x", api.ErrRange)
		w.fails(t, subject, nil, "a@none", api.ErrNone)
		w.fails(t, subject, stack(w.a), "b@low", api.ErrPerm)
		w.check(t, []goal{{subject, nil, "/", place(api.KMulti, root)}, {subject, stack(w.a), "..", place(api.KMulti, root)}})
	}
}

// P12.2: entries whose nodes aren't there: Node's error of what it is.
func TestWrongEntries(t *testing.T) {
	w := planted(t)
	w.enter(t, w.a, "free", api.Ino{Num: 60})
	w.enter(t, w.a, "gone", w.mlow)
	w.enter(t, w.a, "far", api.Ino{Num: 61})
	w.enter(t, w.a, "last", api.Ino{Num: 65535})
	bad := w.add(t, w.a, "bad", api.KFile)
	w.set(t, bad, api.Node{Kind: api.KFile, Gen: 1})
	w.end(t, w.mlow)
	for name, want := range map[string]api.Errno{"free": api.ErrStale, "gone": api.ErrStale, "far": api.ErrRange, "last": api.ErrRange, "bad": api.ErrForm} {
		for _, behind := range []string{"", "/x", "/.", "/@low"} {
			w.fails(t, low, nil, "/a/"+name+behind, want)
			w.fails(t, high, stack(w.a), name+behind, want)
		}
	}
	w.fails(t, low, nil, "/m/x", api.ErrNone) // its own directory's node is free
}

// P12.2: directories and tables that aren't right; those of others don't matter.
func TestWrongDirectories(t *testing.T) {
	w := planted(t)
	z := w.add(t, w.own(low), "z", api.KDir)
	if e := file.Write(w.open(t, low), int(z.Num), 0, make([]byte, 16)); e != api.OK {
		t.Fatalf("Write = %d", e)
	}
	if e := file.Write(w.open(t, low), int(z.Num), 0, []byte{1, 0, '/'}); e != api.OK {
		t.Fatalf("Write = %d", e)
	}
	w.commit(t)
	w.fails(t, low, nil, "/z/a", api.ErrForm)
	w.fails(t, high, stack(z), "a/b", api.ErrForm)
	w.lay(t, low, 2, []byte{1, 2})
	w.fails(t, low, nil, "/m/x", api.ErrForm)
	w.fails(t, high, nil, "/m@low/@low", api.ErrForm)
	w.check(t, []goal{
		{low, nil, "/z/.", place(api.KDir, root, z)},
		{high, nil, "/m@low/i", walk.Found{Stack: stack(w.m), Dir: w.mhigh, Name: "i", Node: w.hi, Kind: api.KFile}},
		{low, nil, "/a/b", walk.Found{Stack: stack(w.a), Dir: w.a, Name: "b", Node: w.b, Kind: api.KFile}},
	})
	n, _ := w.view().Node(w.own(left))
	n.Direct[0] = 999
	w.set(t, w.own(left), n)
	w.fails(t, left, nil, "/a", api.ErrRange)
	w.set(t, w.own(left), api.Node{Kind: api.KFile, Links: 1, Gen: 1})
	w.fails(t, left, nil, "/a", api.ErrNotDir) // dir's error
	w.fails(t, left, nil, "/a/b", api.ErrNotDir)
	w.fails(t, left, nil, "/@left/a", api.ErrNotDir)
}

// P12.2: a full directory, whose bytes stand in many blocks.
func TestFullDirectory(t *testing.T) {
	w := begun(t)
	d := w.add(t, w.own(high), "d", api.KDir)
	var all []api.Ino
	for i := range 50 {
		all = append(all, w.add(t, d, "n"+strings.Repeat("x", i%13)+string(rune('a'+i/13)), api.Kind(1+i%3)))
	}
	for i, of := range all {
		name := "n" + strings.Repeat("x", i%13) + string(rune('a'+i/13))
		if len(name) > 14 {
			t.Fatal("no name")
		}
		w.check(t, []goal{{high, nil, "/d/" + name, walk.Found{Stack: stack(d), Dir: d, Name: name, Node: of, Kind: api.Kind(1 + i%3)}}})
	}
	names, _ := dir.List(w.open(t, high), int(d.Num))
	if !slices.ContainsFunc(names, func(x api.Entry) bool { return x.Name == "nxxxxxxxxxxxxa" }) {
		t.Error("no long name")
	}
}
