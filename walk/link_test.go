package walk_test

import (
	"strconv"
	"strings"
	"testing"

	"garrison/api"
	"garrison/walk"
)

// follows: does a way, that ends at a link, come to that where it is followed, and to the link where it isn't?
func (w world) follows(t *testing.T, g goal, link walk.Found) {
	t.Helper()
	w.holds(t, g.subject, g.from, g.s, true, g.want)
	w.holds(t, g.subject, g.from, g.s, false, link)
}

// P12.2: a link at the end, followed or not.
func TestLinkAtTheEnd(t *testing.T) {
	w := planted(t)
	r := w.own(low)
	for target, want := range map[string]walk.Found{
		"b":        {Stack: stack(w.a), Dir: w.a, Name: "b", Node: w.b, Kind: api.KFile}, // from the place where the link is
		"./d":      {Stack: stack(w.a), Dir: w.a, Name: "d", Node: w.sub, Kind: api.KDir},
		"d/e":      {Stack: stack(w.a, w.sub), Dir: w.sub, Name: "e", Node: w.e, Kind: api.KFile},
		"../f":     {Stack: stack(), Dir: r, Name: "f", Node: w.f, Kind: api.KFile},
		"/f":       {Stack: stack(), Dir: r, Name: "f", Node: w.f, Kind: api.KFile},
		"/m/x":     {Stack: stack(w.m), Dir: w.mlow, Name: "x", Node: w.mine, Kind: api.KFile},
		"z":        {Stack: stack(w.a), Dir: w.a, Name: "z"},
		"/z":       {Stack: stack(), Dir: r, Name: "z"},
		".":        place(api.KDir, root, w.a),
		"..":       place(api.KMulti, root),
		"/":        place(api.KMulti, root), // no part is left
		"////":     place(api.KMulti, root),
		"d/.":      place(api.KDir, root, w.a, w.sub),
		"@low":     place(api.KDir, root, w.a, w.a),
		"/@low":    place(api.KDir, root, r),
		"/a@low/b": {Stack: stack(w.a), Dir: w.a, Name: "b", Node: w.b, Kind: api.KFile},
	} {
		name := "l" + strconv.Itoa(len(w.things))
		l := w.link(t, w.a, name, target)
		link := walk.Found{Stack: stack(w.a), Dir: w.a, Name: name, Node: l, Kind: api.KLink}
		for _, s := range []string{"/a/" + name, "a/" + name + "/", "/a@low/" + name + "@low"} {
			w.follows(t, goal{low, nil, s, want}, link)
		}
		w.follows(t, goal{low, stack(w.a), name, want}, link)
	}
}

// P12.2: whoever goes by a link goes by it as himself.
func TestLinkOfAnother(t *testing.T) {
	w := planted(t)
	r, h := w.own(low), w.own(high)
	for target, want := range map[string]walk.Found{
		"a":      {Stack: stack(), Dir: h, Name: "a", Node: w.ha, Kind: api.KDir}, // from the root on, which the link was looked for in
		"/a":     {Stack: stack(), Dir: h, Name: "a", Node: w.ha, Kind: api.KDir},
		"a@low":  {Stack: stack(), Dir: r, Name: "a", Node: w.a, Kind: api.KDir},
		"a@left": {Stack: stack(), Dir: w.own(left), Name: "a", Node: w.la, Kind: api.KFile},
		"m@low":  {Stack: stack(), Dir: r, Name: "m", Node: w.m, Kind: api.KMulti},
		"@high":  place(api.KDir, root, h),
		"n/x":    {Stack: stack(w.hn), Dir: api.Ino{Lab: high}, Name: "x"},
	} {
		l := w.link(t, r, "l"+strconv.Itoa(len(w.things)), target)
		name := "/l" + strconv.Itoa(len(w.things)-1)
		w.follows(t, goal{high, nil, name + "@low", want}, walk.Found{Stack: stack(), Dir: r, Name: name[1:], Node: l, Kind: api.KLink})
		// from low's own directory on it is another way
		f, e := w.view().Walk(high, nil, "/@low"+name, true)
		switch target {
		case "a", "a@low":
			if e != api.OK || !same(f, walk.Found{Stack: stack(r), Dir: r, Name: "a", Node: w.a, Kind: api.KDir}) {
				t.Errorf("%s from low's own directory = %v, %d", target, f, e)
			}
		case "a@left", "@high":
			if e != api.ErrAway {
				t.Errorf("%s from low's own directory = %v, %d", target, f, e)
			}
		}
	}
}

// P12.2, P3: a link's text may want what its reader may not look at.
func TestLinkErrors(t *testing.T) {
	w := planted(t)
	for target, want := range map[string]api.Errno{
		"/a@high": api.ErrPerm, "@high": api.ErrAway, "/@left": api.ErrPerm, "/x@none": api.ErrNone, "x@none": api.ErrNone, "z/z": api.ErrNone, "/z/z": api.ErrNone, "b/z": api.ErrNotDir, "/f/.": api.ErrNotDir, "x@left": api.ErrAway,
		"a b": api.ErrInvalid, "@": api.ErrInvalid, "a\x00": api.ErrInvalid, "d/\xff": api.ErrInvalid, "abcdefghijklmno": api.ErrLong, strings.Repeat("a", 60): api.ErrLong, "a@@": api.ErrInvalid,
	} {
		name := "l" + strconv.Itoa(len(w.things))
		l := w.link(t, w.a, name, target)
		if f, e := w.view().Walk(low, nil, "/a/"+name, true); e != want || !same(f, walk.Found{}) {
			t.Errorf("a link to %q = %v, %d, wanted %d", target, f, e, want)
		}
		w.fails(t, low, nil, "/a/"+name+"/x", want)
		w.fails(t, low, nil, "/a/"+name+"/.", want)
		w.holds(t, low, nil, "/a/"+name, false, walk.Found{Stack: stack(w.a), Dir: w.a, Name: name, Node: l, Kind: api.KLink})
	}
	l := w.link(t, w.a, "l", "b")
	for _, block := range []uint16{0, 201, 65535} { // Target's error
		w.set(t, l, api.Node{Kind: api.KLink, Links: 1, Gen: l.Gen, Size: 3, Direct: [6]uint16{block}})
		if f, e := w.view().Walk(low, nil, "/a/l", true); e != api.ErrRange || !same(f, walk.Found{}) {
			t.Errorf("a link without a block = %v, %d", f, e)
		}
		w.fails(t, low, nil, "/a/l/x", api.ErrRange)
	}
}

// P12.2: a link that isn't the last part is followed at all events; its parts come ahead of those that are left.
func TestLinkOnTheWay(t *testing.T) {
	w := planted(t)
	r := w.own(low)
	w.link(t, r, "toa", "a")
	w.link(t, r, "tod", "toa/d")
	w.link(t, w.sub, "up", "..")
	w.link(t, w.sub, "top", "/")
	w.link(t, w.mlow, "a", "/toa")
	w.link(t, w.own(high), "l", "/a@low")
	f := walk.Found{Stack: stack(), Dir: r, Name: "f", Node: w.f, Kind: api.KFile}
	b := walk.Found{Stack: stack(w.a), Dir: w.a, Name: "b", Node: w.b, Kind: api.KFile}
	e := walk.Found{Stack: stack(w.a, w.sub), Dir: w.sub, Name: "e", Node: w.e, Kind: api.KFile}
	w.check(t, []goal{
		{low, nil, "/toa/b", b},
		{low, nil, "/toa/.", place(api.KDir, root, w.a)},
		{low, nil, "/toa/..", place(api.KMulti, root)}, // where the link leads to is left, not the link
		{low, nil, "/toa/@low", place(api.KDir, root, w.a, w.a)},
		{low, nil, "/tod/e", e},
		{low, nil, "/tod/../b", b},
		{low, nil, "/a/d/up/b", b},
		{low, nil, "/a/d/up/.", place(api.KDir, root, w.a)},
		{low, nil, "/a/d/top/f", f},
		{low, nil, "/a/d/top/.", place(api.KMulti, root)},
		{low, nil, "/tod/top/../f", f},
		{low, stack(w.m), "a/b", b},
		{low, nil, "/tod/up/d/up/d/e", e},
		{high, nil, "/l/d/e", e},
		{high, nil, "/l@high/b@low", b},
		{low, nil, "/toa/z", walk.Found{Stack: stack(w.a), Dir: w.a, Name: "z"}},
	})
	w.fails(t, low, nil, "/toa/z/z", api.ErrNone)
	w.fails(t, low, nil, "/toa/b/z", api.ErrNotDir)
	w.fails(t, high, nil, "/l/d@high", api.ErrAway)
}

// P12.2: a link is the last part, or isn't, as the parts are that are left, those of links too.
func TestLinkInLink(t *testing.T) {
	w := planted(t)
	r := w.own(low)
	w.link(t, r, "one", "two")
	two := w.link(t, r, "two", "f")
	w.link(t, r, "three", "two/x")
	w.link(t, r, "four", "a/l")
	al := w.link(t, w.a, "l", "d")
	w.holds(t, low, nil, "/one", true, walk.Found{Stack: stack(), Dir: r, Name: "f", Node: w.f, Kind: api.KFile})
	w.holds(t, low, nil, "/two", false, walk.Found{Stack: stack(), Dir: r, Name: "two", Node: two, Kind: api.KLink})
	w.fails(t, low, nil, "/three/x", api.ErrNotDir)
	w.fails(t, low, nil, "/one/x", api.ErrNotDir)
	if f, e := w.view().Walk(low, nil, "/three", true); e != api.ErrNotDir || !same(f, walk.Found{}) {
		t.Errorf("/three = %v, %d", f, e)
	}
	w.holds(t, low, nil, "/four", true, walk.Found{Stack: stack(w.a), Dir: w.a, Name: "d", Node: w.sub, Kind: api.KDir})
	w.check(t, []goal{{low, nil, "/four/e", walk.Found{Stack: stack(w.a, w.sub), Dir: w.sub, Name: "e", Node: w.e, Kind: api.KFile}}})
	w.holds(t, low, nil, "/four/../l", false, walk.Found{Stack: stack(w.a), Dir: w.a, Name: "l", Node: al, Kind: api.KLink})
}

// P12.2: eight links, not nine, in one way: one behind the other, one in the other, or side by side; what comes behind the ninth isn't asked.
func TestLoop(t *testing.T) {
	w := planted(t)
	r := w.own(low)
	for i := range 10 { // c0 is f's, c1 goes by it, and so on
		target := "f"
		if i > 0 {
			target = "c" + strconv.Itoa(i-1)
		}
		w.link(t, r, "c"+strconv.Itoa(i), target)
	}
	f := walk.Found{Stack: stack(), Dir: r, Name: "f", Node: w.f, Kind: api.KFile}
	w.holds(t, low, nil, "/c7", true, f)
	for _, s := range []string{"/c8", "/c9"} {
		if f, e := w.view().Walk(low, nil, s, true); e != api.ErrLoop || !same(f, walk.Found{}) {
			t.Errorf("%s = %v, %d", s, f, e)
		}
		if l, e := w.view().Dir(low, nil, s); e != api.ErrLoop || len(l) > 0 {
			t.Errorf("Dir of %s = %v, %d", s, l, e)
		}
		if f, e := w.view().Walk(low, nil, s, false); e != api.OK || f.Kind != api.KLink {
			t.Errorf("%s itself = %v, %d", s, f, e)
		}
	}
	w.fails(t, low, nil, "/c7/x", api.ErrNotDir)
	w.fails(t, low, nil, "/c8/x", api.ErrLoop)
	w.link(t, w.a, "h", ".")
	bad := w.link(t, w.a, "bad", "a b")
	h := func(n int) string { return "/a" + strings.Repeat("/h", n) }
	b := walk.Found{Stack: stack(w.a), Dir: w.a, Name: "b", Node: w.b, Kind: api.KFile}
	w.check(t, []goal{{low, nil, h(8) + "/b", b}, {low, nil, h(8) + "/.", place(api.KDir, root, w.a)}, {low, nil, h(8) + "/../a/b", b}})
	w.holds(t, low, nil, h(8), true, place(api.KDir, root, w.a))
	w.holds(t, low, nil, h(8)+"/bad", false, walk.Found{Stack: stack(w.a), Dir: w.a, Name: "bad", Node: bad, Kind: api.KLink})
	w.fails(t, low, nil, h(9)+"/b", api.ErrLoop)
	w.fails(t, low, nil, h(9)+"/z/z", api.ErrLoop)
	w.fails(t, low, nil, h(8)+"/bad/x", api.ErrLoop) // ahead of what is in it
	w.fails(t, low, nil, h(7)+"/bad/x", api.ErrInvalid)
	w.fails(t, low, nil, h(8)+"/z/h", api.ErrNone)
	for _, x := range [][2]string{{"self", "self"}, {"ab", "ba"}, {"ba", "/ab"}, {"deep", "deep/deep/deep/deep/deep/deep/deep/deep/deep"}} {
		w.link(t, r, x[0], x[1])
	}
	for _, s := range []string{"self", "ab", "ba", "deep"} {
		w.fails(t, low, nil, "/"+s+"/x", api.ErrLoop)
		w.fails(t, low, nil, "/"+s+"/..", api.ErrLoop)
		if _, e := w.view().Walk(low, nil, s, true); e != api.ErrLoop {
			t.Errorf("%s = %d", s, e)
		}
	}
}
