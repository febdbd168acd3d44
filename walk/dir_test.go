package walk_test

import (
	"slices"
	"testing"

	"garrison/api"
)

// P12.3: the directories of the way, the one it comes to the last; a link at the end is followed.
func TestDir(t *testing.T) {
	w := planted(t)
	r := w.own(low)
	w.link(t, r, "toa", "a")
	w.link(t, r, "tod", "/toa/d")
	w.link(t, w.sub, "top", "/")
	w.link(t, w.sub, "up", "..")
	for _, x := range []struct {
		subject int
		from    []api.Ino
		s       string
		want    []api.Ino
	}{
		{low, nil, "/", stack()},
		{low, stack(w.a, w.sub), "/", stack()},
		{low, nil, ".", stack()},
		{low, nil, "..", stack()},
		{low, nil, "/a", stack(w.a)},
		{low, nil, "a/d", stack(w.a, w.sub)},
		{low, nil, "a/d/", stack(w.a, w.sub)},
		{low, nil, "a/d/.", stack(w.a, w.sub)},
		{low, nil, "a/d/..", stack(w.a)},
		{low, stack(w.a, w.sub), ".", stack(w.a, w.sub)},
		{low, stack(w.a, w.sub), "..", stack(w.a)},
		{low, stack(w.a, w.sub), "../d", stack(w.a, w.sub)},
		{low, []api.Ino{w.a}, "d", []api.Ino{w.a, w.sub}},
		{low, nil, "/m", stack(w.m)},
		{left, nil, "/m@low", stack(w.m)}, // it is there, its own one or not
		{high, nil, "/n", stack(w.hn)},
		{high, nil, "/a", stack(w.ha)},
		{high, nil, "/a@low", stack(w.a)},
		{high, nil, "/@low", stack(r)},
		{high, nil, "/@low/a", stack(r, w.a)},
		{high, nil, "/m@low/@high", stack(w.m, w.mhigh)},
		{low, nil, "/toa", stack(w.a)},
		{low, nil, "/tod", stack(w.a, w.sub)},
		{low, nil, "/tod/up", stack(w.a)},
		{low, nil, "/tod/top", stack()},
		{low, nil, "/tod/up/d", stack(w.a, w.sub)},
	} {
		if l, e := w.view().Dir(x.subject, x.from, x.s); e != api.OK || !slices.Equal(l, x.want) {
			t.Errorf("Dir(%d, %v, %q) = %v, %d, wanted %v", x.subject, x.from, x.s, l, e, x.want)
		}
	}
	if w.x.Len() > 0 {
		t.Error("Dir put something")
	}
}

// P12.3: what isn't there, and what is no directory.
func TestDirErrors(t *testing.T) {
	w := planted(t)
	w.link(t, w.a, "tof", "/f")
	w.link(t, w.a, "toz", "/z")
	w.link(t, w.a, "self", "self")
	w.link(t, w.a, "bad", "a b")
	for _, x := range []struct {
		subject int
		from    []api.Ino
		s       string
		want    api.Errno
	}{
		{low, nil, "/z", api.ErrNone},
		{low, nil, "/a/z", api.ErrNone},
		{low, nil, "/a/toz", api.ErrNone},
		{left, stack(w.m), "x", api.ErrNone},
		{right, nil, "/m@low/x", api.ErrNone},
		{low, nil, "/f", api.ErrNotDir},
		{low, nil, "/p", api.ErrNotDir},
		{low, nil, "/a/b", api.ErrNotDir},
		{low, nil, "/a/tof", api.ErrNotDir},
		{low, nil, "/a/self", api.ErrLoop},
		{low, nil, "/a/bad", api.ErrInvalid},
		{low, nil, "/z/z", api.ErrNone},
		{low, nil, "/f/z", api.ErrNotDir},
		{low, nil, "/@high", api.ErrPerm},
		{high, nil, "/@low/@high", api.ErrAway},
		{high, nil, "@none", api.ErrNone},
		{low, stack(w.f), ".", api.ErrNotDir},
		{low, stack(api.Ino{Lab: low, Num: 60, Gen: 1}), ".", api.ErrStale},
		{low, nil, "", api.ErrInvalid},
		{99, nil, "a", api.ErrRange},
	} {
		if l, e := w.view().Dir(x.subject, x.from, x.s); e != x.want || len(l) > 0 {
			t.Errorf("Dir(%d, %v, %q) = %v, %d, wanted %d", x.subject, x.from, x.s, l, e, x.want)
		}
	}
}
