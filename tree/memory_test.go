package tree_test

import (
	"math/rand"
	"slices"
	"testing"

	"garrison/api"
	"garrison/dir"
	"garrison/tree"
)

// noisy: a list with spare room behind it, in which others' directories stand; all of its memory.
func noisy(l []api.Ino) (list, whole []api.Ino) {
	whole = slices.Clone(l)
	for i := range 70 {
		whole = append(whole, api.Ino{Lab: 200, Num: uint16(i), Gen: 7})
	}
	return whole[:len(l)], whole
}

// each of the calls, one behind the other; f behind each.
func each(tr *tree.Tree, s, old string, f func()) {
	tr.Stat(s, true)
	f()
	tr.Stat(s, false)
	f()
	tr.List(s)
	f()
	tr.Make(s, api.KDir)
	f()
	tr.Symlink(old, s+"l")
	f()
	tr.Link(old, s+"k")
	f()
	tr.Rename(old, s+"n")
	f()
	tr.Unlink(s + "k")
	f()
	tr.Rmdir(s)
	f()
	tr.Of(api.Ino{Num: 4, Gen: 1})
	f()
}

// P2, R6: where a subject is isn't changed, spare room included, nor its tree.
func TestCwdStays(t *testing.T) {
	w := planted(t)
	for _, l := range [][]api.Ino{{}, stack(), stack(w.a), stack(w.a, w.sub), stack(w.m), {w.a}, stack(w.f), stack(w.m, w.a, w.sub)} {
		for _, s := range []string{"z", "/z", "d/z", "../z", "../../m/z", "d/../d/../z", "@low/z", "./d/e/z", "/a/d/z", "/m/@low/../../a/d/z", "..", "a", "d"} {
			for _, old := range []string{"b", "/f", "../f", "d", "../a/d", "/m/x", "/a"} {
				from, whole := noisy(l)
				was := slices.Clone(whole)
				tr := w.tree(low, from...)
				tr.Cwd = from
				v := *tr.View
				each(tr, s, old, func() {
					if !slices.Equal(whole, was) || len(tr.Cwd) != len(l) || tr.Subject != low || *tr.View != v {
						t.Fatalf("%q, %q from %v changes where it is", s, old, l)
					}
				})
				w.x.Drop()
			}
		}
	}
}

// P2, R6: entries are new memory: what is written into them, or behind them, comes nowhere.
func TestListIsNew(t *testing.T) {
	w := planted(t)
	for _, s := range []string{"/", "/a", "/m", "/a/d"} {
		one, e := w.tree(low).List(s)
		two, f := w.tree(low).List(s)
		want := slices.Clone(two)
		for i := range one[:cap(one)] {
			one[:cap(one)][i] = api.Entry{Name: "q", Num: 99}
		}
		_ = append(one, api.Entry{Name: "r", Num: 98})
		three, g := w.tree(low).List(s)
		if e != api.OK || f != api.OK || g != api.OK || !slices.Equal(two, want) || !slices.Equal(three, want) {
			t.Errorf("List of %q = %v, then %v", s, two, three)
		}
	}
}

// P2, R6: what a tree is handed isn't kept in the files: another list in Cwd is another place, from then on.
func TestCwdIsNotKept(t *testing.T) {
	w := planted(t)
	from := stack(w.a)
	tr := w.tree(low)
	tr.Cwd = from
	i, e := tr.Make("z", api.KFile)
	w.done(t, low, "Make", e, api.OK)
	from[1] = w.sub
	j, e := tr.Make("z", api.KFile)
	w.done(t, low, "Make", e, api.OK)
	w.list(t, w.a, entry("b", w.b), entry("d", w.sub), entry("z", i))
	w.list(t, w.sub, entry("e", w.e), entry("z", j))
	w.right(t)
}

// P2, R5: a tree that is nowhere is at the root, be its list nil, empty, or empty with room behind it.
func TestNowhere(t *testing.T) {
	w := planted(t)
	room := stack(w.a, w.sub)
	for _, from := range [][]api.Ino{nil, {}, room[:0]} {
		tr := w.tree(low)
		tr.Cwd = from
		if s, e := tr.Stat("a", true); e != api.OK || s.Ino != w.a {
			t.Errorf("Stat = %v, %d", s, e)
		}
		i, e := tr.Make("z", api.KFile)
		w.done(t, low, "Make", e, api.OK)
		w.done(t, low, "Rename", tr.Rename("z", "y"), api.OK)
		w.done(t, low, "Unlink", tr.Unlink("y"), api.OK)
		w.gone(t, i)
	}
	if !slices.Equal(room, stack(w.a, w.sub)) {
		t.Errorf("the room became %v", room)
	}
}

// P2, R8: a tree has what its transaction has, also what isn't on the disk yet, and not any more what is dropped.
func TestTransaction(t *testing.T) {
	w := planted(t)
	was := w.d.Image()
	tr := w.tree(low)
	i, e := tr.Make("/n", api.KDir)
	j, f := tr.Make("/n/k", api.KFile)
	if e != api.OK || f != api.OK || tr.Link("/n/k", "/n/l") != api.OK || tr.Rename("/n", "/o") != api.OK || tr.Unlink("/o/k") != api.OK {
		t.Fatalf("Make = %d, %d", e, f)
	}
	if s, e := tr.Stat("/o/l", true); e != api.OK || s.Ino != j || s.Links != 1 {
		t.Errorf("Stat of what isn't written = %v, %d", s, e)
	}
	if !slices.Equal(w.d.Image(), was) {
		t.Error("it is on the disk already")
	}
	w.x.Drop()
	if _, e := tr.Stat("/o", true); e != api.ErrNone {
		t.Errorf("Stat of what is dropped = %d", e)
	}
	if _, e := tr.Of(i); e != api.ErrStale {
		t.Errorf("Of what is dropped = %d", e)
	}
	w.right(t)
}

// beside: is there nothing beside an error?
func beside(e api.Errno, zero bool) bool { return e == api.OK || zero }

// P1, P2, R3: on disks of which some bytes, or all, are of chance each call ends, and answers nothing beside an error; it puts nothing of others' groups.
func TestNoise(t *testing.T) {
	for seed := range int64(60) {
		r := rand.New(rand.NewSource(seed))
		base, m, places := grown(t, r, 60)
		bs := base.d.Image()
		for lab := range labels {
			part := base.part(bs, lab)
			for range 1 + r.Intn(30) {
				part[r.Intn(40)][r.Intn(64)] = byte(r.Intn(5))
			}
			for i := range part {
				if seed%10 == 0 {
					r.Read(part[i][:])
				}
			}
		}
		w := onto(t, four, bs)
		for _, x := range deeds(r, m, append(places, []api.Ino{{}, {Lab: uint8(r.Intn(5)), Num: uint16(r.Intn(62)), Gen: uint16(r.Intn(3))}}), 300) {
			tr := w.tree(x.subject, x.from...)
			i, e := tr.Make(x.a, x.kind)
			j, f := tr.Symlink(x.b, x.a)
			s, g := tr.Stat(x.a, true)
			l, h := tr.List(x.a)
			if !beside(e, i == root) || !beside(f, j == root) || !beside(g, s == api.Stat{}) || !beside(h, len(l) == 0) {
				t.Fatalf("seed %d: something beside an error: %v, %d; %v, %d; %v, %d; %v, %d", seed, i, e, j, f, s, g, l, h)
			}
			w.x.Drop()
			w.do(t, x)
		}
	}
}

// P13.1: places that are empty are left out of what is told.
func TestListPlaces(t *testing.T) {
	w := planted(t)
	b := dir.Pack(api.Entry{Name: "e", Num: w.e.Num})
	w.lay(t, low, int(w.sub.Num), slices.Concat(make([]byte, 32), b[:], make([]byte, 16)))
	if l, e := w.tree(low).List("/a/d"); e != api.OK || !slices.Equal(l, []api.Entry{entry("e", w.e)}) {
		t.Errorf("List = %v, %d", l, e)
	}
}
