package walk_test

import (
	"math/rand"
	"slices"
	"testing"

	"garrison/api"
	"garrison/walk"
)

// noisy: a list with spare room behind it, in which others' directories stand; all of its memory.
func noisy(l []api.Ino) (list, whole []api.Ino) {
	whole = slices.Clone(l)
	for i := range 70 {
		whole = append(whole, api.Ino{Lab: 200, Num: uint16(i), Gen: 7})
	}
	return whole[:len(l)], whole
}

// spoil writes into a list, and into its spare room.
func spoil(l []api.Ino) {
	l = l[:cap(l)]
	for i := range l {
		l[i] = api.Ino{Lab: 99, Num: 99, Gen: 99}
	}
}

// wayWords: ways that stay, leave, go into, leave and go into again, by links too, and such as fail.
func wayWords() []string {
	return []string{
		"/", ".", "..", "../..", "../../..", "a", "/a/b", "d", "d/e", "d/.", "../d", "../d/e", "../../a/d", "../m/x", "../../m/../a/d/.", "./d/../d/../d/e", "l", "l/d", "l/../a", "up", "up/a/b", "../up/../a", "../../f", "../../z", "@low", "@low/..", "../../@low/a/d/../d",
		"b/c", "z/z", "@none", "d/../../f/x", "", "../../@high",
	}
}

// starts: from where they go.
func (w trees) starts() [][]api.Ino {
	return [][]api.Ino{{}, stack(), stack(w.a), stack(w.a, w.sub), stack(w.m), stack(w.m, w.a, w.sub), {w.a}, stack(w.f)}
}

// grown: those, and links.
func grown(t *testing.T) trees {
	t.Helper()
	w := planted(t)
	w.link(t, w.a, "l", "../a/.")
	w.link(t, w.a, "up", "..")
	w.link(t, w.sub, "up", "../..")
	w.link(t, w.own(low), "l", "/a/d")
	return w
}

// each goes over these ways.
func (w trees) each(hold func(from []api.Ino, s string, follow bool)) {
	for _, from := range w.starts() {
		for _, s := range wayWords() {
			hold(from, s, true)
			hold(from, s, false)
		}
	}
}

// P2, R6: where a way begins isn't changed, spare room included.
func TestFromStays(t *testing.T) {
	w := grown(t)
	w.each(func(l []api.Ino, s string, follow bool) {
		from, whole := noisy(l)
		was := slices.Clone(whole)
		w.view().Walk(low, from, s, follow)
		w.view().Dir(low, from, s)
		if !slices.Equal(whole, was) {
			t.Errorf("%q from %v changes what it is handed", s, l)
		}
	})
}

// P2, R6, R8: answers are new memory: neither what is handed in nor other answers become others, whatever is written into one, or behind it.
func TestAnswersAreNew(t *testing.T) {
	w := grown(t)
	w.each(func(l []api.Ino, s string, follow bool) {
		from, whole := noisy(l)
		was := slices.Clone(whole)
		v := w.view()
		a, _ := v.Walk(low, from, s, follow)
		b, e := v.Walk(low, from, s, follow)
		da, _ := v.Dir(low, from, s)
		db, de := v.Dir(low, from, s)
		want, wantDir := slices.Clone(b.Stack), slices.Clone(db)
		spoil(a.Stack)
		spoil(da)
		_ = append(a.Stack, root)
		_ = append(da, root)
		if !slices.Equal(whole, was) {
			t.Errorf("%q from %v answers its argument's memory", s, l)
		}
		c, again := v.Walk(low, from, s, follow)
		dc, deAgain := v.Dir(low, from, s)
		if !slices.Equal(b.Stack, want) || !same(b, c) || e != again {
			t.Errorf("%q from %v = %v, then %v", s, l, b, c)
		}
		if !slices.Equal(db, wantDir) || !slices.Equal(dc, db) || de != deAgain {
			t.Errorf("Dir of %q from %v = %v, then %v", s, l, db, dc)
		}
	})
}

// P2, R6: what is handed in isn't kept: what is written there later doesn't come to the answer.
func TestFromIsNotKept(t *testing.T) {
	w := grown(t)
	w.each(func(l []api.Ino, s string, follow bool) {
		from, _ := noisy(l)
		f, _ := w.view().Walk(low, from, s, follow)
		d, _ := w.view().Dir(low, from, s)
		want, wantDir := slices.Clone(f.Stack), slices.Clone(d)
		spoil(from)
		if !slices.Equal(f.Stack, want) || !slices.Equal(d, wantDir) {
			t.Errorf("%q from %v keeps what it is handed", s, l)
		}
	})
}

// P2, R6: two ways go on from one way's answer, each its own way.
func TestWaysPart(t *testing.T) {
	w := grown(t)
	for range 3 {
		at, e := w.view().Dir(low, nil, "/a/d/../.")
		if e != api.OK {
			t.Fatalf("Dir = %d", e)
		}
		at = append(at, w.sub)[:len(at)] // room behind it
		one, _ := w.view().Dir(low, at, "d")
		two, _ := w.view().Dir(low, at, "@low")
		if !slices.Equal(one, stack(w.a, w.sub)) || !slices.Equal(two, stack(w.a, w.a)) || !slices.Equal(at, stack(w.a)) {
			t.Errorf("from %v: %v, %v", at, one, two)
		}
	}
}

// P2, R5: a way from nowhere begins at the root, be the list nil, empty, or empty with room behind it.
func TestFromNowhere(t *testing.T) {
	w := grown(t)
	room := stack(w.a, w.sub)
	for _, from := range [][]api.Ino{nil, {}, room[:0]} {
		w.holds(t, low, from, "a", true, walk.Found{Stack: stack(), Dir: w.own(low), Name: "a", Node: w.a, Kind: api.KDir})
		w.holds(t, low, from, "a/d/.", true, place(api.KDir, root, w.a, w.sub))
		if l, e := w.view().Dir(low, from, "m"); e != api.OK || !slices.Equal(l, stack(w.m)) {
			t.Errorf("Dir = %v, %d", l, e)
		}
	}
	if !slices.Equal(room, stack(w.a, w.sub)) {
		t.Errorf("the room became %v", room)
	}
}

// P2, R4: no call puts anything, nor leaves anything in the view.
func TestNothingIsPut(t *testing.T) {
	w := grown(t)
	was, v := w.d.Image(), w.view()
	mine := *v
	w.each(func(l []api.Ino, s string, follow bool) {
		v.Walk(low, l, s, follow)
		v.Walk(high, l, s, follow)
		v.Dir(left, l, s)
		v.Own(w.m, left)
		v.Node(w.a)
		v.Target(w.a)
		v.Group(low)
	})
	if w.x.Len() > 0 || w.x.Commit() != api.OK || !slices.Equal(w.d.Image(), was) || *v != mine {
		t.Error("something was put, or the view is another one")
	}
}

// P12.2, R8: a view has what its transaction has, also what isn't on the disk yet, and not any more what is dropped.
func TestTransaction(t *testing.T) {
	w := planted(t)
	v := w.view()
	num, e := w.open(t, low).Make(api.KFifo)
	if e != api.OK {
		t.Fatalf("Make = %d", e)
	}
	w.x.Drop()
	if _, e := v.Node(api.Ino{Lab: low, Num: uint16(num), Gen: 1}); e != api.ErrStale {
		t.Errorf("Node of what is dropped = %d", e)
	}
	num, _ = w.open(t, low).Make(api.KFifo)
	i := api.Ino{Lab: low, Num: uint16(num), Gen: 1}
	if n, e := v.Node(i); e != api.OK || n.Kind != api.KFifo {
		t.Errorf("Node of what isn't written = %v, %d", n, e)
	}
}

// P1, P2, R3: on disks of which some bytes, or all, are of chance each call ends, puts nothing, and answers nothing beside an error.
func TestNoise(t *testing.T) {
	for seed := range int64(40) {
		r := rand.New(rand.NewSource(seed))
		base := random(t, r)
		bs := base.d.Image()
		for lab := range labels {
			part := base.part(bs, lab)
			for range 1 + r.Intn(60) {
				part[r.Intn(40)][r.Intn(64)] = byte(r.Intn(5))
			}
			for i := range part {
				if seed%4 == 0 {
					r.Read(part[i][:])
				}
			}
		}
		w := onto(t, bs, nil)
		v := w.view()
		for range 400 {
			at := []api.Ino{{}, {Lab: uint8(r.Intn(5)), Num: uint16(r.Intn(62)), Gen: uint16(r.Intn(3))}}
			subject, s := r.Intn(6)-1, text(r, 5)
			f, e := v.Walk(subject, at[:r.Intn(3)], s, r.Intn(2) == 0)
			l, le := v.Dir(subject, at, s)
			n, ne := v.Node(at[1])
			to, te := v.Target(at[1])
			own, ok, oe := v.Own(at[1], subject)
			if e != api.OK && !same(f, walk.Found{}) || le != api.OK && len(l) > 0 || ne != api.OK && n != (api.Node{}) || te != api.OK && to != "" || (oe != api.OK || !ok) && own != root || oe != api.OK && ok {
				t.Fatalf("seed %d: something beside an error: %v, %d; %v, %d; %v, %d; %q, %d; %v, %d", seed, f, e, l, le, n, ne, to, te, own, oe)
			}
		}
		if w.x.Len() > 0 {
			t.Error("something was put")
		}
	}
}
