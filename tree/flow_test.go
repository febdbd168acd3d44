package tree_test

import (
	"fmt"
	"math/rand"
	"slices"
	"testing"

	"garrison/api"
)

// deed is something that a subject does.
type deed struct {
	who
	what int
	a, b string
	kind api.Kind
}

// deeds: what subjects do, by chance, where such trees stand.
func deeds(r *rand.Rand, m *model, places [][]api.Ino, many int) []deed {
	var l []deed
	for range many {
		by := m.by(r, places)
		l = append(l, deed{by, r.Intn(8), m.some(r, by, r.Intn(2) == 0), m.some(r, by, false), oneOf(r, api.KFile, api.KDir, api.KMulti, api.KFifo)})
	}
	return l
}

// do: what it answers, as a text.
func (w world) do(t *testing.T, x deed) string {
	t.Helper()
	tr := w.tree(x.subject, x.from...)
	var out any
	var e api.Errno
	switch x.what {
	case 0:
		out, e = tr.Make(x.a, x.kind)
	case 1:
		out, e = tr.Symlink(x.b, x.a)
	case 2:
		e = tr.Link(x.b, x.a)
	case 3:
		e = tr.Unlink(x.b)
	case 4:
		e = tr.Rmdir(x.b)
	case 5:
		e = tr.Rename(x.b, x.a)
	case 6:
		out, e = tr.Stat(x.a, len(x.b)%2 == 0)
	case 7:
		out, e = tr.List(x.b)
	}
	w.done(t, x.subject, fmt.Sprint(x), e, e)
	return fmt.Sprintln(x, out, int(e))
}

// grown: a disk of chance, the model of it, and places where subjects were.
func grown(t *testing.T, r *rand.Rand, steps int) (world, *model, [][]api.Ino) {
	t.Helper()
	w, m := begun(t, four), newModel(60)
	var places [][]api.Ino
	for range steps {
		by, was := m.by(r, places), m.clone()
		what, got, want, _, _ := w.act(r, m, by)
		if want != api.OK {
			*m = *was
		}
		w.done(t, by.subject, what, got, want)
		if l, e := w.view().Dir(by.subject, by.from, m.some(r, by, false)); e == api.OK {
			places = append(places, l)
		}
	}
	return w, m, places
}

// noise: the groups of labels that aren't at or below one are of chance, or of noughts.
func (w world) noise(t *testing.T, lab int, seed int64) world {
	t.Helper()
	r := rand.New(rand.NewSource(seed))
	bs := w.d.Image()
	for other := range labels {
		if w.c.Leq(other, lab) {
			continue
		}
		part := w.part(bs, other)
		for i := range part {
			if seed%2 == 0 {
				r.Read(part[i][:])
			} else {
				part[i] = api.Block{}
			}
		}
	}
	return onto(t, four, bs)
}

// sameBelow: are the groups at or below a label the same?
func (w world) sameBelow(v world, lab int) bool {
	a, b := w.d.Image(), v.d.Image()
	for other := range labels {
		if w.c.Leq(other, lab) && !slices.Equal(w.part(a, other), v.part(b, other)) {
			return false
		}
	}
	return true
}

// P3, P4: what a subject does comes to the same, whatever stands in groups that aren't at or below it.
func TestNothingFlowsDown(t *testing.T) {
	for seed := range int64(8) {
		r := rand.New(rand.NewSource(seed))
		base, m, places := grown(t, r, 150)
		all := deeds(r, m, places, 400)
		for lab := range labels {
			for kind := range int64(2) {
				one, other := onto(t, four, base.d.Image()), base.noise(t, lab, kind)
				for _, x := range all {
					if x.subject != lab {
						continue
					}
					if got, want := other.do(t, x), one.do(t, x); got != want {
						t.Fatalf("seed %d, of %d: with others' noise %s, wanted %s", seed, lab, got, want)
					}
				}
				if !one.sameBelow(other, lab) {
					t.Errorf("seed %d: groups at or below %d are others", seed, lab)
				}
			}
		}
	}
}

// P3, P4: what is done at labels that aren't at or below one is neither heard nor seen there.
func TestOthersAreNotHeard(t *testing.T) {
	for seed := range int64(8) {
		r := rand.New(rand.NewSource(100 + seed))
		base, m, places := grown(t, r, 150)
		all := deeds(r, m, places, 600)
		for lab := range labels {
			with, without := onto(t, four, base.d.Image()), onto(t, four, base.d.Image())
			for _, x := range all {
				if !base.c.Leq(x.subject, lab) {
					with.do(t, x)
					continue
				}
				if got, want := with.do(t, x), without.do(t, x); got != want {
					t.Fatalf("seed %d, at or below %d: %s, wanted %s", seed, lab, got, want)
				}
			}
			if !with.sameBelow(without, lab) {
				t.Errorf("seed %d: groups at or below %d are others", seed, lab)
			}
		}
	}
}

// P3: of a directory that each label has its own of, nobody hears whether others have theirs, or what is in it.
func TestMultiIsNotHeard(t *testing.T) {
	for _, made := range []bool{false, true} {
		w := begun(t, four)
		m := w.make(t, low, "/m", api.KMulti)
		n := w.make(t, low, "/n", api.KMulti)
		if made {
			for _, s := range []string{"/m@low/a", "/n@low/a"} {
				for _, subject := range []int{left, right, high} {
					w.make(t, subject, s, api.KDir)
				}
			}
		}
		if s, e := w.tree(low).Stat("/m", true); e != api.OK || s != (api.Stat{Ino: m, Kind: api.KMulti, Links: 1}) {
			t.Errorf("Stat = %v, %d", s, e)
		}
		if l, e := w.tree(low).List("/m"); e != api.OK || len(l) > 0 {
			t.Errorf("List = %v, %d", l, e)
		}
		for _, s := range []string{"/m/a@high", "/m/@left", "/m/z@right"} {
			if st, e := w.tree(low).Stat(s, true); e != api.ErrPerm || st != (api.Stat{}) {
				t.Errorf("Stat of %q = %v, %d", s, st, e)
			}
		}
		w.rename(t, low, "/n", "/m", api.OK)
		w.gone(t, m)
		w.rmdir(t, low, "/m", api.OK)
		w.gone(t, n)
		w.right(t)
	}
}
