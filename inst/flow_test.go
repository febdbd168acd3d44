package inst_test

import (
	"fmt"
	"math/rand"
	"slices"
	"testing"

	"garrison/api"
	"garrison/dir"
	"garrison/inst"
)

// P3: each label has its own directory of one node, of its own label; nothing of another's group is written for it, not of the node's own label either.
func TestEachItsOwn(t *testing.T) {
	w := begun(t)
	all := w.multis(t, low, 2)
	var recs [labels][]inst.Record
	for lab := range labels {
		for _, of := range all {
			was := w.d.Image()
			own := w.need(t, lab, of)
			w.onlyOf(t, was, lab)
			if ino := w.ino(t, lab, own); int(ino.Lab) != lab {
				t.Errorf("the own directory of %d is of %d", lab, ino.Lab)
			}
			recs[lab] = append(recs[lab], inst.Record{Of: of, Own: uint16(own)})
		}
		for other := range labels {
			w.has(t, other, recs[other]...)
		}
	}
	w.enter(t, left, int(recs[left][0].Own))
	for lab := range labels {
		want := api.OK
		if lab == left {
			want = api.ErrNotEmpty
		}
		if e := inst.Drop(w.open(t, lab), all[0]); e != want {
			t.Errorf("Drop of %d = %d, wanted %d", lab, e, want)
		}
		w.x.Drop()
	}
}

// P3: Reap and Drop of a label write nothing of another's: the node that is gone is below, the directories of others stay.
func TestReapOwnGroup(t *testing.T) {
	w := begun(t)
	all := w.multis(t, low, 3)
	var recs [labels][]inst.Record
	for lab := range labels {
		recs[lab] = w.needs(t, lab, all)
	}
	w.end(t, all[0], all[1])
	for _, lab := range []int{high, left, low, right} {
		was := w.d.Image()
		if n := w.reaps(t, lab); n != 2 {
			t.Errorf("Reap of %d = %d", lab, n)
		}
		if e := inst.Drop(w.open(t, lab), all[2]); e != api.OK {
			t.Errorf("Drop of %d = %d", lab, e)
		}
		w.commit(t)
		w.onlyOf(t, was, lab)
		recs[lab] = without(recs[lab], 0, 1, 2)
		for other := range labels {
			w.has(t, other, recs[other]...)
		}
	}
}

// P3: what ends above isn't heard of below: a label's own directory is there as long as its node is, whatever happens to others' directories of it.
func TestEndsAbove(t *testing.T) {
	w := begun(t)
	of := w.multi(t, low)
	recs := w.needs(t, low, []api.Ino{of})
	for lab := left; lab < labels; lab++ {
		w.enter(t, lab, w.need(t, lab, of))
	}
	if n := w.reaps(t, low); n != 0 {
		t.Errorf("Reap = %d", n)
	}
	w.has(t, low, recs...)
	w.end(t, of)
	if n := w.reaps(t, low); n != 1 {
		t.Errorf("Reap = %d, though only others' directories have names", n)
	}
}

// peopled: a disk on which each label has own directories of nodes at or below it, some of which are gone, some full; and the nodes.
func peopled(t *testing.T) (world, []api.Ino) {
	t.Helper()
	w := begun(t)
	var all []api.Ino
	for lab := range labels {
		all = append(all, w.multis(t, lab, 3)...)
	}
	for lab := range labels {
		for i, of := range all {
			if !w.c.Leq(int(of.Lab), lab) || i%3 == 2 {
				continue
			}
			own := w.need(t, lab, of)
			if i%2 == 1 {
				w.enter(t, lab, own)
			}
		}
	}
	for i := range all {
		if i%3 == 0 || i%4 == 1 {
			w.end(t, all[i])
		}
	}
	return w, all
}

// noise: the groups of labels that aren't at or below one are of chance.
func (w world) noise(t *testing.T, lab int, seed int64) world {
	t.Helper()
	r := rand.New(rand.NewSource(seed))
	bs := w.d.Image()
	for other := range labels {
		if w.c.Leq(other, lab) {
			continue
		}
		for i := range w.part(bs, other) {
			b := &w.part(bs, other)[i]
			switch seed % 3 {
			case 0:
				r.Read(b[:])
			case 1:
				*b = api.Block{}
			case 2:
				for j := range b {
					b[j] = 255
				}
			}
		}
	}
	return onto(t, bs)
}

// tell: what a label's calls answer, of these nodes, each behind the other.
func (w world) tell(t *testing.T, lab int, all []api.Ino) string {
	t.Helper()
	var out string
	say := func(s string, x ...any) { out += fmt.Sprintln(s, x) }
	g := w.open(t, lab)
	for round := range 3 {
		for _, of := range all {
			if !w.c.Leq(int(of.Lab), lab) {
				continue
			}
			is, e := inst.Alive(w.x, w.c, of)
			say("Alive", of, is, int(e))
			n, e := inst.Find(g, of)
			say("Find", n, int(e))
			n, e = inst.Need(w.x, w.c, g, of)
			say("Need", n, int(e))
			if e != api.OK {
				w.x.Drop()
			}
			if round == 1 && n%2 == 0 {
				say("Add", int(dir.Add(g, n, api.Entry{Name: "y", Num: 9})))
			}
			if round == 2 {
				say("Drop", int(inst.Drop(g, of)))
			}
			w.commit(t)
		}
		n, e := inst.Reap(w.x, w.c, g)
		say("Reap", n, int(e))
		l, e := inst.List(g)
		say("List", l, int(e))
		w.commit(t)
	}
	return out
}

// P3: what a label's calls answer, and what they leave at or below it, hangs on the groups at or below it alone.
func TestNothingFlowsDown(t *testing.T) {
	base, all := peopled(t)
	for lab := range labels {
		plain := onto(t, base.d.Image())
		want := plain.tell(t, lab, all)
		for seed := range int64(6) {
			w := base.noise(t, lab, seed)
			was := w.d.Image()
			if got := w.tell(t, lab, all); got != want {
				t.Errorf("of %d, other groups are noise %d: it says\n%s, wanted\n%s", lab, seed, got, want)
			}
			w.onlyOf(t, was, lab)
			if !slices.Equal(w.part(w.d.Image(), lab), plain.part(plain.d.Image(), lab)) {
				t.Errorf("of %d, other groups are noise %d: its group is another", lab, seed)
			}
		}
	}
}

// P3: just the group of a node's own label is asked whether it is there.
func TestAliveOwnGroup(t *testing.T) {
	base := begun(t)
	of := base.multi(t, left)
	for lab := range labels {
		bs := base.d.Image()
		for i := range base.part(bs, lab) {
			base.part(bs, lab)[i] = api.Block{0: 99, 32: 99}
		}
		w := onto(t, bs)
		is, e := inst.Alive(w.x, w.c, of)
		if (lab == left) != (e == api.ErrForm) || is != (lab != left) {
			t.Errorf("the group of %d isn't right: Alive = %v, %d", lab, is, e)
		}
	}
}
