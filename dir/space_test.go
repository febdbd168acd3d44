package dir_test

import (
	"slices"
	"testing"

	"garrison/api"
	"garrison/dir"
)

// fill: all a label's blocks are taken but so many, from the middle of the group on.
func (w world) fill(t *testing.T, lab, left int) {
	t.Helper()
	g := w.open(t, lab)
	geo, _ := w.c.Geo(lab)
	for {
		if _, e := g.Take(); e != api.OK {
			break
		}
		if w.x.Len() > 20 {
			w.commit(t)
		}
	}
	for i := range left {
		if e := g.Give(uint16((geo.Blocks/2+i)%geo.Blocks + 1)); e != api.OK {
			t.Fatalf("Give = %d", e)
		}
	}
	w.commit(t)
}

// P6, P9.2: with so many blocks left a directory gets just as many entries as they have room for, whatever others have; then ErrSpace, which leaves it as it was, once it is dropped.
func TestSpace(t *testing.T) {
	for left := range 12 {
		for _, full := range []bool{false, true} {
			w := noisy(t)
			if full {
				w.fill(t, mid, 0)
				w.fill(t, high, 0)
			}
			num := w.dir(t, low)
			w.fill(t, low, left)
			g := w.open(t, low)
			fit := 4 * left
			if left > 6 { // one is of pointers
				fit = max(4*(left-1), 24)
			}
			all := names(fit + 1)
			for i, x := range all[:fit] {
				if e := dir.Add(g, num, x); e != api.OK {
					t.Fatalf("%d left: Add of %d = %d", left, i, e)
				}
			}
			w.commit(t)
			was := w.d.Image()
			if e := dir.Add(g, num, all[fit]); e != api.ErrSpace {
				t.Errorf("%d left: Add of one more = %d", left, e)
			}
			w.x.Drop()
			if !slices.Equal(w.d.Image(), was) {
				t.Error("what got no block wrote")
			}
			holds(t, g, num, all[:fit])
		}
	}
}

// P6: in a full group all that needs no block goes on: an empty place, one in the last block, another node; a block that is given is had again.
func TestFull(t *testing.T) {
	w := noisy(t)
	places := some("abcdef")
	num := w.dir(t, low, places...)
	other := w.dir(t, low, some("klmn")...)
	w.fill(t, low, 0)
	g := w.open(t, low)
	for _, x := range []api.Entry{{Name: "g", Num: 7}, {Name: "h", Num: 8}} { // in the last block
		if e := dir.Add(g, num, x); e != api.OK {
			t.Errorf("Add(%v) = %d", x, e)
		}
	}
	w.commit(t)
	holds(t, g, num, some("abcdefgh"))
	for n, want := range map[int]api.Errno{num: api.ErrSpace, other: api.ErrSpace} {
		if e := dir.Add(g, n, api.Entry{Name: "z", Num: 1}); e != want {
			t.Errorf("Add = %d", e)
		}
		w.x.Drop()
	}
	if e := dir.Add(g, num, api.Entry{Name: "h", Num: 1}); e != api.ErrExists { // ahead of file.Write's
		t.Errorf("Add of what is there = %d", e)
	}
	if e := dir.Turn(g, num, api.Entry{Name: "a", Num: 77}); e != api.OK {
		t.Errorf("Turn = %d", e)
	}
	if e := dir.Drop(g, num, "b"); e != api.OK {
		t.Errorf("Drop = %d", e)
	}
	if e := dir.Add(g, num, api.Entry{Name: "z", Num: 5}); e != api.OK { // in its place
		t.Errorf("Add = %d", e)
	}
	for _, s := range []string{"e", "f", "g", "h"} {
		if e := dir.Add(g, other, api.Entry{Name: "o", Num: 1}); e != api.ErrSpace {
			t.Errorf("Add ahead of Drop(%s) = %d", s, e)
		}
		if e := dir.Drop(g, num, s); e != api.OK {
			t.Errorf("Drop(%s) = %d", s, e)
		}
	}
	if e := dir.Add(g, other, api.Entry{Name: "o", Num: 1}); e != api.OK { // the block that is given
		t.Errorf("Add = %d", e)
	}
	w.commit(t)
	holds(t, g, num, []api.Entry{{Name: "a", Num: 77}, {Name: "z", Num: 5}, {Name: "c", Num: 3}, {Name: "d", Num: 4}})
	holds(t, g, other, append(some("klmn"), api.Entry{Name: "o", Num: 1}))
}

// P6: what one label does to its directories touches no block of another's.
func TestOwnBlocks(t *testing.T) {
	for lab := range 3 {
		w := noisy(t)
		nums := []int{w.dir(t, low, some("abc")...), w.dir(t, mid, some("abc")...), w.dir(t, high, some("abc")...)}
		was := w.d.Image()
		g := w.open(t, lab)
		for _, x := range names(20) {
			if e := dir.Add(g, nums[lab], x); e != api.OK {
				t.Fatalf("Add = %d", e)
			}
		}
		dir.Drop(g, nums[lab], "b")
		dir.Turn(g, nums[lab], api.Entry{Name: "c", Num: 99})
		w.commit(t)
		geo, _ := w.c.Geo(lab)
		for i, b := range w.d.Image() {
			own := i >= geo.Base && i < geo.Data+geo.Blocks
			if i > api.LogBlocks+1 && !own && b != was[i] {
				t.Errorf("block %d, another's, was written", i)
			}
		}
	}
}
