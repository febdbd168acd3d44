package inst_test

import (
	"slices"
	"testing"

	"garrison/api"
	"garrison/inst"
)

// tables: a label's table has so many records of one node that is there, whose directory is node 4.
func (w world) tables(t *testing.T, lab, many int) []inst.Record {
	t.Helper()
	of := w.multi(t, low)
	out := slices.Repeat([]inst.Record{{Of: of, Own: 4}}, many)
	w.lay(t, lab, packed(out))
	return out
}

// refuses: does a label get no own directory of a node, and nothing is left of it?
func (w world) refuses(t *testing.T, lab int, of api.Ino, want api.Errno) {
	t.Helper()
	was := w.d.Image()
	if n, e := inst.Need(w.x, w.c, w.open(t, lab), of); n != 0 || e != want {
		t.Errorf("Need(%v) of %d = %d, %d, wanted %d", of, lab, n, e, want)
	}
	w.x.Drop()
	if !slices.Equal(w.d.Image(), was) {
		t.Error("what failed wrote")
	}
}

// P6: with so many nodes left a label gets just so many own directories, whatever others have.
func TestNodes(t *testing.T) {
	for many := range 5 {
		for _, full := range []bool{false, true} {
			w := begun(t)
			all := w.multis(t, low, 5)
			w.crowd(t, high, many)
			if full {
				w.crowd(t, low, 0)
				w.crowd(t, left, 0)
				w.crowd(t, right, 0)
			}
			recs := w.needs(t, high, all[:many])
			w.refuses(t, high, all[many], api.ErrSpace)
			w.has(t, high, recs...)
			if many == 0 {
				continue
			}
			if own := w.need(t, high, all[0]); own != int(recs[0].Own) { // what is there needs no room
				t.Errorf("Need = %d", own)
			}
			if e := inst.Drop(w.open(t, high), all[0]); e != api.OK {
				t.Errorf("Drop = %d", e)
			}
			w.commit(t)
			if own := w.need(t, high, all[many]); own != int(recs[0].Own) {
				t.Errorf("Need behind Drop = %d", own)
			}
		}
	}
}

// P6, P10.2: in a full label one that is gone makes room, if it is empty; others don't.
func TestNodesReaped(t *testing.T) {
	w := begun(t)
	all := w.multis(t, low, 5)
	recs := w.needs(t, high, all[:4])
	w.enter(t, high, int(recs[2].Own))
	w.crowd(t, high, 0)
	w.refuses(t, high, all[4], api.ErrSpace)
	w.end(t, all[2])
	w.refuses(t, high, all[4], api.ErrSpace)
	w.end(t, all[1])
	if own := w.need(t, high, all[4]); own != int(recs[1].Own) {
		t.Errorf("Need = %d, wanted %d", own, recs[1].Own)
	}
	want := without(recs, 1)
	want[1] = inst.Record{Of: all[4], Own: recs[1].Own}
	w.has(t, high, want...)
}

// P6: with so many blocks left a label's table gets just as many records as they have room for, whatever others have.
func TestBlocks(t *testing.T) {
	for _, x := range []struct{ has, left, fit int }{
		{0, 0, 0}, {0, 1, 8}, {3, 0, 5}, {7, 0, 1}, {8, 0, 0}, {8, 1, 8}, {15, 0, 1}, {16, 0, 0},
		{48, 0, 0}, {48, 1, 0}, {48, 2, 8}, {47, 1, 1}, // the seventh one needs a block of pointers
		{304, 0, 0}, {304, 2, 0}, {304, 3, 8}, // the 39th two
	} {
		for _, full := range []bool{false, true} {
			w := begun(t)
			all := w.multis(t, left, x.fit+1)
			recs := w.tables(t, left, x.has)
			w.fill(t, left, x.left)
			if full {
				w.fill(t, low, 0)
				w.fill(t, right, 0)
				w.fill(t, high, 0)
			}
			recs = append(recs, w.needs(t, left, all[:x.fit])...)
			w.refuses(t, left, all[x.fit], api.ErrSpace)
			w.has(t, left, recs...)
		}
	}
}

// P6, P10.2: where no block is left an empty place needs none, be it made by Drop or by Reap; a block that a directory had is had again.
func TestBlocksLeft(t *testing.T) {
	w := begun(t)
	all := w.multis(t, low, 6)
	more := w.multis(t, left, 6)
	recs := w.needs(t, high, append(slices.Clone(all), more[:2]...))
	w.fill(t, high, 0)
	w.refuses(t, high, more[2], api.ErrSpace)
	if e := inst.Drop(w.open(t, high), all[3]); e != api.OK {
		t.Errorf("Drop = %d", e)
	}
	w.commit(t)
	recs[3] = inst.Record{Of: more[2], Own: uint16(w.need(t, high, more[2]))}
	w.has(t, high, recs...)
	w.refuses(t, high, more[3], api.ErrSpace)
	w.end(t, all[5])
	recs[5] = inst.Record{Of: more[3], Own: uint16(w.need(t, high, more[3]))}
	w.has(t, high, recs...)
}

// P10.2: a table that can't be longer: file.Write's error, behind group.Make's; an empty place is had all the same.
func TestBig(t *testing.T) {
	w := begun(t)
	more := w.multi(t, low)
	recs := w.tables(t, left, 2048)
	w.refuses(t, left, more, api.ErrBig)
	recs[2047] = inst.Record{}
	w.lay(t, left, packed(recs))
	recs[2047] = inst.Record{Of: more, Own: uint16(w.need(t, left, more))}
	w.has(t, left, recs...)
	w.crowd(t, left, 0)
	w.refuses(t, left, w.multi(t, low), api.ErrSpace)
}
