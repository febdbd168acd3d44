package inst_test

import (
	"slices"
	"testing"

	"garrison/api"
	"garrison/dir"
	"garrison/file"
	"garrison/inst"
)

// The chapter's example: Need of one twice.
func TestExample(t *testing.T) {
	w := begun(t)
	of := w.multi(t, low)
	g := w.open(t, high)
	a, e := inst.Need(w.x, w.c, g, of)
	if a != 4 || e != api.OK {
		t.Fatalf("Need = %d, %d", a, e)
	}
	was := w.x.Blocks()
	if b, e := inst.Need(w.x, w.c, g, of); b != a || e != api.OK {
		t.Errorf("Need again = %d, %d", b, e)
	}
	if !slices.Equal(w.x.Blocks(), was) {
		t.Error("what is there was put again")
	}
	w.commit(t)
	w.has(t, high, inst.Record{Of: of, Own: 4})
}

// P10.1, P10.2: an empty table has nothing; what only looks puts nothing.
func TestNew(t *testing.T) {
	w := begun(t)
	for lab := range labels {
		g := w.open(t, lab)
		if l, e := inst.List(g); len(l) != 0 || e != api.OK {
			t.Errorf("List = %v, %d", l, e)
		}
		for _, of := range []api.Ino{{}, {Num: 1, Gen: 1}, {Lab: 3, Num: 4, Gen: 1}, {Lab: 255, Num: 65535, Gen: 65535}} {
			if n, e := inst.Find(g, of); n != 0 || e != api.OK {
				t.Errorf("Find(%v) = %d, %d", of, n, e)
			}
			if e := inst.Drop(g, of); e != api.OK {
				t.Errorf("Drop(%v) = %d", of, e)
			}
		}
		if n, e := inst.Reap(w.x, w.c, g); n != 0 || e != api.OK {
			t.Errorf("Reap = %d, %d", n, e)
		}
	}
	if w.x.Len() > 0 {
		t.Error("what only looks put something")
	}
}

// P10.2: each is a new directory with one link and no bytes, the first node that is free; its record stands behind all.
func TestNeedMakes(t *testing.T) {
	w := begun(t)
	all := append(w.multis(t, low, 3), w.multi(t, left))
	var want []inst.Record
	for i, of := range all {
		own := w.need(t, high, of)
		if own != i+4 {
			t.Fatalf("Need(%v) = %d", of, own)
		}
		n, e := w.open(t, high).Node(own)
		if n != (api.Node{Kind: api.KDir, Links: 1, Gen: 1}) || e != api.OK {
			t.Errorf("the own directory = %v, %d", n, e)
		}
		if empty, e := dir.Empty(w.open(t, high), own); !empty || e != api.OK {
			t.Errorf("Empty = %v, %d", empty, e)
		}
		want = append(want, inst.Record{Of: of, Own: uint16(own)})
		w.has(t, high, want...)
		w.uses(t, high, 1, 4+i)
	}
	for i, of := range all {
		if own := w.need(t, high, of); own != i+4 {
			t.Errorf("Need(%v) again = %d", of, own)
		}
	}
	w.has(t, high, want...)
}

// P10.2: the first place that is empty, wherever it is; behind all only if none is.
func TestNeedPlaces(t *testing.T) {
	w := begun(t)
	all := w.multis(t, left, 7)
	recs := w.needs(t, high, all[:5])
	for _, i := range []int{3, 1, 4} {
		if e := inst.Drop(w.open(t, high), all[i]); e != api.OK {
			t.Fatalf("Drop = %d", e)
		}
		w.commit(t)
	}
	w.has(t, high, without(recs, 1, 3, 4)...)
	now := without(recs, 1, 3, 4)
	for _, x := range []struct{ of, at int }{{5, 1}, {1, 3}, {6, 4}, {3, 5}} {
		own := w.need(t, high, all[x.of])
		r := inst.Record{Of: all[x.of], Own: uint16(own)}
		if x.at == len(now) {
			now = append(now, r)
		} else {
			now[x.at] = r
		}
		w.has(t, high, now...)
	}
}

// P10.2: what isn't empty, or of one that is alive, or another's, is answered as it is: nothing is reaped.
func TestNeedFinds(t *testing.T) {
	w := begun(t)
	all := w.multis(t, low, 3)
	recs := w.needs(t, high, all)
	w.enter(t, high, int(recs[1].Own))
	w.end(t, all...)
	for i, of := range all {
		own, e := inst.Need(w.x, w.c, w.open(t, high), of)
		if own != int(recs[i].Own) || e != api.OK {
			t.Errorf("Need(%v) = %d, %d", of, own, e)
		}
	}
	if w.x.Len() > 0 {
		t.Error("what finds put something")
	}
	w.has(t, high, recs...)
}

// P10.2: one that isn't there is made behind a Reap: those that are reaped give it their node and their place.
func TestNeedReaps(t *testing.T) {
	w := begun(t)
	all := w.multis(t, left, 8)
	recs := w.needs(t, high, all[:7])
	w.end(t, all[1], all[2], all[3], all[4], all[5], all[6])
	own := w.need(t, high, all[7])
	if own != int(recs[1].Own) {
		t.Errorf("Need = %d, wanted %d", own, recs[1].Own)
	}
	want := without(recs, 1, 2, 3, 4) // four at most
	want[1] = inst.Record{Of: all[7], Own: uint16(own)}
	w.has(t, high, want...)
	if n, _ := w.open(t, high).Node(own); n != (api.Node{Kind: api.KDir, Links: 1, Gen: 2}) {
		t.Errorf("the own directory = %v", n)
	}
	w.uses(t, high, 1, 3+4)
}

// P10.2: of one of another generation, number or label there is another directory.
func TestNeedOthers(t *testing.T) {
	w := begun(t)
	of := w.multi(t, low)
	side := w.multi(t, left)
	if of.Num != side.Num || of.Gen != side.Gen {
		t.Fatalf("they differ in more than their labels: %v, %v", of, side)
	}
	first := inst.Record{Of: of, Own: uint16(w.need(t, high, of))}
	second := inst.Record{Of: side, Own: uint16(w.need(t, high, side))}
	w.enter(t, high, int(first.Own)) // so that it isn't reaped
	w.end(t, of)
	again := w.multi(t, low)
	if again.Num != of.Num || again.Gen != of.Gen+1 {
		t.Fatalf("they differ in more than their generations: %v, %v", of, again)
	}
	third := inst.Record{Of: again, Own: uint16(w.need(t, high, again))}
	w.has(t, high, first, second, third)
	if first.Own == second.Own || second.Own == third.Own || first.Own == third.Own {
		t.Error("two have one directory")
	}
}

// P10.1: of none that isn't wholly the same; an empty place is none's.
func TestFind(t *testing.T) {
	w := begun(t)
	places := []inst.Record{{}, rec(1, 5, 6, 7), {}, rec(0, 5, 6, 8), rec(1, 5, 7, 9), rec(1, 6, 6, 10), rec(255, 65535, 65535, 65535), {}}
	w.lay(t, high, packed(places))
	w.has(t, high, places...)
	g := w.open(t, high)
	for _, of := range []api.Ino{{}, {Gen: 6}, {Lab: 1}, {Lab: 1, Gen: 6}, {Lab: 1, Num: 5}, {Num: 5}, {Lab: 2, Num: 5, Gen: 6}, {Lab: 0, Num: 5, Gen: 7}, {Lab: 0, Num: 6, Gen: 6}, {Lab: 1, Num: 6, Gen: 5}} {
		if n, e := inst.Find(g, of); n != 0 || e != api.OK {
			t.Errorf("Find(%v) = %d, %d", of, n, e)
		}
		if e := inst.Drop(g, of); e != api.OK {
			t.Errorf("Drop(%v) = %d", of, e)
		}
	}
	if w.x.Len() > 0 {
		t.Error("a Drop of none put something")
	}
}

// P10.1: of several records of one the first is meant.
func TestTwice(t *testing.T) {
	w := begun(t)
	of := w.multi(t, low)
	for range 3 {
		w.make(t, high, api.KDir)
	}
	places := []inst.Record{{Of: of, Own: 5}, {Of: of, Own: 4}, {Of: of, Own: 6}}
	w.lay(t, high, packed(places))
	for i, r := range places {
		if own := w.need(t, high, of); own != int(r.Own) {
			t.Errorf("Need = %d, wanted %d", own, r.Own)
		}
		w.has(t, high, without(places, []int{0, 1, 2}[:i]...)...)
		if e := inst.Drop(w.open(t, high), of); e != api.OK {
			t.Errorf("Drop = %d", e)
		}
		w.commit(t)
		if !w.free(t, high, int(r.Own)) {
			t.Errorf("Drop didn't remove %d", r.Own)
		}
	}
}

// P10.1: a table of very many records: all of them are listed and found, in their order.
func TestLong(t *testing.T) {
	w := begun(t)
	places := make([]inst.Record, 2048) // 16384 bytes
	for i := range places {
		if i%5 != 3 {
			places[i] = rec(uint8(i%7), uint16(i+1), uint16(3*i), uint16(60000-i))
		}
	}
	w.lay(t, left, packed(places))
	w.has(t, left, places...)
}

// P10.1: just a KMulti, of that number, generation and label.
func TestAlive(t *testing.T) {
	w := begun(t)
	of := w.multi(t, left)
	for _, k := range []api.Kind{api.KFile, api.KDir, api.KFifo} {
		if is, e := inst.Alive(w.x, w.c, w.ino(t, left, w.make(t, left, k))); is || e != api.OK {
			t.Errorf("Alive of a node of kind %d = %v, %d", k, is, e)
		}
	}
	g := w.open(t, left)
	p, _ := g.Take()
	link, _ := g.MakeLink(5, int(p))
	w.commit(t)
	if is, e := inst.Alive(w.x, w.c, w.ino(t, left, link)); is || e != api.OK {
		t.Errorf("Alive of a link = %v, %d", is, e)
	}
	if is, e := inst.Alive(w.x, w.c, of); !is || e != api.OK {
		t.Errorf("Alive(%v) = %v, %d", of, is, e)
	}
	for _, no := range []api.Ino{
		{}, {Lab: of.Lab}, {Lab: of.Lab, Gen: of.Gen}, {Lab: of.Lab, Num: 1, Gen: 1}, {Lab: of.Lab, Num: 2, Gen: 1}, {Lab: of.Lab, Num: 3, Gen: 1},
		{Lab: of.Lab, Num: of.Num}, {Lab: of.Lab, Num: of.Num, Gen: of.Gen + 1}, {Lab: of.Lab, Num: of.Num, Gen: of.Gen + 256},
		{Lab: low, Num: of.Num, Gen: of.Gen}, {Lab: high, Num: of.Num, Gen: of.Gen}, {Lab: of.Lab, Num: of.Num + 1, Gen: of.Gen}, {Lab: of.Lab, Num: of.Num + 256, Gen: of.Gen},
		{Lab: of.Lab, Num: 128}, {Lab: of.Lab, Num: 129}, {Lab: of.Lab, Num: 65535, Gen: 65535}, {Lab: low, Num: 11}, {Lab: low, Num: 128},
	} {
		if is, e := inst.Alive(w.x, w.c, no); is || e != api.OK {
			t.Errorf("Alive(%v) = %v, %d", no, is, e)
		}
	}
	if w.x.Len() > 0 {
		t.Error("Alive put something")
	}
}

// P10.1: the last node of each label.
func TestAliveLast(t *testing.T) {
	w := begun(t)
	for lab, last := range []uint16{10, 128, 16, 16} {
		w.set(t, lab, int(last), api.Node{Kind: api.KMulti, Links: 1, Gen: 3})
		for num, want := range map[uint16]bool{last - 1: false, last: true, last + 1: false} {
			if is, e := inst.Alive(w.x, w.c, api.Ino{Lab: uint8(lab), Num: num, Gen: 3}); is != want || e != api.OK {
				t.Errorf("Alive of node %d of %d = %v, %d", num, lab, is, e)
			}
		}
	}
}

// P10.1: a node that ends isn't alive, and the next one in its place is another; what the transaction says holds.
func TestAliveEnds(t *testing.T) {
	w := begun(t)
	of := w.multi(t, low)
	g := w.open(t, low)
	g.Wipe(int(of.Num))
	if is, e := inst.Alive(w.x, w.c, of); is || e != api.OK {
		t.Errorf("Alive behind Wipe = %v, %d", is, e)
	}
	w.x.Drop()
	if is, e := inst.Alive(w.x, w.c, of); !is || e != api.OK {
		t.Errorf("Alive behind Drop = %v, %d", is, e)
	}
	w.end(t, of)
	again := w.multi(t, low)
	for x, want := range map[api.Ino]bool{of: false, again: true} {
		if is, e := inst.Alive(w.x, w.c, x); is != want || e != api.OK {
			t.Errorf("Alive(%v) = %v, %d", x, is, e)
		}
	}
	last := api.Node{Kind: api.KMulti, Links: 1, Gen: 65535}
	w.set(t, low, int(of.Num), last)
	for gen, want := range map[uint16]bool{65535: true, 65534: false, 0: false, 255: false} {
		if is, e := inst.Alive(w.x, w.c, api.Ino{Num: of.Num, Gen: gen}); is != want || e != api.OK {
			t.Errorf("Alive of generation %d = %v, %d", gen, is, e)
		}
	}
}

// P10.2: the directory is removed with all its blocks, the record is empty, others stay; it is no matter whether the node is there.
func TestDrop(t *testing.T) {
	for _, there := range []bool{true, false} {
		w := begun(t)
		all := w.multis(t, low, 3)
		recs := w.needs(t, high, all)
		own := int(recs[1].Own)
		if e := file.Write(w.open(t, high), own, 0, make([]byte, 800)); e != api.OK { // empty places
			t.Fatalf("Write = %d", e)
		}
		w.commit(t)
		w.uses(t, high, 1+13+1, 6)
		if !there {
			w.end(t, all[1])
		}
		if e := inst.Drop(w.open(t, high), all[1]); e != api.OK {
			t.Errorf("Drop = %d", e)
		}
		w.commit(t)
		w.has(t, high, without(recs, 1)...)
		w.uses(t, high, 1, 5)
		if n, _ := w.open(t, high).Node(own); n != (api.Node{Gen: 1}) {
			t.Errorf("the node = %v", n)
		}
		if e := inst.Drop(w.open(t, high), all[1]); e != api.OK || w.x.Len() > 0 {
			t.Errorf("Drop again = %d, %d blocks are put", e, w.x.Len())
		}
	}
}

// P10.2: one that isn't empty stays; behind its last name it goes.
func TestDropNotEmpty(t *testing.T) {
	w := begun(t)
	all := w.multis(t, low, 2)
	recs := w.needs(t, high, all)
	w.enter(t, high, int(recs[1].Own))
	for range 2 {
		if e := inst.Drop(w.open(t, high), all[1]); e != api.ErrNotEmpty || w.x.Len() > 0 {
			t.Errorf("Drop = %d, %d blocks are put", e, w.x.Len())
		}
	}
	w.has(t, high, recs...)
	w.leave(t, high, int(recs[1].Own))
	if e := inst.Drop(w.open(t, high), all[1]); e != api.OK {
		t.Errorf("Drop = %d", e)
	}
	w.commit(t)
	w.has(t, high, without(recs, 1)...)
}

// P10.2: the table isn't cut when its last records are empty.
func TestDropAll(t *testing.T) {
	w := begun(t)
	all := w.multis(t, left, 12)
	recs := w.needs(t, high, all)
	w.uses(t, high, 2, 15)
	for _, of := range all {
		if e := inst.Drop(w.open(t, high), of); e != api.OK {
			t.Errorf("Drop = %d", e)
		}
		w.commit(t)
	}
	w.has(t, high, make([]inst.Record, len(recs))...)
	w.uses(t, high, 2, 3)
}
