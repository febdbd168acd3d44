package walk_test

import (
	"math"
	"slices"
	"strings"
	"testing"

	"garrison/api"
	"garrison/conf"
	"garrison/inst"
	"garrison/wal"
	"garrison/walk"
)

// oddLabels: numbers that no label has.
func oddLabels() []int {
	return []int{-1, labels, labels + 1, 64, 255, 256, 256 + low, 1 << 32, -1 << 32, math.MinInt, math.MaxInt}
}

// P12.1, R6: the root alone, each time in memory of its own.
func TestStart(t *testing.T) {
	a, b := walk.Start(), walk.Start()
	if !slices.Equal(a, []api.Ino{{}}) || !slices.Equal(b, a) {
		t.Errorf("Start = %v, %v", a, b)
	}
	a[0] = api.Ino{Lab: 1, Num: 2, Gen: 3}
	_ = append(a, a[0])
	if c := walk.Start(); !slices.Equal(b, []api.Ino{{}}) || !slices.Equal(c, b) {
		t.Errorf("Start = %v, then %v, though another one was written into", b, c)
	}
}

// P12.1: each label's group; of what is no label chapter 7's error.
func TestGroup(t *testing.T) {
	w := begun(t)
	for lab := range labels {
		if g, e := w.view().Group(lab); e != api.OK || g == nil || g.Lab() != lab {
			t.Errorf("Group(%d) = %v, %d", lab, g, e)
		}
	}
	num, e := w.open(t, left).Make(api.KFile)
	g, _ := w.view().Group(left)
	if n, err := g.Node(num); e != api.OK || err != api.OK || n.Kind != api.KFile {
		t.Errorf("Group has not what the transaction has: %v, %d", n, err)
	}
	for _, lab := range oddLabels() {
		if g, e := w.view().Group(lab); e != api.ErrRange || g != nil {
			t.Errorf("Group(%d) = %v, %d", lab, g, e)
		}
	}
}

// P12.1: the root is no table's; all others are as their groups have them.
func TestNode(t *testing.T) {
	w := begun(t)
	v := w.view()
	if n, e := v.Node(root); e != api.OK || n != (api.Node{Kind: api.KMulti, Links: 1}) {
		t.Errorf("Node of the root = %v, %d", n, e)
	}
	for lab := range labels {
		for _, k := range []api.Kind{api.KFile, api.KDir, api.KMulti, api.KFifo} {
			w.make(t, lab, k)
		}
		w.linked(t, lab, "x")
	}
	for i, x := range w.things {
		if i == root {
			continue
		}
		want, _ := w.open(t, int(i.Lab)).Node(int(i.Num))
		if n, e := v.Node(i); e != api.OK || n != want || n.Kind != x.kind {
			t.Errorf("Node(%v) = %v, %d, wanted %v", i, n, e, want)
		}
	}
}

// P12.1: another generation, a free node, one that was made anew in its place.
func TestNodeStale(t *testing.T) {
	w := begun(t)
	v := w.view()
	stale := func(i api.Ino) {
		t.Helper()
		if n, e := v.Node(i); e != api.ErrStale || n != (api.Node{}) {
			t.Errorf("Node(%v) = %v, %d", i, n, e)
		}
	}
	for lab := range labels {
		i := w.make(t, lab, api.KDir)
		for _, gen := range []uint16{0, i.Gen - 1, i.Gen + 1, i.Gen + 256, 65535} {
			stale(api.Ino{Lab: i.Lab, Num: i.Num, Gen: gen})
		}
		w.end(t, i)
		for _, gen := range []uint16{0, i.Gen, i.Gen + 1} {
			stale(api.Ino{Lab: i.Lab, Num: i.Num, Gen: gen})
		}
		stale(api.Ino{Lab: i.Lab, Num: 60})
		next := w.make(t, lab, api.KFile)
		if next.Num != i.Num {
			t.Fatalf("%v is not in the place of %v", next, i)
		}
		stale(i)
		if n, e := v.Node(next); e != api.OK || n.Kind != api.KFile {
			t.Errorf("Node(%v) = %v, %d", next, n, e)
		}
	}
}

// P12.1: the group's errors: no such label, no such node, a node that isn't right.
func TestNodeErrors(t *testing.T) {
	w := begun(t)
	for _, i := range []api.Ino{{Gen: 1}, {Lab: 1}, {Lab: high, Gen: 7}, {Num: 61}, {Num: 65535, Gen: 65535}, {Lab: labels}, {Lab: labels, Num: 1, Gen: 1}, {Lab: 255, Num: 1, Gen: 1}} {
		if n, e := w.view().Node(i); e != api.ErrRange || n != (api.Node{}) {
			t.Errorf("Node(%v) = %v, %d", i, n, e)
		}
		if s, e := w.view().Target(i); e != api.ErrRange || s != "" {
			t.Errorf("Target(%v) = %q, %d", i, s, e)
		}
	}
	i := w.make(t, left, api.KFile)
	for _, n := range []api.Node{{Kind: 6, Links: 1, Gen: 1}, {Kind: api.KFile, Gen: 1}, {Kind: api.KFile, Gen: 2}, {Links: 1}} {
		w.set(t, i, n)
		if n, e := w.view().Node(i); e != api.ErrForm || n != (api.Node{}) {
			t.Errorf("Node(%v) = %v, %d", i, n, e)
		}
	}
}

// P12.1: of the root each label's node 1; of others what the label's table says.
func TestOwn(t *testing.T) {
	w := begun(t)
	m, other := w.make(t, low, api.KMulti), w.make(t, left, api.KMulti)
	own := map[api.Ino]map[int]api.Ino{root: {}, m: {low: {}, left: {}, right: {}, high: {}}, other: {}}
	for lab := range labels {
		own[root][lab] = api.Ino{Lab: uint8(lab), Num: 1, Gen: 1}
	}
	holds := func() {
		t.Helper()
		for of, by := range own {
			for lab := range labels {
				want := by[lab]
				if i, ok, e := w.view().Own(of, lab); i != want || ok != (want != root) || e != api.OK {
					t.Errorf("Own(%v, %d) = %v, %v, %d, wanted %v", of, lab, i, ok, e, want)
				}
			}
		}
	}
	holds()
	for _, lab := range []int{high, low, right} {
		own[m][lab] = w.need(t, lab, m)
		holds()
	}
	own[other][high] = w.need(t, high, other)
	holds()
	if e := inst.Drop(w.open(t, high), m); e != api.OK {
		t.Fatalf("Drop = %d", e)
	}
	delete(own[m], high)
	holds()
	for _, of := range []api.Ino{{Gen: 1}, {Lab: 1}, {Lab: m.Lab, Num: m.Num, Gen: m.Gen + 1}, {Lab: high, Num: m.Num, Gen: m.Gen}, w.own(low), {Lab: 255, Num: 65535, Gen: 65535}} {
		for lab := range labels {
			if i, ok, e := w.view().Own(of, lab); i != root || ok || e != api.OK {
				t.Errorf("Own(%v, %d) = %v, %v, %d", of, lab, i, ok, e)
			}
		}
	}
}

// P12.1: a new own directory in the place of an old one is of its own generation.
func TestOwnAnew(t *testing.T) {
	w := begun(t)
	m := w.make(t, low, api.KMulti)
	was := w.need(t, high, m)
	if e := inst.Drop(w.open(t, high), m); e != api.OK {
		t.Fatalf("Drop = %d", e)
	}
	w.commit(t)
	now := w.need(t, high, m)
	if i, ok, e := w.view().Own(m, high); i != now || !ok || e != api.OK || now.Gen != was.Gen+1 {
		t.Errorf("Own = %v, %v, %d, wanted %v", i, ok, e, now)
	}
}

// P12.1: no such label; a table that isn't right; a group without its own nodes. Another label's is not asked.
func TestOwnErrors(t *testing.T) {
	w := begun(t)
	m := w.make(t, low, api.KMulti)
	own := w.need(t, high, m)
	fails := func(of api.Ino, lab int, want api.Errno) {
		t.Helper()
		if i, ok, e := w.view().Own(of, lab); i != root || ok || e != want {
			t.Errorf("Own(%v, %d) = %v, %v, %d, wanted %d", of, lab, i, ok, e, want)
		}
	}
	for _, lab := range oddLabels() {
		fails(root, lab, api.ErrRange)
		fails(m, lab, api.ErrRange)
	}
	w.lay(t, left, inst.Table, []byte{1, 2, 3})
	fails(m, left, api.ErrForm)
	w.set(t, api.Ino{Lab: right, Num: inst.Table}, api.Node{})
	fails(m, right, api.ErrStale)
	for _, lab := range []int{left, right} { // the root's needs no table
		if i, ok, e := w.view().Own(root, lab); i != w.own(lab) || !ok || e != api.OK {
			t.Errorf("Own of the root, %d = %v, %v, %d", lab, i, ok, e)
		}
	}
	w.set(t, w.own(right), api.Node{Kind: 99})
	fails(root, right, api.ErrForm)
	if i, ok, e := w.view().Own(m, high); i != own || !ok || e != api.OK {
		t.Errorf("Own of high = %v, %v, %d, wanted %v", i, ok, e, own)
	}
	w.set(t, own, api.Node{Gen: own.Gen})
	fails(m, high, api.ErrNone)
	w.set(t, w.own(high), api.Node{})
	fails(root, high, api.ErrNone)
}

// P12.1: a link's bytes, whatever they are, of each length.
func TestTarget(t *testing.T) {
	w := begun(t)
	for n := 1; n <= api.MaxTarget; n++ {
		lab := n % labels
		for _, s := range []string{strings.Repeat("a", n), strings.Repeat("\x00", n), strings.Repeat("/@", n)[:n], strings.Repeat("ä\xff ", n)[:n]} {
			i := w.linked(t, lab, s)
			if got, e := w.view().Target(i); e != api.OK || got != s {
				t.Errorf("Target(%v) = %q, %d, wanted %q", i, got, e, s)
			}
			w.end(t, i)
			if got, e := w.view().Target(i); e != api.ErrStale || got != "" {
				t.Errorf("Target of one that is gone = %q, %d", got, e)
			}
		}
	}
}

// P12.1: what is no link; a link of another generation, which is told ahead; a link whose block lacks.
func TestTargetErrors(t *testing.T) {
	w := begun(t)
	fails := func(i api.Ino, want api.Errno) {
		t.Helper()
		if s, e := w.view().Target(i); e != want || s != "" {
			t.Errorf("Target(%v) = %q, %d, wanted %d", i, s, e, want)
		}
	}
	fails(root, api.ErrInvalid)
	for _, k := range []api.Kind{api.KFile, api.KDir, api.KMulti, api.KFifo} {
		i := w.make(t, right, k)
		fails(i, api.ErrInvalid)
		i.Gen++
		fails(i, api.ErrStale)
	}
	l := w.linked(t, right, "abc")
	fails(api.Ino{Lab: l.Lab, Num: l.Num, Gen: l.Gen + 1}, api.ErrStale)
	fails(api.Ino{Lab: l.Lab, Num: 61, Gen: l.Gen}, api.ErrRange)
	for _, block := range []uint16{0, 201, 65535} {
		w.set(t, l, api.Node{Kind: api.KLink, Links: 1, Gen: l.Gen, Size: 3, Direct: [6]uint16{block}})
		fails(l, api.ErrRange)
	}
}

// P12.1: as many bytes as the node says, not all that its block has.
func TestTargetLength(t *testing.T) {
	w := begun(t)
	l := w.linked(t, high, "abcdef")
	n, _ := w.view().Node(l)
	for size := uint32(1); size <= 6; size++ {
		n.Size = size
		w.set(t, l, n)
		if s, e := w.view().Target(l); e != api.OK || s != "abcdef"[:size] {
			t.Errorf("Target of %d bytes = %q, %d", size, s, e)
		}
	}
}

// allNil: does each call of a view answer ErrNil, and nothing beside it? Of the root a Node needs no files.
func allNil(t *testing.T, v *walk.View) {
	t.Helper()
	for _, i := range []api.Ino{root, {Num: 1, Gen: 1}, {Lab: 255, Num: 65535}} {
		if n, e := v.Node(i); (v == nil || i != root) && (e != api.ErrNil || n != (api.Node{})) {
			t.Errorf("Node(%v) = %v, %d", i, n, e)
		}
		if s, e := v.Target(i); (v == nil || i != root) && (e != api.ErrNil || s != "") {
			t.Errorf("Target(%v) = %q, %d", i, s, e)
		}
		for _, lab := range append(oddLabels(), low, high) {
			if i, ok, e := v.Own(i, lab); e != api.ErrNil || ok || i != root {
				t.Errorf("Own = %v, %v, %d", i, ok, e)
			}
			if g, e := v.Group(lab); e != api.ErrNil || g != nil {
				t.Errorf("Group = %v, %d", g, e)
			}
		}
	}
	for _, s := range []string{"/", ".", "a", "/a@low/b", "", "a b", strings.Repeat("a", 121), "@none"} {
		for _, from := range [][]api.Ino{nil, {}, walk.Start(), {{Lab: 9, Num: 9}}} {
			for _, subject := range append(oddLabels(), low, high) {
				if f, e := v.Walk(subject, from, s, true); e != api.ErrNil || !same(f, walk.Found{}) {
					t.Errorf("Walk(%q) = %v, %d", s, f, e)
				}
				if l, e := v.Dir(subject, from, s); e != api.ErrNil || len(l) > 0 {
					t.Errorf("Dir(%q) = %v, %d", s, l, e)
				}
			}
		}
	}
}

// P2, R7: a nil view; P12.2: one without a transaction, or without a configuration, ahead of all else.
func TestNil(t *testing.T) {
	w := begun(t)
	allNil(t, nil)
	allNil(t, &walk.View{})
	allNil(t, &walk.View{T: w.x})
	allNil(t, &walk.View{C: w.c})
	if w.x.Len() > 0 {
		t.Error("a view that isn't whole put something")
	}
}

// P12.1: what the root is hangs on no files.
func TestRootWithoutFiles(t *testing.T) {
	w := begun(t)
	for _, v := range []*walk.View{{}, {T: w.x}, {C: w.c}} {
		if n, e := v.Node(root); e != api.OK || n != (api.Node{Kind: api.KMulti, Links: 1}) {
			t.Errorf("Node of the root = %v, %d", n, e)
		}
		if s, e := v.Target(root); e != api.ErrInvalid || s != "" {
			t.Errorf("Target of the root = %q, %d", s, e)
		}
	}
}

// P1: objects that were not made by their calls.
func TestZeroObjects(t *testing.T) {
	w := begun(t)
	for _, v := range []*walk.View{{T: &wal.Txn{}, C: w.c}, {T: w.x, C: &conf.Conf{}}, {T: &wal.Txn{}, C: &conf.Conf{}}} {
		for _, s := range []string{"/a", "/@low", "a/../b", "/."} {
			v.Walk(low, nil, s, true)
			v.Dir(low, stack(w.own(low)), s)
		}
		if _, e := v.Walk(low, nil, "/a", true); e == api.OK {
			t.Error("Walk of no files = OK")
		}
		v.Node(w.own(low))
		v.Own(root, low)
		v.Own(w.own(low), low)
		v.Target(w.own(low))
		v.Group(low)
	}
}
