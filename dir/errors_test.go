package dir_test

import (
	"math/rand"
	"slices"
	"testing"

	"garrison/api"
	"garrison/dir"
	"garrison/group"
	"garrison/node"
	"garrison/wal"
)

// P9.2: the group's errors of the node, then a free one, then of another kind: ahead of all others, of names and numbers that aren't right too.
func TestNodeErrors(t *testing.T) {
	base := noisy(t)
	place := packed([]api.Entry{{Name: "a", Num: 5}})
	base.node(t, high, api.KFile, place) // 1, of bytes that a directory might have
	base.node(t, high, api.KFile, nil)
	base.node(t, high, api.KMulti, nil)
	base.node(t, high, api.KFifo, nil)
	g := base.open(t, high)
	p, _ := g.Take()
	if num, e := g.MakeLink(16, int(p)); num != 5 || e != api.OK { // the same bytes
		t.Fatalf("MakeLink = %d, %d", num, e)
	}
	g.Put(p, api.Block(append(slices.Clone(place), make([]byte, 48)...)))
	base.commit(t)
	bs := base.d.Image()
	geo, _ := base.c.Geo(high)
	at := func(num int) []byte { return bs[geo.Base+geo.Bitmap+(num-1)/2][(num-1)%2*32:] }
	at(7)[0] = 6 // of no kind
	copy(at(8), []byte{2, 1, 1, 0, 15})
	copy(at(9), []byte{2, 1, 1, 0, 0, 65}) // too long
	copy(at(10), []byte{2, 0})
	w := onto(t, bs)
	g = w.open(t, high)
	for num := 1; num <= 5; num++ {
		allAnswer(t, g, num, api.ErrNotDir)
	}
	allAnswer(t, g, 6, api.ErrStale)
	allAnswer(t, g, 16, api.ErrStale)
	for num := 7; num <= 10; num++ {
		allAnswer(t, g, num, api.ErrForm)
	}
	for _, num := range append(oddInts(), 0, 17) {
		allAnswer(t, g, num, api.ErrRange)
	}
	if w.x.Len() > 0 {
		t.Error("what failed put something")
	}
}

// wrongPlaces: sixteen bytes each that are neither an entry nor empty.
func wrongPlaces() [][16]byte {
	return [][16]byte{
		{1}, {0, 1}, {255, 255}, {2: 'a'}, {15: 'a'}, {15: 1}, {1, 0, '.'}, {1, 0, '.', '.'}, {1, 0, 'a', '/'}, {1, 0, '@'}, {1, 0, ' '}, {1, 0, 'a', ' '},
		{1, 0, 127}, {1, 0, 200}, {1, 0, 'a', 0, 'b'}, {1, 0, 0, 'b'}, {0: 1, 2: 'a', 15: 'b'},
	}
}

// P9.2: ErrForm, whichever place isn't right, ahead of or behind the one that is asked for; ahead of each call's own errors; nothing is put.
func TestPlaceErrors(t *testing.T) {
	for _, wrong := range wrongPlaces() {
		for _, at := range []int{0, 1, 3, 4, 5, 30} {
			b := packed(some("a bcd efghijklmopqrstuvwxyzABCD"))
			copy(b[16*at:], wrong[:])
			w := noisy(t)
			num := w.node(t, high, api.KDir, b)
			g := w.open(t, high)
			allAnswer(t, g, num, api.ErrForm)
			if w.x.Len() > 0 {
				t.Error("what failed put something")
			}
		}
	}
	w := noisy(t) // a place of which just the last isn't, in the longest directory
	b := packed(names(most))
	b[16384-16] = 0
	b[16384-15] = 0
	num := w.node(t, mid, api.KDir, b)
	allAnswer(t, w.open(t, mid), num, api.ErrForm)
}

// P9.2: a block that lacks is the group's error: ahead of a place that isn't right, wherever that is.
func TestLacks(t *testing.T) {
	for _, lack := range []func(n *api.Node){
		func(n *api.Node) { n.Direct[0] = 0 }, func(n *api.Node) { n.Direct[5] = 0 }, func(n *api.Node) { n.Direct[1] = 61 }, func(n *api.Node) { n.Direct[3] = 65535 },
		func(n *api.Node) { n.Single = 0 }, func(n *api.Node) { n.Single = 300 },
	} {
		for _, wrong := range []int{-1, 0, 27} {
			b := packed(some("abcdefghijklmnopqrstuvwxyzAB"))
			if wrong >= 0 {
				b[16*wrong] = 0
			}
			w := noisy(t)
			num := w.node(t, high, api.KDir, b)
			g := w.open(t, high)
			n := nodeOf(t, g, num)
			lack(&n)
			if e := g.Set(num, n); e != api.OK {
				t.Fatalf("Set = %d", e)
			}
			w.commit(t)
			allAnswer(t, g, num, api.ErrRange)
			if w.x.Len() > 0 {
				t.Error("what failed put something")
			}
		}
	}
}

// P9.2: the transaction's errors: a call that has to put one block too many says so; one that only looks, or puts what is put already, doesn't.
func TestMany(t *testing.T) {
	w := noisy(t)
	num := w.dir(t, mid, some("abcdefgh")...)
	other := w.dir(t, mid, some("abc")...)
	g := w.open(t, mid)
	if e := dir.Turn(g, num, api.Entry{Name: "a", Num: 9}); e != api.OK || w.x.Len() != 1 { // its block alone
		t.Fatalf("Turn = %d, of %d blocks", e, w.x.Len())
	}
	for p := uint16(100); w.x.Len() < 30; p++ {
		g.Put(p, api.Block{1})
	}
	want := some("abcdefgh")
	want[0].Num = 9
	holds(t, g, num, want)
	if e := dir.Turn(g, num, api.Entry{Name: "d", Num: 9}); e != api.OK {
		t.Errorf("Turn in what is put = %d", e)
	}
	if e := dir.Drop(g, num, "b"); e != api.OK {
		t.Errorf("Drop in what is put = %d", e)
	}
	if e := dir.Add(g, num, api.Entry{Name: "z", Num: 3}); e != api.OK {
		t.Errorf("Add in what is put = %d", e)
	}
	want[3].Num, want[1] = 9, api.Entry{Name: "z", Num: 3}
	holds(t, g, num, want)
	for _, x := range []struct {
		name string
		e    api.Errno
	}{
		{"Turn", dir.Turn(g, num, api.Entry{Name: "e", Num: 9})},
		{"Drop", dir.Drop(g, num, "e")},
		{"Drop of the last", dir.Drop(g, num, "h")},
		{"Add", dir.Add(g, num, api.Entry{Name: "y", Num: 9})},
		{"Add in a block", dir.Add(g, other, api.Entry{Name: "y", Num: 9})},
	} {
		if x.e != api.ErrMany {
			t.Errorf("%s = %d", x.name, x.e)
		}
	}
	if e := w.x.Commit(); e != api.ErrMany {
		t.Errorf("Commit = %d", e)
	}
	w.x.Drop()
	holds(t, g, num, some("abcdefgh"))
	holds(t, g, other, some("abc"))
}

// P9.2: a transaction has room for few blocks: nothing is put of a block that is given, and of others just those that become others.
func TestPuts(t *testing.T) {
	for _, x := range []struct {
		places string
		do     func(g *group.Group, num int) api.Errno
		puts   int
	}{
		{"abcde", func(g *group.Group, num int) api.Errno { return dir.Drop(g, num, "e") }, 2},         // the bits, the table
		{"abcd   e", func(g *group.Group, num int) api.Errno { return dir.Drop(g, num, "e") }, 2},      // likewise
		{"abcdef", func(g *group.Group, num int) api.Errno { return dir.Drop(g, num, "f") }, 2},        // its block, the table
		{"abcdef", func(g *group.Group, num int) api.Errno { return dir.Drop(g, num, "a") }, 1},        // its block
		{"abcdef  ", func(g *group.Group, num int) api.Errno { return dir.Drop(g, num, "a") }, 3},      // its block, the last one, the table
		{"abcd f", func(g *group.Group, num int) api.Errno { return dir.Add(g, num, entry("z")) }, 1},  // its block
		{"abcdef", func(g *group.Group, num int) api.Errno { return dir.Add(g, num, entry("z")) }, 2},  // its block, the table
		{"abcd", func(g *group.Group, num int) api.Errno { return dir.Add(g, num, entry("z")) }, 3},    // a new block, the bits, the table
		{"abcdef", func(g *group.Group, num int) api.Errno { return dir.Turn(g, num, entry("a")) }, 1}, // its block
	} {
		w := noisy(t)
		num := w.dir(t, mid, some(x.places)...)
		if e := x.do(w.open(t, mid), num); e != api.OK || w.x.Len() != x.puts {
			t.Errorf("of %q: %d, and %v are put, wanted %d of them", x.places, e, w.x.Blocks(), x.puts)
		}
	}
}

// entry: of a name, and of some node.
func entry(name string) api.Entry { return api.Entry{Name: name, Num: 300} }

// P1, R7: nil, what nobody opened, a transaction that nobody began, and a disk that ends too soon, at all numbers.
func TestNil(t *testing.T) {
	w := noisy(t)
	dead, _ := group.Open(new(wal.Txn), w.c, high)
	geo, _ := w.c.Geo(high)
	short := onto(t, w.d.Image()[:geo.Base])
	for _, num := range append(oddInts(), 0, 1, 2, 16, 17) {
		one, other := api.ErrNil, api.ErrRange
		if num < 1 || num > 16 {
			one = api.ErrRange
		}
		allAnswer(t, nil, num, api.ErrNil)
		allAnswer(t, new(group.Group), num, other)
		allAnswer(t, dead, num, one)
		allAnswer(t, short.open(t, high), num, other)
	}
}

// wild: a table and data blocks as they may never be, but that the nodes can be read; here and there places are.
func wild(t *testing.T, r *rand.Rand) world {
	t.Helper()
	w := noisy(t)
	bs := w.d.Image()
	geo, _ := w.c.Geo(high)
	r.Read(bs[geo.Base][:])
	some := func() uint16 {
		return []uint16{0, 1, 2, uint16(r.Intn(62)), uint16(r.Intn(62)), uint16(r.Intn(62)), 65535}[r.Intn(7)]
	}
	for i := range geo.Blocks {
		b := &bs[geo.Data+i]
		*b = api.Block{}
		for j := range 4 {
			switch r.Intn(12) {
			case 0:
				r.Read(b[16*j : 16*j+16])
			case 1, 2, 3:
			default:
				x := bytesOf(api.Entry{Name: string(rune('a' + r.Intn(5))), Num: some()})
				copy(b[16*j:], x[:])
			}
		}
	}
	for num := 1; num <= geo.Nodes; num++ {
		n := api.Node{Kind: api.KDir, Links: 1, Size: uint32(r.Intn(30)) * 16, Single: some(), Double: some()}
		if r.Intn(9) == 0 {
			n.Kind = api.KFile
		}
		for i := range n.Direct {
			n.Direct[i] = some()
		}
		b := node.Encode(n)
		copy(bs[geo.Base+1+(num-1)/2][(num-1)%2*32:], b[:])
	}
	return onto(t, bs)
}

// P1, R3: on disks that aren't right every call ends, none panics, and beside an error there is nothing.
func TestWild(t *testing.T) {
	r := rand.New(rand.NewSource(93))
	seen := map[api.Errno]int{}
	for range 200 {
		w := wild(t, r)
		for num := 1; num <= 16; num++ {
			g := w.open(t, high)
			for _, c := range calls(string(rune('a' + r.Intn(5)))) {
				e, nothing := c.do(g, num)
				if e != api.OK && !nothing {
					t.Fatalf("%q of %d = %d, and something", c.name, num, e)
				}
				seen[e]++
			}
			w.x.Drop()
		}
	}
	for _, e := range []api.Errno{api.OK, api.ErrNone, api.ErrExists, api.ErrNotDir, api.ErrInvalid, api.ErrLong, api.ErrRange, api.ErrForm} {
		if seen[e] < 100 {
			t.Errorf("the disks are one-sided: %v", seen)
		}
	}
}

// P2, R6: a list is its caller's; nothing of what was handed in is kept.
func TestAnswersAreNew(t *testing.T) {
	w := noisy(t)
	num := w.dir(t, high, some("ab cdef")...)
	g := w.open(t, high)
	a, _ := dir.List(g, num)
	b, _ := dir.List(g, num)
	for i := range a {
		a[i] = api.Entry{Name: "x", Num: 99}
	}
	a = append(a, api.Entry{Name: "y", Num: 99})
	if !slices.Equal(b, entries(some("ab cdef"))) || len(a) != 7 {
		t.Errorf("two lists share: %v", b)
	}
	holds(t, g, num, some("ab cdef"))
}

// P2, R8: nothing is kept but in the transaction: another hand sees what one does; another transaction doesn't, till Commit; behind Drop all is as it was.
func TestKeepsNothing(t *testing.T) {
	w := noisy(t)
	num := w.dir(t, high, some("abc")...)
	a, b := w.open(t, high), w.open(t, high)
	other, _ := group.Open(w.l.Begin(), w.c, high)
	if e := dir.Drop(a, num, "b"); e != api.OK {
		t.Fatalf("Drop = %d", e)
	}
	holds(t, b, num, some("a c"))
	holds(t, other, num, some("abc"))
	if e := dir.Drop(b, num, "c"); e != api.OK {
		t.Fatalf("Drop = %d", e)
	}
	holds(t, a, num, some("a"))
	w.x.Drop()
	holds(t, a, num, some("abc"))
	if e := dir.Drop(a, num, "a"); e != api.OK {
		t.Fatalf("Drop = %d", e)
	}
	w.commit(t)
	holds(t, other, num, some(" bc"))
	w.d.Arm(0)
	if e := dir.Add(a, num, api.Entry{Name: "d", Num: 4}); e != api.OK || w.x.Commit() != api.ErrDead {
		t.Errorf("Add on a disk that lets none through = %d, or Commit isn't %d", e, api.ErrDead)
	}
	w.x.Drop()
	holds(t, a, num, some(" bc")) // one that has stopped can be read
}

// P5: wherever the disk stops while a change is committed, the directory is as ahead of it, or as behind it.
func TestStops(t *testing.T) {
	base := noisy(t)
	before := some("abcdefghijklmopqrstuvwxy")
	num := base.dir(t, mid, before...)
	short := slices.Clone(before)
	short[2] = api.Entry{}
	turned := slices.Clone(before)
	turned[23].Num = 500
	for _, change := range []struct {
		do  func(g *group.Group) api.Errno
		now []api.Entry
	}{
		{func(g *group.Group) api.Errno { return dir.Add(g, num, api.Entry{Name: "z", Num: 25}) }, some("abcdefghijklmopqrstuvwxyz")}, // a block of pointers, too
		{func(g *group.Group) api.Errno { return dir.Drop(g, num, "c") }, short},
		{func(g *group.Group) api.Errno { return dir.Drop(g, num, "y") }, before[:23]},
		{func(g *group.Group) api.Errno { return dir.Turn(g, num, api.Entry{Name: "y", Num: 500}) }, turned},
	} {
		done := false
		for writes := 0; !done; writes++ {
			w := onto(t, base.d.Image())
			if e := change.do(w.open(t, mid)); e != api.OK {
				t.Fatalf("the change = %d", e)
			}
			w.d.Arm(writes)
			done = w.x.Commit() == api.OK
			w.d.Wake()
			n, e := w.l.Recover()
			if e != api.OK {
				t.Fatalf("Recover = %d", e)
			}
			w.x = w.l.Begin()
			want := before
			if n > 0 || done { // the log's head was written: it is done
				want = change.now
			}
			holds(t, w.open(t, mid), num, want)
		}
	}
}
