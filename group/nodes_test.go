package group_test

import (
	"math"
	"slices"
	"testing"

	"garrison/api"
	"garrison/node"
)

// file: a node that is right, of a number of its own.
func file(n int) api.Node {
	return api.Node{Kind: api.KFile, Links: 1, Gen: uint16(n), Size: uint32(n % 16384), Direct: [6]uint16{uint16(n), 1}, Single: 3, Double: uint16(n)}
}

// put: a node comes among a disk's blocks.
func (l lay) put(bs []api.Block, num int, n api.Node) {
	b := node.Encode(n)
	copy(bs[l.table+(num-1)/2][(num-1)%2*32:], b[:])
}

// noNode: numbers that none of so many nodes has.
func noNode(nodes int) []int {
	return append(oddInts(), 0, nodes+1, nodes+2, nodes+256, nodes+65536, nodes+1<<32, 1+65536, 1+1<<32)
}

// kinds: those that Make may be asked for.
func kinds() []api.Kind { return []api.Kind{api.KFile, api.KDir, api.KMulti, api.KFifo} }

// P7.2: each node stands in its own group's table, and nowhere else.
func TestNodeSet(t *testing.T) {
	for lab, l := range lays() {
		bs := noisy()
		w := onto(t, bs)
		g := w.open(t, lab)
		for num := 1; num <= l.nodes; num++ {
			for _, n := range []api.Node{{Gen: 7}, {Kind: api.KLink, Links: 2, Size: 60, Direct: [6]uint16{3}}, file(1000*lab + num)} {
				if e := g.Set(num, n); e != api.OK {
					t.Fatalf("Set(%d) = %d", num, e)
				}
				if got, e := g.Node(num); got != n || e != api.OK {
					t.Errorf("Node(%d) = %v, %d, wanted %v", num, got, e, n)
				}
			}
			if at := w.x.Blocks(); !slices.Equal(at, []int{l.table + (num-1)/2}) {
				t.Errorf("Set(%d): Blocks = %v", num, at)
			}
			l.put(bs, num, file(1000*lab+num))
			w.commit(t)
		}
		if !w.same(bs) {
			t.Errorf("of %d: Set wrote others", lab)
		}
		for num := 1; num <= l.nodes; num++ {
			if n, e := g.Node(num); n != file(1000*lab+num) || e != api.OK {
				t.Errorf("Node(%d) = %v, %d", num, n, e)
			}
		}
	}
}

// P7.2: chapter 6's errors: no such node; what isn't one, handed in or on the disk; the transaction's.
func TestNodeSetErrors(t *testing.T) {
	for lab, l := range lays() {
		bs := noisy()
		bs[l.table] = api.Block{0: 6, 32: 1} // no kind; a file without links
		w := onto(t, bs)
		g := w.open(t, lab)
		for _, num := range noNode(l.nodes) {
			if n, e := g.Node(num); n != (api.Node{}) || e != api.ErrRange {
				t.Errorf("Node(%d) = %v, %d", num, n, e)
			}
			for _, n := range []api.Node{{}, file(1), {Kind: 6, Links: 1}} {
				if e := g.Set(num, n); e != api.ErrRange {
					t.Errorf("Set(%d, %v) = %d", num, n, e)
				}
			}
		}
		for num := 1; num <= 2; num++ {
			if n, e := g.Node(num); n != (api.Node{}) || e != api.ErrForm {
				t.Errorf("Node(%d) = %v, %d", num, n, e)
			}
		}
		for _, n := range []api.Node{{Kind: 6, Links: 1}, {Links: 1}, {Kind: api.KFile}, {Kind: api.KDir, Links: 1, Size: 8}, {Kind: api.KLink, Links: 1}, {Kind: api.KFifo, Links: 1, Size: 1}, {Kind: api.KFile, Links: 1, Size: 16385}} {
			if e := g.Set(1, n); e != api.ErrForm {
				t.Errorf("Set(1, %v) = %d", n, e)
			}
		}
		if w.x.Len() != 0 || w.x.Commit() != api.OK || !w.same(bs) {
			t.Error("what failed was put")
		}
		short := onto(t, bs[:l.table+1]).open(t, lab)
		if n, e := short.Node(3); n != (api.Node{}) || e != api.ErrRange {
			t.Errorf("Node of a short disk = %v, %d", n, e)
		}
		if e := short.Set(3, file(1)); e != api.ErrRange {
			t.Errorf("Set of a short disk = %d", e)
		}
	}
}

// P7.2: one by one, of each kind: what it is, nothing else is written; then there is no space.
func TestMake(t *testing.T) {
	for lab, l := range lays() {
		bs := noisy()
		for num := 1; num <= l.nodes; num++ {
			l.put(bs, num, api.Node{Gen: uint16(num * 511)})
		}
		w := onto(t, bs)
		g := w.open(t, lab)
		for num := 1; num <= l.nodes; num++ {
			k := kinds()[num%4]
			want := api.Node{Kind: k, Links: 1, Gen: uint16(num*511 + 1)}
			if got, e := g.Make(k); got != num || e != api.OK {
				t.Fatalf("Make(%d) = %d, %d, wanted %d", k, got, e, num)
			}
			if n, e := g.Node(num); n != want || e != api.OK {
				t.Errorf("Node(%d) = %v, %d, wanted %v", num, n, e, want)
			}
			if at := w.x.Blocks(); !slices.Equal(at, []int{l.table + (num-1)/2}) {
				t.Errorf("Make of %d: Blocks = %v", num, at)
			}
			l.put(bs, num, want)
			w.commit(t)
		}
		for _, k := range kinds() {
			if num, e := g.Make(k); num != 0 || e != api.ErrSpace {
				t.Errorf("Make(%d) = %d, %d", k, num, e)
			}
		}
		if w.x.Len() != 0 || !w.same(bs) {
			t.Errorf("of %d: Make wrote others", lab)
		}
	}
}

// P7.2: the first one that is free, wherever it stands; its generation wraps round.
func TestMakeFirst(t *testing.T) {
	for lab, l := range lays() {
		for num := 1; num <= l.nodes; num++ {
			for _, gen := range []uint16{0, 1, 255, 256, 32767, 65534, 65535} {
				bs := make([]api.Block, total)
				for i := 1; i < num; i++ {
					l.put(bs, i, api.Node{Kind: api.Kind(1 + i%3), Links: 1})
				}
				l.put(bs, num, api.Node{Gen: gen})
				w := onto(t, bs)
				g := w.open(t, lab)
				if got, e := g.Make(api.KDir); got != num || e != api.OK {
					t.Errorf("Make = %d, %d, wanted %d", got, e, num)
				}
				want := uint16((int(gen) + 1) % 65536)
				if n, e := g.Node(num); n != (api.Node{Kind: api.KDir, Links: 1, Gen: want}) || e != api.OK {
					t.Errorf("Node(%d) = %v, %d, wanted generation %d", num, n, e, want)
				}
				if i, e := g.Ino(num); i != (api.Ino{Lab: uint8(lab), Num: uint16(num), Gen: want}) || e != api.OK {
					t.Errorf("Ino(%d) = %v, %d", num, i, e)
				}
			}
		}
	}
}

// P7.2: kinds that it isn't asked for are told ahead of all else; nothing is put.
func TestMakeKinds(t *testing.T) {
	bs := noisy()
	l := lays()[0]
	w := onto(t, bs)
	full := onto(t, bs)
	for num := 1; num <= l.nodes; num++ {
		full.open(t, 0).Set(num, file(num))
	}
	full.commit(t)
	for k := range 256 {
		if slices.Contains(kinds(), api.Kind(k)) {
			continue
		}
		for _, g := range []world{w, full, onto(t, bs[:32])} {
			if num, e := g.open(t, 0).Make(api.Kind(k)); num != 0 || e != api.ErrRange {
				t.Errorf("Make(%d) = %d, %d", k, num, e)
			}
		}
	}
	if w.x.Len() != 0 || full.x.Len() != 0 || !w.same(bs) {
		t.Error("what failed was put")
	}
}

// P7.2: a node that isn't right, ahead of the first that is free: Node's error, not the next one; behind it nobody asks.
func TestMakeForm(t *testing.T) {
	for lab, l := range lays() {
		bs := make([]api.Block, total)
		l.put(bs, 1, file(1))
		l.put(bs, 3, api.Node{Kind: api.KFile})
		w := onto(t, bs)
		g := w.open(t, lab)
		if num, e := g.Make(api.KFile); num != 2 || e != api.OK {
			t.Errorf("Make = %d, %d", num, e)
		}
		w.commit(t)
		if num, e := g.Make(api.KFile); num != 0 || e != api.ErrForm {
			t.Errorf("Make = %d, %d", num, e)
		}
		if num, e := g.MakeLink(1, 1); num != 0 || e != api.ErrForm {
			t.Errorf("MakeLink = %d, %d", num, e)
		}
		if w.x.Len() != 0 {
			t.Error("what failed was put")
		}
	}
}

// P7.2: the transaction's errors: the 31st block, blocks that the disk lacks.
func TestMakeErrors(t *testing.T) {
	w := blank(t)
	for num := 1; num <= 60; num++ {
		if got, e := w.open(t, 1).Make(api.KFile); got != num || e != api.OK {
			t.Fatalf("Make = %d, %d", got, e)
		}
	}
	if num, e := w.open(t, 1).Make(api.KFile); num != 0 || e != api.ErrMany {
		t.Errorf("Make in the 31st block = %d, %d", num, e)
	}
	if num, e := w.open(t, 0).MakeLink(1, 1); num != 0 || e != api.ErrMany {
		t.Errorf("MakeLink in the 31st block = %d, %d", num, e)
	}
	if e := w.open(t, 2).Wipe(1); e != api.ErrMany {
		t.Errorf("Wipe in the 31st block = %d", e)
	}
	w.x.Drop()
	for lab := range 3 {
		uses(t, w.open(t, lab), 0, 0)
	}
	for lab, l := range lays() {
		short := onto(t, make([]api.Block, l.table+1)).open(t, lab)
		for num := 1; num <= 2; num++ {
			if got, e := short.Make(api.KFile); got != num || e != api.OK {
				t.Errorf("Make of a short disk = %d, %d", got, e)
			}
		}
		if num, e := short.Make(api.KFile); num != 0 || e != api.ErrRange {
			t.Errorf("Make of a short disk = %d, %d", num, e)
		}
		if num, e := short.MakeLink(60, 4); num != 0 || e != api.ErrRange {
			t.Errorf("MakeLink of a short disk = %d, %d", num, e)
		}
	}
}

// P7.2: a link: its length, its block, whether that one is taken or not.
func TestMakeLink(t *testing.T) {
	for lab, l := range lays() {
		bs := noisy()
		l.put(bs, 1, file(9))
		l.put(bs, 2, api.Node{Gen: 65535})
		w := onto(t, bs)
		g := w.open(t, lab)
		gen := uint16(0)
		for size := 1; size <= 60; size++ {
			for _, block := range []int{1, 2, l.blocks - 1, l.blocks} {
				want := api.Node{Kind: api.KLink, Links: 1, Gen: gen, Size: uint32(size), Direct: [6]uint16{uint16(block)}}
				if num, e := g.MakeLink(size, block); num != 2 || e != api.OK {
					t.Fatalf("MakeLink(%d, %d) = %d, %d", size, block, num, e)
				}
				if n, e := g.Node(2); n != want || e != api.OK {
					t.Errorf("Node = %v, %d, wanted %v", n, e, want)
				}
				if at := w.x.Blocks(); !slices.Equal(at, []int{l.table}) {
					t.Errorf("MakeLink: Blocks = %v", at)
				}
				w.commit(t)
				now := slices.Clone(bs)
				l.put(now, 2, want)
				if !w.same(now) {
					t.Fatal("MakeLink wrote others")
				}
				if e := g.Wipe(2); e != api.OK {
					t.Errorf("Wipe = %d", e)
				}
				gen++
			}
		}
	}
}

// P7.2: lengths and blocks that there aren't, ahead of all else; a block's number isn't cut.
func TestMakeLinkErrors(t *testing.T) {
	for lab, l := range lays() {
		bs := noisy()
		w := onto(t, bs)
		g := w.open(t, lab)
		full := onto(t, bs)
		for num := 1; num <= l.nodes; num++ {
			if e := full.open(t, lab).Set(num, file(num)); e != api.OK {
				t.Fatalf("Set = %d", e)
			}
			full.commit(t)
		}
		for _, size := range []int{0, -1, 61, 62, 64, 256 + 1, 65536 + 1, 1<<32 + 1, math.MinInt, math.MinInt + 1, math.MaxInt} {
			for _, block := range []int{1, l.blocks, 0} {
				if num, e := g.MakeLink(size, block); num != 0 || e != api.ErrRange {
					t.Errorf("MakeLink(%d, %d) = %d, %d", size, block, num, e)
				}
			}
		}
		for _, block := range append(oddInts(), 0, l.blocks+1, l.blocks+2, 513, 65535, 65536+1, 65536+l.blocks, 1-65536, 1-1<<32) {
			for _, size := range []int{1, 60, 0} {
				if num, e := g.MakeLink(size, block); num != 0 || e != api.ErrRange {
					t.Errorf("MakeLink(%d, %d) = %d, %d", size, block, num, e)
				}
				if num, e := full.open(t, lab).MakeLink(size, block); num != 0 || e != api.ErrRange {
					t.Errorf("MakeLink(%d, %d) of a full one = %d, %d", size, block, num, e)
				}
			}
		}
		if num, e := full.open(t, lab).MakeLink(60, l.blocks); num != 0 || e != api.ErrSpace {
			t.Errorf("MakeLink of a full one = %d, %d", num, e)
		}
		if w.x.Len() != 0 || w.x.Commit() != api.OK || !w.same(bs) {
			t.Error("what failed was put")
		}
	}
}

// P7.2: it is free, all but its generation is nought; its blocks stay taken; the next one in its place is of the next generation.
func TestWipe(t *testing.T) {
	for lab, l := range lays() {
		bs := noisy()
		for i := range l.blocks {
			bs[l.bits][i/8] |= 1 << (i % 8)
		}
		for num := 1; num <= l.nodes; num++ {
			l.put(bs, num, file(600*num))
		}
		w := onto(t, bs)
		g := w.open(t, lab)
		for _, num := range []int{l.nodes, 2, 1, 3} {
			if e := g.Wipe(num); e != api.OK {
				t.Fatalf("Wipe(%d) = %d", num, e)
			}
			if n, e := g.Node(num); n != (api.Node{Gen: uint16(600 * num)}) || e != api.OK {
				t.Errorf("Node(%d) = %v, %d", num, n, e)
			}
			if at := w.x.Blocks(); !slices.Equal(at, []int{l.table + (num-1)/2}) {
				t.Errorf("Wipe(%d): Blocks = %v", num, at)
			}
			l.put(bs, num, api.Node{Gen: uint16(600 * num)})
			w.commit(t)
			if !w.same(bs) {
				t.Fatalf("Wipe(%d) wrote others", num)
			}
			if e := g.Wipe(num); e != api.OK { // of a free one: it is free
				t.Errorf("Wipe(%d) again = %d", num, e)
			}
			w.commit(t)
			if !w.same(bs) {
				t.Fatalf("Wipe(%d) again wrote others", num)
			}
		}
		uses(t, g, l.blocks, l.nodes-4)
		for _, num := range []int{1, 2, 3, l.nodes} {
			if got, e := g.Make(api.KFifo); got != num || e != api.OK {
				t.Errorf("Make = %d, %d, wanted %d", got, e, num)
			}
			if i, e := g.Ino(num); i != (api.Ino{Lab: uint8(lab), Num: uint16(num), Gen: uint16(600*num + 1)}) || e != api.OK {
				t.Errorf("Ino(%d) = %v, %d", num, i, e)
			}
		}
	}
}

// P7.2: Node's errors, of Wipe and of Ino; ErrNone of a free node, whatever its generation.
func TestWipeInoErrors(t *testing.T) {
	for lab, l := range lays() {
		bs := make([]api.Block, total)
		bs[l.table] = api.Block{0: 6, 32: 1} // no kind; a file without links
		l.put(bs, 4, api.Node{Gen: 9})
		w := onto(t, bs)
		g := w.open(t, lab)
		for _, x := range []struct {
			nums      []int
			ino, wipe api.Errno
		}{{noNode(l.nodes), api.ErrRange, api.ErrRange}, {[]int{1, 2}, api.ErrForm, api.ErrForm}, {[]int{3, 4}, api.ErrNone, api.OK}} {
			for _, num := range x.nums {
				if i, e := g.Ino(num); i != (api.Ino{}) || e != x.ino {
					t.Errorf("Ino(%d) = %v, %d, wanted %d", num, i, e, x.ino)
				}
				if x.wipe != api.OK && w.x.Len() != 0 {
					t.Error("Ino or Wipe put")
				}
				if e := g.Wipe(num); e != x.wipe {
					t.Errorf("Wipe(%d) = %d, wanted %d", num, e, x.wipe)
				}
			}
		}
		short := onto(t, bs[:l.table+1]).open(t, lab)
		if i, e := short.Ino(3); i != (api.Ino{}) || e != api.ErrRange {
			t.Errorf("Ino of a short disk = %v, %d", i, e)
		}
		if e := short.Wipe(3); e != api.ErrRange {
			t.Errorf("Wipe of a short disk = %d", e)
		}
	}
}

// P7.2: each kind of node is meant by its label, number and generation.
func TestIno(t *testing.T) {
	for lab, l := range lays() {
		w := blank(t)
		g := w.open(t, lab)
		for num := 1; num <= l.nodes; num++ {
			n := api.Node{Kind: api.Kind(1 + num%5), Links: 1, Gen: uint16(num * 300)}
			if n.Kind == api.KLink {
				n.Size = 5
			}
			if e := g.Set(num, n); e != api.OK {
				t.Fatalf("Set(%d) = %d", num, e)
			}
			w.commit(t)
			if i, e := g.Ino(num); i != (api.Ino{Lab: uint8(lab), Num: uint16(num), Gen: uint16(num * 300)}) || e != api.OK {
				t.Errorf("Ino(%d) = %v, %d", num, i, e)
			}
		}
	}
}
