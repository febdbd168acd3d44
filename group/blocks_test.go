package group_test

import (
	"slices"
	"testing"

	"garrison/api"
)

// P7.1: one by one, each is of noughts whatever it held; its bit is set, nothing else is written; then there is no space.
func TestTake(t *testing.T) {
	for lab, l := range lays() {
		bs := noisy()
		w := onto(t, bs)
		g := w.open(t, lab)
		for i := range l.blocks {
			if n, e := g.Take(); int(n) != i+1 || e != api.OK {
				t.Fatalf("Take = %d, %d, wanted %d", n, e, i+1)
			}
			if at := w.x.Blocks(); !slices.Equal(at, []int{l.bits, l.data + i}) {
				t.Errorf("Take of %d: Blocks = %v", i+1, at)
			}
			if b, e := g.Get(uint16(i + 1)); b != (api.Block{}) || e != api.OK {
				t.Errorf("Get(%d) = %v, %d", i+1, b, e)
			}
			bs[l.bits][i/8] |= 1 << (i % 8)
			bs[l.data+i] = api.Block{}
			w.commit(t)
			if !w.same(bs) {
				t.Fatalf("Take of %d wrote others", i+1)
			}
		}
		for range 3 {
			if n, e := g.Take(); n != 0 || e != api.ErrSpace {
				t.Errorf("Take = %d, %d", n, e)
			}
		}
		if w.x.Len() != 0 || !w.same(bs) {
			t.Error("a Take that got nothing put something")
		}
	}
}

// P7.1: several in one transaction, and the first one of those that were given.
func TestTakeFirst(t *testing.T) {
	w := onto(t, noisy())
	g := w.open(t, 2)
	for i := range 20 {
		if n, e := g.Take(); int(n) != i+1 || e != api.OK {
			t.Fatalf("Take = %d, %d", n, e)
		}
	}
	w.commit(t)
	for _, n := range []uint16{17, 8, 9, 1} {
		if e := g.Give(n); e != api.OK {
			t.Errorf("Give(%d) = %d", n, e)
		}
	}
	for _, want := range []uint16{1, 8, 9, 17, 21} {
		g.Put(want, api.Block{1, 2, 3})
		if n, e := g.Take(); n != want || e != api.OK {
			t.Errorf("Take = %d, %d, wanted %d", n, e, want)
		}
		if b, e := g.Get(want); b != (api.Block{}) || e != api.OK {
			t.Errorf("Get(%d) = %v, %d", want, b, e)
		}
	}
}

// P7.1, P6: only a label's own bits count: neither those behind the last block, nor others'.
func TestTakeBits(t *testing.T) {
	for lab, l := range lays() {
		for _, left := range []int{1, 2, 3, l.blocks / 2, l.blocks - 1, l.blocks} { // all but that one
			bs := noisy()
			for _, o := range lays() {
				for i := range bs[o.bits] {
					bs[o.bits][i] = 255
				}
			}
			bs[l.bits][(left-1)/8] ^= 1 << ((left - 1) % 8)
			w := onto(t, bs)
			for other := range 3 {
				n, e := w.open(t, other).Take()
				if other == lab && (int(n) != left || e != api.OK) || other != lab && (n != 0 || e != api.ErrSpace) {
					t.Errorf("%d has %d left: Take of %d = %d, %d", lab, left, other, n, e)
				}
			}
		}
		bs := make([]api.Block, total) // all its own are taken, none behind them
		for i := range l.blocks {
			bs[l.bits][i/8] |= 1 << (i % 8)
		}
		if n, e := onto(t, bs).open(t, lab).Take(); n != 0 || e != api.ErrSpace {
			t.Errorf("Take of %d = %d, %d", lab, n, e)
		}
	}
}

// P7.1: the transaction's errors: the 31st block, blocks that the disk lacks; that there is no space isn't told ahead of them.
func TestTakeErrors(t *testing.T) {
	w := blank(t)
	g := w.open(t, 2)
	for i := range 29 { // and the block of bits: 30
		if n, e := g.Take(); int(n) != i+1 || e != api.OK {
			t.Fatalf("Take = %d, %d", n, e)
		}
	}
	if n, e := g.Take(); n != 0 || e != api.ErrMany {
		t.Errorf("the 30th Take = %d, %d", n, e)
	}
	if e := w.x.Commit(); e != api.ErrMany {
		t.Errorf("Commit behind it = %d", e)
	}
	w.x.Drop()
	uses(t, g, 0, 0)
	for _, first := range []int{1, 11} { // the block itself among them, or not: there is no room for the bits
		for i := range 30 {
			g.Put(uint16(first+i), api.Block{byte(i)})
		}
		if n, e := g.Take(); n != 0 || e != api.ErrMany {
			t.Errorf("Take behind 30 Puts = %d, %d", n, e)
		}
		w.x.Drop()
	}
	for lab, l := range lays() {
		for _, at := range []int{l.bits, l.table, l.data} {
			if n, e := onto(t, make([]api.Block, at)).open(t, lab).Take(); n != 0 || e != api.ErrRange {
				t.Errorf("of %d blocks: Take = %d, %d", at, n, e)
			}
		}
		short := onto(t, make([]api.Block, l.data+1)).open(t, lab)
		if n, e := short.Take(); n != 1 || e != api.OK {
			t.Errorf("Take = %d, %d", n, e)
		}
		if n, e := short.Take(); n != 0 || e != api.ErrRange {
			t.Errorf("Take = %d, %d", n, e)
		}
	}
}

// P7.1: it isn't taken any more, once; what it holds, and all others, stay.
func TestGive(t *testing.T) {
	for lab, l := range lays() {
		bs := noisy()
		for i := range bs[l.bits] {
			bs[l.bits][i] = 255
		}
		w := onto(t, bs)
		g := w.open(t, lab)
		for n := l.blocks; n >= 1; n-- {
			if e := g.Give(uint16(n)); e != api.OK {
				t.Fatalf("Give(%d) = %d", n, e)
			}
			if at := w.x.Blocks(); !slices.Equal(at, []int{l.bits}) {
				t.Errorf("Give(%d): Blocks = %v", n, at)
			}
			if e := g.Give(uint16(n)); e != api.ErrNone {
				t.Errorf("Give(%d) again = %d", n, e)
			}
			bs[l.bits][(n-1)/8] &^= 1 << ((n - 1) % 8)
			w.commit(t)
			if !w.same(bs) {
				t.Fatalf("Give(%d) wrote others", n)
			}
		}
		uses(t, g, 0, 0)
	}
}

// P7.1: what there is no data block for is told ahead of what isn't taken; nothing is put then.
func TestGiveErrors(t *testing.T) {
	for lab, l := range lays() {
		for _, v := range []byte{0, 255} {
			bs := noisy()
			for i := range bs[l.bits] {
				bs[l.bits][i] = v
			}
			w := onto(t, bs)
			g := w.open(t, lab)
			for _, n := range []int{0, l.blocks + 1, l.blocks + 2, 513, 1024, 65535} {
				if e := g.Give(uint16(n)); e != api.ErrRange {
					t.Errorf("Give(%d) of %d = %d", n, l.blocks, e)
				}
			}
			if v == 0 {
				for n := 1; n <= l.blocks; n++ {
					if e := g.Give(uint16(n)); e != api.ErrNone {
						t.Errorf("Give(%d) = %d", n, e)
					}
				}
			}
			if w.x.Len() != 0 || w.x.Commit() != api.OK || !w.same(bs) {
				t.Error("what failed was put")
			}
		}
		short := onto(t, make([]api.Block, l.bits)).open(t, lab)
		if e := short.Give(1); e != api.ErrRange {
			t.Errorf("Give = %d", e)
		}
	}
}

// P7.1: the transaction's error of the 31st block.
func TestGiveMany(t *testing.T) {
	w := blank(t)
	g := w.open(t, 2)
	g.Take()
	w.commit(t)
	for i := range 30 {
		g.Put(uint16(1+i), api.Block{byte(i)})
	}
	if e := g.Give(1); e != api.ErrMany {
		t.Errorf("Give = %d", e)
	}
	if e := g.Put(31, api.Block{}); e != api.ErrMany {
		t.Errorf("Put = %d", e)
	}
	w.x.Drop()
	uses(t, g, 1, 0)
}

// P7.1: where each stands; it may be taken or not; the others stay.
func TestGetPut(t *testing.T) {
	for lab, l := range lays() {
		bs := noisy()
		w := onto(t, bs)
		g := w.open(t, lab)
		for n := 1; n <= l.blocks; n++ {
			if b, e := g.Get(uint16(n)); b != bs[l.data+n-1] || e != api.OK {
				t.Fatalf("Get(%d) = %v, %d", n, b, e)
			}
		}
		if w.x.Len() != 0 {
			t.Error("Get put")
		}
		for n := 1; n <= l.blocks; n++ {
			b := api.Block{byte(n), byte(n >> 8), 63: byte(lab + 1)}
			if e := g.Put(uint16(n), b); e != api.OK {
				t.Fatalf("Put(%d) = %d", n, e)
			}
			if at := w.x.Blocks(); !slices.Equal(at, []int{l.data + n - 1}) {
				t.Errorf("Put(%d): Blocks = %v", n, at)
			}
			if got, e := g.Get(uint16(n)); got != b || e != api.OK {
				t.Errorf("Get(%d) = %v, %d", n, got, e)
			}
			bs[l.data+n-1] = b
			w.commit(t)
		}
		if !w.same(bs) {
			t.Errorf("of %d: Put wrote others", lab)
		}
	}
}

// P7.1: numbers of no data block: nothing of another's group, nor of the table, is to be seen or written so.
func TestGetPutErrors(t *testing.T) {
	for lab, l := range lays() {
		bs := noisy()
		w := onto(t, bs)
		g := w.open(t, lab)
		for _, n := range []int{0, l.blocks + 1, l.blocks + 2, 513, 600, 32768, 65535, 65535 - l.table} {
			if b, e := g.Get(uint16(n)); b != (api.Block{}) || e != api.ErrRange {
				t.Errorf("Get(%d) of %d = %v, %d", n, l.blocks, b, e)
			}
			if e := g.Put(uint16(n), api.Block{1}); e != api.ErrRange {
				t.Errorf("Put(%d) of %d = %d", n, l.blocks, e)
			}
		}
		if w.x.Len() != 0 || w.x.Commit() != api.OK || !w.same(bs) {
			t.Error("what failed was put")
		}
		short := onto(t, bs[:l.data+2]).open(t, lab)
		for n := 1; n <= 4; n++ {
			want, we := bs[l.data+n-1], api.OK
			if n > 2 {
				want, we = api.Block{}, api.ErrRange
			}
			if b, e := short.Get(uint16(n)); b != want || e != we {
				t.Errorf("Get(%d) of a short disk = %v, %d", n, b, e)
			}
			if e := short.Put(uint16(n), api.Block{}); e != we {
				t.Errorf("Put(%d) of a short disk = %d", n, e)
			}
		}
	}
}

// P2, R6: what is handed in isn't kept, what is answered is new.
func TestBlocksAreNew(t *testing.T) {
	g := blank(t).open(t, 0)
	b := api.Block{1, 2, 3}
	g.Put(2, b)
	b[0] = 9
	got, _ := g.Get(2)
	if got != (api.Block{1, 2, 3}) {
		t.Errorf("Get = %v", got)
	}
	got[1] = 9
	if again, e := g.Get(2); again != (api.Block{1, 2, 3}) || e != api.OK {
		t.Errorf("Get = %v, %d", again, e)
	}
}
