package bits

import (
	"testing"

	"garrison/api"
)

// broken is blocks of ones that answer errors of their own from one on, and count how often each is got.
type broken struct {
	from int
	got  map[int]int
}

func (b broken) Get(n int) (api.Block, api.Errno) {
	b.got[n]++
	if n >= b.from {
		return api.Block{}, api.Errno(1000 + n)
	}
	var ones api.Block
	for i := range ones {
		ones[i] = 255
	}
	return ones, api.OK
}

func (b broken) Put(n int, _ api.Block) api.Errno { return api.Errno(2000 + n) }

// P5.2: the first error, not a later one; P5.1: the error of the block that the bit stands in.
func TestFirstError(t *testing.T) {
	for from := range 4 {
		b := broken{10 + from, map[int]int{}}
		m := &Map{blocks: b, first: 10, many: 4 * perBlock}
		want := api.Errno(1010 + from)
		if n, e := m.Free(); n != -1 || e != want {
			t.Errorf("Free = %d, %d, wanted %d", n, e, want)
		}
		if n, e := m.Count(); n != 0 || e != want {
			t.Errorf("Count = %d, %d, wanted %d", n, e, want)
		}
		if l, e := m.List(); len(l) != 0 || e != want {
			t.Errorf("List = %v, %d, wanted %d", l, e, want)
		}
		for k := range 4 {
			want := api.Errno(1010 + k)
			if k < from {
				want = api.OK
			}
			if on, e := m.Has(k * perBlock); on != (k < from) || e != want {
				t.Errorf("Has = %v, %d, wanted %d", on, e, want)
			}
			if e := m.Set(k*perBlock, true); e != want {
				t.Errorf("Set = %d, wanted %d", e, want)
			}
			if want == api.OK {
				want = api.Errno(2010 + k)
			}
			if e := m.Set(k*perBlock, false); e != want {
				t.Errorf("Set = %d, wanted %d", e, want)
			}
		}
	}
}

// Going over the bits gets no block twice, and none behind the last bit that counts.
func TestGetsOnce(t *testing.T) {
	for _, x := range []struct{ many, blocks int }{{0, 0}, {1, 1}, {512, 1}, {513, 2}, {1024, 2}} {
		b := broken{1 << 20, map[int]int{}}
		m := &Map{blocks: b, first: 10, many: x.many}
		if n, e := m.Free(); n != -1 || e != api.OK {
			t.Errorf("Free = %d, %d", n, e)
		}
		if len(b.got) != x.blocks {
			t.Errorf("of %d: got %v", x.many, b.got)
		}
		for n, often := range b.got {
			if often != 1 || n < 10 || n >= 10+x.blocks {
				t.Errorf("of %d: got %v", x.many, b.got)
			}
		}
	}
}
