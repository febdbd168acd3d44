package node_test

import (
	"math"
	"testing"

	"garrison/api"
	"garrison/node"
)

// mostSize: the longest file; the chapter's number, not the constant's.
const mostSize = 16384

// sizes: lengths about all edges that the chapter names.
func sizes() []uint32 {
	return []uint32{0, 1, 2, 8, 15, 16, 17, 31, 32, 48, 59, 60, 61, 62, 63, 64, 70, 128, 255, 256, 257, 304, 16352, 16368, 16383,
		mostSize, 16385, 16386, 16400, 1 << 15, 65535, 1 << 16, 1<<16 + 16, 1<<16 + 60, 1 << 24, 1<<24 + 1, 1 << 31, 1<<31 + 16, math.MaxUint32 - 15, math.MaxUint32}
}

// oneField: nodes of noughts but for one field other than the generation.
func oneField() []api.Node {
	list := []api.Node{{Links: 1}, {Links: 255}, {Size: 1}, {Size: 1 << 16}, {Size: 1 << 31}, {Single: 1}, {Single: 1 << 15}, {Double: 1}, {Double: 1 << 15}}
	for k := 1; k < 256; k++ {
		list = append(list, api.Node{Kind: api.Kind(k)})
	}
	for i := range 6 {
		var n, m api.Node
		n.Direct[i], m.Direct[i] = 1, 1<<15
		list = append(list, n, m)
	}
	return list
}

// gens: generations about their edges.
func gens() []uint16 { return []uint16{0, 1, 2, 255, 256, 257, 32767, 32768, 65534, 65535} }

// P6.1
func TestBlank(t *testing.T) {
	for _, gen := range gens() {
		if !node.Blank(api.Node{Gen: gen}) {
			t.Errorf("Blank of generation %d alone: no", gen)
		}
		for _, n := range oneField() {
			n.Gen = gen
			if node.Blank(n) {
				t.Errorf("Blank(%v): yes", n)
			}
		}
	}
}

// P6.1: a free node is Blank, or it is none.
func TestCheckFree(t *testing.T) {
	for _, gen := range gens() {
		if e := node.Check(api.Node{Gen: gen}); e != api.OK {
			t.Errorf("Check of generation %d alone = %d", gen, e)
		}
		for _, n := range oneField() {
			n.Gen = gen
			if e := node.Check(n); n.Kind == 0 && e != api.ErrForm {
				t.Errorf("Check(%v) = %d", n, e)
			}
		}
	}
}

// isRight: the chapter's words for a node that isn't free, one by one.
func isRight(n api.Node) bool {
	k := int(n.Kind)
	switch {
	case k != 1 && k != 2 && k != 3 && k != 4 && k != 5:
		return false
	case n.Links == 0 || n.Size > mostSize:
		return false
	case (k == 3 || k == 5) && n.Size > 0:
		return false
	case k == 4 && n.Size < 1:
		return false
	case k == 4 && n.Size > 60:
		return false
	case k == 2 && n.Size%16 != 0:
		return false
	}
	return true
}

func checks(t *testing.T, n api.Node) {
	t.Helper()
	want := api.ErrForm
	if isRight(n) {
		want = api.OK
	}
	if e := node.Check(n); e != want {
		t.Fatalf("Check(%v) = %d, wanted %d", n, e, want)
	}
}

// P6.1: of each kind, and of none, with all links, at all edges of lengths; whatever the generation and the pointers are.
func TestCheck(t *testing.T) {
	for k := 1; k < 256; k++ {
		for links := range 256 {
			for _, size := range sizes() {
				n := api.Node{Kind: api.Kind(k), Links: uint8(links), Size: size}
				checks(t, n)
				n.Gen = uint16(257 * links)
				n.Direct = [6]uint16{1, 65535, 0, uint16(size), 7, 513}
				n.Single, n.Double = uint16(size), uint16(links)
				checks(t, n)
			}
		}
	}
}

// P6.1: all lengths that may matter, of all kinds.
func TestCheckSizes(t *testing.T) {
	for k := 1; k < 8; k++ {
		for size := range uint32(70000) {
			checks(t, api.Node{Kind: api.Kind(k), Links: 1, Size: size})
		}
		for bit := range 32 {
			for _, more := range []uint32{0, 1, 16, 60} {
				checks(t, api.Node{Kind: api.Kind(k), Links: 1, Size: 1<<bit + more})
			}
		}
	}
}

// P6.1: the chapter's edges, written out.
func TestCheckEdges(t *testing.T) {
	for _, x := range []struct {
		kind  api.Kind
		links uint8
		size  uint32
		want  api.Errno
	}{
		{api.KFile, 0, 0, api.ErrForm}, {api.KFile, 1, 0, api.OK}, {api.KFile, 255, 16384, api.OK}, {api.KFile, 1, 16385, api.ErrForm},
		{api.KDir, 0, 16, api.ErrForm}, {api.KDir, 1, 0, api.OK}, {api.KDir, 1, 15, api.ErrForm}, {api.KDir, 1, 16, api.OK}, {api.KDir, 1, 17, api.ErrForm}, {api.KDir, 1, 16384, api.OK}, {api.KDir, 1, 16400, api.ErrForm},
		{api.KMulti, 0, 0, api.ErrForm}, {api.KMulti, 1, 0, api.OK}, {api.KMulti, 1, 1, api.ErrForm}, {api.KMulti, 1, 16, api.ErrForm},
		{api.KLink, 0, 5, api.ErrForm}, {api.KLink, 1, 0, api.ErrForm}, {api.KLink, 1, 1, api.OK}, {api.KLink, 1, 60, api.OK}, {api.KLink, 1, 61, api.ErrForm},
		{api.KFifo, 0, 0, api.ErrForm}, {api.KFifo, 1, 0, api.OK}, {api.KFifo, 1, 1, api.ErrForm},
		{6, 1, 0, api.ErrForm}, {255, 1, 0, api.ErrForm}, {6, 0, 0, api.ErrForm},
	} {
		if e := node.Check(api.Node{Kind: x.kind, Links: x.links, Size: x.size}); e != x.want {
			t.Errorf("Check of kind %d, %d links, %d long = %d, wanted %d", x.kind, x.links, x.size, e, x.want)
		}
	}
}

// spread: chapter 8's words, block by block: a data block of a number needs what the way to it needs.
func spread(size int) (data, pointers int) {
	for at := 0; at < size; at += 64 {
		switch {
		case data == 6: // the first of Single
			pointers++
		case data == 38: // the first of Double, and the first of Double's first
			pointers += 2
		case data > 38 && (data-38)%32 == 0:
			pointers++
		}
		data++
	}
	return data, pointers
}

func spreads(t *testing.T, size, data, pointers int) {
	t.Helper()
	if a, b := node.Spread(size); a != data || b != pointers {
		t.Fatalf("Spread(%d) = %d, %d, wanted %d, %d", size, a, b, data, pointers)
	}
}

// P6.3: all lengths that a file may have, and many beyond.
func TestSpread(t *testing.T) {
	for size := range 2*mostSize + 200 {
		data, pointers := spread(size)
		spreads(t, size, data, pointers)
	}
	for _, size := range []int{65535, 65536, 65537, 70000, 1 << 20, 1<<20 + 1} {
		data, pointers := spread(size)
		spreads(t, size, data, pointers)
	}
}

// P6.3: its edges, written out: the chapter's examples; 6, 38 and 70 data blocks, and a byte more; below 0.
func TestSpreadEdges(t *testing.T) {
	for _, x := range [][3]int{
		{1000, 16, 1}, {3000, 47, 3},
		{0, 0, 0}, {1, 1, 0}, {64, 1, 0}, {65, 2, 0}, {400, 7, 1},
		{384, 6, 0}, {385, 7, 1}, {2432, 38, 1}, {2433, 39, 3}, {4480, 70, 3}, {4481, 71, 4}, {6528, 102, 4}, {6529, 103, 5},
		{16384, 256, 9}, {16385, 257, 9},
		{-1, 0, 0}, {-63, 0, 0}, {-64, 0, 0}, {-65, 0, 0}, {-3000, 0, 0}, {math.MinInt, 0, 0}, {math.MinInt + 1, 0, 0},
		{1 << 32, 1 << 26, 2 + 1<<21 - 1}, // 2^26 - 38 data blocks beyond: 2^21 - 2 whole parts, and 26
		{math.MaxInt, 1 << 57, 2 + 1<<52 - 1},
		{math.MaxInt - 63, 1<<57 - 1, 2 + 1<<52 - 1},
		{math.MaxInt - 1, 1 << 57, 2 + 1<<52 - 1},
	} {
		spreads(t, x[0], x[1], x[2])
	}
}
