package node_test

import (
	"math"
	"math/rand"
	"testing"

	"garrison/api"
	"garrison/node"
)

// shapes: the bytes of nodes, written out by the chapter's words.
func shapes() []struct {
	n api.Node
	b [32]byte
} {
	return []struct {
		n api.Node
		b [32]byte
	}{
		{api.Node{}, [32]byte{}},
		{api.Node{Gen: 0x1234}, [32]byte{2: 0x34, 3: 0x12}},
		{api.Node{Gen: 65535}, [32]byte{2: 255, 3: 255}},
		{api.Node{Kind: api.KFile, Links: 1}, [32]byte{0: 1, 1: 1}},
		{api.Node{Kind: api.KFile, Links: 2, Gen: 513, Size: 70, Direct: [6]uint16{5, 9}}, [32]byte{0: 1, 1: 2, 2: 1, 3: 2, 4: 70, 8: 5, 10: 9}},
		{api.Node{Kind: api.KFile, Links: 255, Gen: 256, Size: 16384}, [32]byte{0: 1, 1: 255, 3: 1, 5: 64}},
		{api.Node{Kind: api.KDir, Links: 1, Gen: 1, Size: 0x0120, Direct: [6]uint16{1, 2, 3, 4, 512}}, [32]byte{0: 2, 1: 1, 2: 1, 4: 0x20, 5: 1, 8: 1, 10: 2, 12: 3, 14: 4, 17: 2}},
		{api.Node{Kind: api.KMulti, Links: 1, Gen: 255}, [32]byte{0: 3, 1: 1, 2: 255}},
		{api.Node{Kind: api.KLink, Links: 1, Gen: 2, Size: 60, Direct: [6]uint16{300}}, [32]byte{0: 4, 1: 1, 2: 2, 4: 60, 8: 44, 9: 1}},
		{api.Node{Kind: api.KFifo, Links: 250, Gen: 2}, [32]byte{0: 5, 1: 250, 2: 2}},
		{
			api.Node{Kind: api.KFile, Links: 3, Gen: 0x0504, Size: 0x0706, Direct: [6]uint16{0x0b0a, 0x0d0c, 0x0f0e, 0x1110, 0x1312, 0x1514}, Single: 0x1716, Double: 0x1918},
			[32]byte{1, 3, 4, 5, 6, 7, 0, 0, 10, 11, 12, 13, 14, 15, 16, 17, 18, 19, 20, 21, 22, 23, 24, 25},
		},
		{ // pointers of a node that has no use for them
			api.Node{Kind: api.KFifo, Links: 1, Direct: [6]uint16{5: 65535}, Single: 65280, Double: 255},
			[32]byte{0: 5, 1: 1, 18: 255, 19: 255, 21: 255, 22: 255},
		},
	}
}

// P6.1: where each field stands, and back.
func TestBytes(t *testing.T) {
	for _, x := range shapes() {
		if b := node.Encode(x.n); b != x.b {
			t.Errorf("Encode(%v) = %v, wanted %v", x.n, b, x.b)
		}
		if n, e := node.Decode(x.b); n != x.n || e != api.OK {
			t.Errorf("Decode(%v) = %v, %d, wanted %v", x.b, n, e, x.n)
		}
	}
}

// P6.1: Encode checks nothing: also what is no node has bytes.
func TestEncodeWrong(t *testing.T) {
	for _, x := range []struct {
		n api.Node
		b [32]byte
	}{
		{api.Node{Kind: 255}, [32]byte{255}},
		{api.Node{Kind: 6, Links: 7, Size: math.MaxUint32}, [32]byte{0: 6, 1: 7, 4: 255, 5: 255, 6: 255, 7: 255}},
		{api.Node{Kind: 128, Size: 0x04030201}, [32]byte{0: 128, 4: 1, 5: 2, 6: 3, 7: 4}},
		{api.Node{Links: 1}, [32]byte{1: 1}},
		{api.Node{Single: 1}, [32]byte{20: 1}},
		{api.Node{Kind: api.KLink}, [32]byte{4}},
	} {
		if b := node.Encode(x.n); b != x.b {
			t.Errorf("Encode(%v) = %v, wanted %v", x.n, b, x.b)
		}
		if n, e := node.Decode(x.b); n != (api.Node{}) || e != api.ErrForm {
			t.Errorf("Decode(%v) = %v, %d", x.b, n, e)
		}
	}
}

// P6.1: each byte behind the fields, whatever it is, of a node that is right and of a free one; each byte ahead of them is a field's.
func TestDecodeBehind(t *testing.T) {
	for _, x := range shapes() {
		for at := 24; at < 32; at++ {
			for v := 1; v < 256; v++ {
				b := x.b
				b[at] = byte(v)
				if n, e := node.Decode(b); n != (api.Node{}) || e != api.ErrForm {
					t.Errorf("Decode(%v) = %v, %d", b, n, e)
				}
			}
		}
	}
	file := [32]byte{0: 1, 1: 1}
	for at := 8; at < 24; at++ {
		for v := range 256 {
			b := file
			b[at] = byte(v)
			if n, e := node.Decode(b); n != read(b) || e != api.OK {
				t.Errorf("Decode(%v) = %v, %d, wanted %v", b, n, e, read(b))
			}
		}
	}
}

// read: the chapter's words for a node's bytes, by multiplication.
func read(b [32]byte) api.Node {
	two := func(at int) uint16 { return uint16(b[at]) + 256*uint16(b[at+1]) }
	n := api.Node{Kind: api.Kind(b[0]), Links: b[1], Gen: two(2), Size: uint32(two(4)) + 65536*uint32(two(6))}
	n.Direct = [6]uint16{two(8), two(10), two(12), two(14), two(16), two(18)}
	n.Single, n.Double = two(20), two(22)
	return n
}

// someBytes: bytes of what is often a node: of noise, each part of it noughts now and then.
func someBytes(r *rand.Rand) [32]byte {
	var b [32]byte
	r.Read(b[:24])
	b[0] = byte(r.Intn(7))
	for _, p := range [][2]int{{1, 2}, {2, 4}, {4, 6}, {8, 20}, {20, 24}} {
		if r.Intn(4) == 0 {
			clear(b[p[0]:p[1]])
		}
	}
	if r.Intn(8) > 0 {
		b[6], b[7] = 0, 0
	}
	switch r.Intn(4) {
	case 0:
		b[4], b[5] = byte(r.Intn(64)), 0
	case 1:
		b[4], b[5] = b[4]&0xf0, b[5]&63
	}
	if r.Intn(8) == 0 {
		b[24+r.Intn(8)] = byte(r.Intn(256))
	}
	return b
}

// P6.1: of noise: the node that the bytes say, if nothing is behind it, and if it is right; back, the same bytes.
func TestDecode(t *testing.T) {
	r := rand.New(rand.NewSource(6))
	seen := map[api.Errno]int{}
	for range 200000 {
		b := someBytes(r)
		want, we := read(b), api.OK
		free := want == api.Node{Gen: want.Gen}
		if [8]byte(b[24:]) != [8]byte{} || !free && !isRight(want) {
			want, we = api.Node{}, api.ErrForm
		}
		n, e := node.Decode(b)
		if n != want || e != we {
			t.Fatalf("Decode(%v) = %v, %d, wanted %v, %d", b, n, e, want, we)
		}
		if e == api.OK && node.Encode(n) != b {
			t.Fatalf("Encode(Decode(%v)) = %v", b, node.Encode(n))
		}
		seen[e]++
	}
	if seen[api.OK] < 20000 || seen[api.ErrForm] < 20000 {
		t.Errorf("the noise is one-sided: %v", seen)
	}
}

// P6.1: Encode of any node, right or not, is what its bytes say; Decode answers it just if it is right.
func TestEncode(t *testing.T) {
	r := rand.New(rand.NewSource(7))
	for range 100000 {
		var b [32]byte
		r.Read(b[:24])
		n := read(b)
		if node.Encode(n) != b {
			t.Fatalf("Encode(%v) = %v, wanted %v", n, node.Encode(n), b)
		}
	}
	for k := range 256 {
		for _, links := range []uint8{0, 1, 2, 250, 255} {
			for _, size := range sizes() {
				n := api.Node{Kind: api.Kind(k), Links: links, Gen: uint16(k * 300), Size: size, Double: uint16(k)}
				if k == 0 {
					continue
				}
				got, e := node.Decode(node.Encode(n))
				if isRight(n) && (got != n || e != api.OK) || !isRight(n) && (got != api.Node{} || e != api.ErrForm) {
					t.Fatalf("Decode(Encode(%v)) = %v, %d", n, got, e)
				}
			}
		}
	}
}

// P2, R6: what is answered is nobody's but the caller's; what was handed in stays.
func TestBytesAreNew(t *testing.T) {
	n := api.Node{Kind: api.KFile, Links: 1, Size: 70, Direct: [6]uint16{5, 9}}
	was := n
	b := node.Encode(n)
	c := b
	for i := range b {
		b[i] = 255
	}
	if n != was || node.Encode(n) != c {
		t.Error("Encode keeps its answer")
	}
	got, _ := node.Decode(c)
	got.Direct[0], got.Size = 77, 1
	if again, e := node.Decode(c); again != was || e != api.OK {
		t.Errorf("Decode = %v, %d", again, e)
	}
}
