package fsck_test

import (
	"fmt"
	"testing"

	"garrison/api"
	"garrison/file"
	"garrison/group"
	"garrison/inst"
)

// all: a node's blocks, of data and of pointers.
func (w world) all(t *testing.T, i api.Ino) (data, pointers []uint16) {
	t.Helper()
	data, pointers, e := file.Blocks(w.open(t, int(i.Lab)), w.node(t, int(i.Lab), int(i.Num)))
	if e != api.OK {
		t.Fatalf("Blocks of %v = %d", i, e)
	}
	return data, pointers
}

// used: how many blocks of a label are taken.
func (w world) used(t *testing.T, lab int) int {
	t.Helper()
	many, _, e := w.open(t, lab).Usage()
	if e != api.OK {
		t.Fatalf("Usage of %d = %d", lab, e)
	}
	return many
}

// alter: a deed to one of low's nodes.
func alter(what string, of func(p planted) api.Ino, f func(n *api.Node)) deed {
	return deed{what, func(t *testing.T, p planted) {
		i := of(p)
		p.change(t, int(i.Lab), int(i.Num), f)
	}}
}

// Nodes of such a disk.
func small(p planted) api.Ino  { return p.small }
func exact(p planted) api.Ino  { return p.exact }
func mid(p planted) api.Ino    { return p.mid }
func long(p planted) api.Ino   { return p.long }
func none(p planted) api.Ino   { return p.none }
func dirD(p planted) api.Ino   { return p.outer }
func hollow(p planted) api.Ino { return p.hollow }
func linkL(p planted) api.Ino  { return p.sym }
func full(p planted) api.Ino   { return p.full }
func fifo(p planted) api.Ino   { return p.p }
func multi(p planted) api.Ino  { return p.m }

// P14.2: each node is.
func TestNodes(t *testing.T) {
	l := []deed{
		alter("no kind", none, func(n *api.Node) { n.Kind = 6 }),
		alter("no kind, either", none, func(n *api.Node) { n.Kind = 255 }),
		alter("no links", none, func(n *api.Node) { n.Links = 0 }),
		alter("longer than a file may be", long, func(n *api.Node) { n.Size = api.MaxFile + 1 }),
		alter("as long as there are numbers for", long, func(n *api.Node) { n.Size = 1<<32 - 1 }),
		alter("longer by what a byte is lost of", small, func(n *api.Node) { n.Size += 1 << 16 }),
		alter("an own of each with a length", multi, func(n *api.Node) { n.Size = 1 }),
		alter("a pipe with a length", fifo, func(n *api.Node) { n.Size = 64 }),
		alter("a link of no bytes", linkL, func(n *api.Node) { n.Size = 0 }),
		alter("a link too long", full, func(n *api.Node) { n.Size = 61 }),
		alter("a link far too long", full, func(n *api.Node) { n.Size = 64 }),
		alter("half a place", dirD, func(n *api.Node) { n.Size -= 8 }),
		alter("a byte of a place", dirD, func(n *api.Node) { n.Size++ }),
	}
	for i, f := range []func(n *api.Node){
		func(n *api.Node) { n.Links = 1 },
		func(n *api.Node) { n.Size = 1 },
		func(n *api.Node) { n.Direct[0] = 1 },
		func(n *api.Node) { n.Direct[5] = 65535 },
		func(n *api.Node) { n.Single = 1 },
		func(n *api.Node) { n.Double = 1 },
	} {
		for _, num := range []int{19, 20} {
			l = append(l, deed{fmt.Sprintf("a free node isn't blank (%d)", i), func(t *testing.T, p planted) {
				p.change(t, right, num, f)
			}})
		}
	}
	for _, num := range []int{1, 2, 3, 4, 19, 20} {
		for at := 24; at < 32; at++ {
			l = append(l, deed{fmt.Sprintf("node %d has something in byte %d", num, at), func(t *testing.T, p planted) {
				g := p.geo(t, left)
				p.poke(t, g.Base+g.Bitmap+(num-1)/2, (num-1)%2*32+at, 1)
			}})
		}
	}
	wrongBehind(t, l)
}

// P14.2: of each generation.
func TestGenerations(t *testing.T) {
	var l []deed
	for _, gen := range []uint16{0, 1, 2, 255, 256, 65535} {
		for _, num := range []int{1, 2, 3, 19, 20} {
			l = append(l, deed{fmt.Sprintf("node %d of generation %d", num, gen), func(t *testing.T, p planted) {
				p.change(t, right, num, func(n *api.Node) { n.Gen = gen })
			}})
		}
		l = append(l, alter("a file", long, func(n *api.Node) { n.Gen = gen }), alter("a directory", dirD, func(n *api.Node) { n.Gen = gen }))
	}
	rightBehind(t, l)
}

// P14.2: of the group, each of just one node.
func TestBlocksOfOne(t *testing.T) {
	var l []deed
	for _, n := range []uint16{201, 202, 256, 512, 4096, 65535} {
		l = append(l,
			alter("a block that isn't there", small, func(x *api.Node) { x.Direct[1] = n }),
			alter("a link's block that isn't there", linkL, func(x *api.Node) { x.Direct[0] = n }),
			alter("a block of pointers that isn't there", mid, func(x *api.Node) { x.Single = n }),
			alter("a block of blocks of pointers that isn't there", long, func(x *api.Node) { x.Double = n }),
			deed{"a row's block that isn't there", func(t *testing.T, p planted) {
				p.row(t, low, p.node(t, low, int(p.mid.Num)).Single, 9, n)
			}},
			deed{"a row's row that isn't there", func(t *testing.T, p planted) {
				p.row(t, low, p.node(t, low, int(p.long.Num)).Double, 0, n)
			}},
			deed{"a row's row's block that isn't there", func(t *testing.T, p planted) {
				_, rows := p.all(t, p.long)
				p.row(t, low, rows[2], 8, n)
			}},
		)
	}
	// One that is full, and whose bit isn't set any more: nothing else is wrong.
	for _, n := range []uint16{201, 512, 65535} {
		l = append(l, deed{"a full block that isn't there", func(t *testing.T, p planted) {
			p.change(t, low, int(p.mid.Num), func(x *api.Node) {
				p.mark(t, low, int(x.Direct[2])-1, false)
				x.Direct[2] = n
			})
		}}, deed{"a row's full block that isn't there", func(t *testing.T, p planted) {
			data, rows := p.all(t, p.mid)
			p.mark(t, low, int(data[8])-1, false)
			p.row(t, low, rows[0], 2, n)
		}})
	}
	l = append(l,
		deed{"a root's block is an audit's", func(t *testing.T, p planted) {
			p.change(t, high, inst.Audit, func(x *api.Node) {
				n := p.node(t, high, inst.Root)
				x.Size, x.Direct = n.Size, n.Direct
			})
		}},
		deed{"another file's block", func(t *testing.T, p planted) {
			theirs, _ := p.all(t, p.mid)
			p.change(t, low, int(p.exact.Num), func(n *api.Node) {
				p.mark(t, low, int(n.Direct[1])-1, false)
				n.Direct[1] = theirs[3]
			})
		}},
		deed{"its own block twice", func(t *testing.T, p planted) {
			p.change(t, low, int(p.exact.Num), func(n *api.Node) {
				p.mark(t, low, int(n.Direct[1])-1, false)
				n.Direct[1] = n.Direct[0]
			})
		}},
		deed{"its own block twice, once in a row", func(t *testing.T, p planted) {
			n := p.node(t, low, int(p.mid.Num))
			data, _ := p.all(t, p.mid)
			p.mark(t, low, int(data[9])-1, false)
			p.row(t, low, n.Single, 3, n.Direct[0])
		}},
		deed{"another's block of pointers, as data", func(t *testing.T, p planted) {
			theirs := p.node(t, low, int(p.mid.Num)).Single
			p.change(t, low, int(p.exact.Num), func(n *api.Node) {
				p.mark(t, low, int(n.Direct[1])-1, false)
				n.Direct[1] = theirs
			})
		}},
		deed{"its own block of pointers, as data", func(t *testing.T, p planted) {
			n := p.node(t, low, int(p.mid.Num))
			data, _ := p.all(t, p.mid)
			p.mark(t, low, int(data[15])-1, false)
			p.row(t, low, n.Single, 9, n.Single)
		}},
		deed{"a row is two nodes'", func(t *testing.T, p planted) {
			n := p.node(t, low, int(p.mid.Num))
			i := p.grow(t, low, "/other", 1000)
			data, rows := p.all(t, i)
			for _, b := range append(data[6:], rows...) {
				p.mark(t, low, int(b)-1, false)
			}
			p.change(t, low, int(i.Num), func(x *api.Node) { x.Single = n.Single })
		}},
		deed{"a link's block is a directory's", func(t *testing.T, p planted) {
			d := p.node(t, low, int(p.inner.Num))
			p.change(t, low, int(p.sym.Num), func(n *api.Node) {
				p.mark(t, low, int(n.Direct[0])-1, false)
				n.Direct[0] = d.Direct[0]
				n.Size = 3
			})
		}},
	)
	wrongBehind(t, l)
}

// P14.2: none lacks.
func TestBlocksLack(t *testing.T) {
	lacks := func(what string, of func(p planted) api.Ino, which int) deed {
		return deed{what, func(t *testing.T, p planted) {
			i := of(p)
			data, _ := p.all(t, i)
			p.mark(t, low, int(data[which])-1, false)
			n := p.node(t, low, int(i.Num))
			switch {
			case which < 6:
				p.change(t, low, int(i.Num), func(n *api.Node) { n.Direct[which] = 0 })
			case which < 38:
				p.row(t, low, n.Single, which-6, 0)
			default:
				_, rows := p.all(t, i)
				p.row(t, low, rows[2+(which-38)/32], (which-38)%32, 0)
			}
		}}
	}
	l := []deed{
		lacks("the first block", small, 0),
		lacks("the last block", small, 1),
		lacks("a link's block", full, 0),
		lacks("a directory's", dirD, 0),
		lacks("the second of two that are full", exact, 1),
		alter("a length of one block more", exact, func(n *api.Node) { n.Size++ }),
		alter("a length without a block", none, func(n *api.Node) { n.Size = 1 }),
		alter("a directory's length without a block", hollow, func(n *api.Node) { n.Size = 16 }),
		alter("no blocks at all", small, func(n *api.Node) { n.Direct = [6]uint16{} }),
		alter("no single row", mid, func(n *api.Node) { n.Single = 0 }),
		alter("no single row, but a double one", long, func(n *api.Node) { n.Single = 0 }),
		alter("no double row", long, func(n *api.Node) { n.Double = 0 }),
		deed{"no row of the double one's", func(t *testing.T, p planted) {
			p.row(t, low, p.node(t, low, int(p.long.Num)).Double, 0, 0)
		}},
		deed{"as many as there have to be, but one further on", func(t *testing.T, p planted) {
			p.change(t, low, int(p.small.Num), func(n *api.Node) { n.Direct[1], n.Direct[2] = 0, n.Direct[1] })
		}},
		deed{"all of them further on", func(t *testing.T, p planted) {
			p.change(t, low, int(p.exact.Num), func(n *api.Node) { n.Direct = [6]uint16{4: n.Direct[0], 5: n.Direct[1]} })
		}},
		deed{"a gap in a row", func(t *testing.T, p planted) {
			n := p.node(t, low, int(p.mid.Num))
			data, _ := p.all(t, p.mid)
			p.row(t, low, n.Single, 9, 0)
			p.row(t, low, n.Single, 10, data[15])
		}},
		deed{"a gap ahead of a row", func(t *testing.T, p planted) {
			n := p.node(t, low, int(p.mid.Num))
			p.row(t, low, n.Single, 10, n.Direct[5])
			p.change(t, low, int(p.mid.Num), func(n *api.Node) { n.Direct[5] = 0 })
		}},
		deed{"a row of the double one's further on", func(t *testing.T, p planted) {
			n := p.node(t, low, int(p.long.Num))
			_, rows := p.all(t, p.long)
			p.row(t, low, n.Double, 0, 0)
			p.row(t, low, n.Double, 1, rows[2])
		}},
		deed{"a row in the double one's place", func(t *testing.T, p planted) {
			p.change(t, low, int(p.mid.Num), func(n *api.Node) { n.Single, n.Double = 0, n.Single })
		}},
	}
	for _, i := range []int{0, 5, 6, 15} {
		l = append(l, lacks("one of a file's", mid, i))
	}
	for _, i := range []int{0, 5, 6, 37, 38, 46} {
		l = append(l, lacks("one of a long file's", long, i))
	}
	wrongBehind(t, l)
}

// P14.2: none too many, the pointers beyond are 0; though it is a block that nobody else has, and its bit is set.
func TestBlocksTooMany(t *testing.T) {
	more := func(what string, of func(p planted) api.Ino, f func(n *api.Node, b uint16)) deed {
		return deed{what, func(t *testing.T, p planted) {
			i, b := of(p), p.take(t, low)
			p.change(t, low, int(i.Num), func(n *api.Node) { f(n, b) })
		}}
	}
	var l []deed
	for _, of := range []func(p planted) api.Ino{small, exact, none, dirD, hollow, linkL, full, fifo, multi} {
		l = append(l,
			more("a direct block", of, func(n *api.Node, b uint16) {
				for i := range n.Direct {
					if n.Direct[i] == 0 {
						n.Direct[i] = b
						break
					}
				}
			}),
			more("the last direct block", of, func(n *api.Node, b uint16) { n.Direct[5] = b }),
			more("a row of none", of, func(n *api.Node, b uint16) { n.Single = b }),
			more("a double row of none", of, func(n *api.Node, b uint16) { n.Double = b }),
		)
	}
	l = append(l,
		more("a double row of none beside a row", mid, func(n *api.Node, b uint16) { n.Double = b }),
		alter("the same as the last, once more", small, func(n *api.Node) { n.Direct[2] = n.Direct[1] }),
		alter("a length of a block less", exact, func(n *api.Node) { n.Size = 64 }),
		alter("no length", exact, func(n *api.Node) { n.Size = 0 }),
		alter("a directory's length of none", dirD, func(n *api.Node) { n.Size = 0 }),
	)
	for _, i := range []int{10, 11, 30, 31} {
		l = append(l, deed{fmt.Sprintf("place %d of a row", i), func(t *testing.T, p planted) {
			p.row(t, low, p.node(t, low, int(p.mid.Num)).Single, i, p.take(t, low))
		}})
	}
	for _, i := range []int{1, 2, 31} {
		l = append(l, deed{fmt.Sprintf("place %d of a double row, a row of none", i), func(t *testing.T, p planted) {
			p.row(t, low, p.node(t, low, int(p.long.Num)).Double, i, p.take(t, low))
		}}, deed{fmt.Sprintf("place %d of a double row, a row of one", i), func(t *testing.T, p planted) {
			b := p.take(t, low)
			p.row(t, low, p.node(t, low, int(p.long.Num)).Double, i, p.take(t, low, byte(b), byte(b>>8)))
		}})
	}
	for _, i := range []int{9, 10, 31} {
		l = append(l, deed{fmt.Sprintf("place %d of a double row's row", i), func(t *testing.T, p planted) {
			_, rows := p.all(t, p.long)
			p.row(t, low, rows[2], i, p.take(t, low))
		}})
	}
	wrongBehind(t, l)
}

// P14.2: the bytes behind a length are noughts, all of them, of all kinds; what is ahead of it may be anything.
func TestBytesBehind(t *testing.T) {
	var l, stays []deed
	for _, x := range []struct {
		what string
		of   func(p planted) (lab, num int)
	}{
		{"a file", func(p planted) (int, int) { return low, int(p.small.Num) }},
		{"a file with a row", func(p planted) (int, int) { return low, int(p.mid.Num) }},
		{"a file with a double row", func(p planted) (int, int) { return low, int(p.long.Num) }},
		{"a directory", func(p planted) (int, int) { return low, int(p.outer.Num) }},
		{"an own directory", func(p planted) (int, int) { return high, p.highM }},
		{"a root", func(p planted) (int, int) { return high, inst.Root }},
		{"a table", func(p planted) (int, int) { return low, inst.Table }},
		{"an audit", func(p planted) (int, int) { return left, inst.Audit }},
		{"a link", func(p planted) (int, int) { return low, int(p.sym.Num) }},
		{"a link as long as may be", func(p planted) (int, int) { return low, int(p.full.Num) }},
	} {
		last := func(t *testing.T, p planted) (block, end int) {
			lab, num := x.of(p)
			n := p.node(t, lab, num)
			data, _ := p.all(t, api.Ino{Lab: uint8(lab), Num: uint16(num)})
			return p.data(t, lab, data[len(data)-1]), int(n.Size) % 64
		}
		for _, behind := range []int{0, 1, 3, 63} {
			l = append(l, deed{fmt.Sprintf("%d bytes behind the end of %s", behind, x.what), func(t *testing.T, p planted) {
				block, end := last(t, p)
				if end == 0 {
					t.Fatalf("%s has a last block that is full", x.what)
				}
				p.poke(t, block, min(end+behind, 63), 1)
			}})
		}
		if x.what[:6] == "a file" || x.what[:6] == "a link" || x.what == "an audit" {
			stays = append(stays, deed{"the last byte of " + x.what, func(t *testing.T, p planted) {
				block, end := last(t, p)
				p.poke(t, block, end-1, 255)
			}}, deed{"the first byte of the last block of " + x.what, func(t *testing.T, p planted) {
				block, _ := last(t, p)
				p.poke(t, block, 0, 0)
			}})
		}
	}
	l = append(l,
		alter("a length of a byte less", small, func(n *api.Node) { n.Size-- }),
		alter("a directory's length of a place less", dirD, func(n *api.Node) { n.Size -= 16 }),
		alter("a link's length of a byte less", linkL, func(n *api.Node) { n.Size-- }),
		alter("a full block's length of a byte less", exact, func(n *api.Node) { n.Size-- }),
	)
	stays = append(stays,
		alter("a length of more noughts", small, func(n *api.Node) { n.Size = 128 }),
		deed{"a full block's last byte", func(t *testing.T, p planted) {
			data, _ := p.all(t, p.exact)
			p.poke(t, p.data(t, low, data[1]), 63, 255)
			p.poke(t, p.data(t, low, data[0]), 63, 254)
		}},
		deed{"blocks that nobody has", func(t *testing.T, p planted) {
			n := p.take(t, low, 1, 2, 3)
			p.do(t, low, func(g *group.Group) api.Errno { return g.Give(n) })
			p.poke(t, p.data(t, high, 60), 5, 9)
			p.poke(t, p.data(t, right, 1), 0, 9)
		}},
	)
	wrongBehind(t, l)
	rightBehind(t, stays)
}

// P14.2: the bits of the blocks that nodes have are set, no others.
func TestBits(t *testing.T) {
	var l []deed
	for lab := range labels {
		l = append(l, deed{fmt.Sprintf("a bit of no node's of %d", lab), func(t *testing.T, p planted) {
			p.mark(t, lab, p.geo(t, lab).Blocks-1, true)
		}}, deed{fmt.Sprintf("a block that is taken of %d", lab), func(t *testing.T, p planted) { p.take(t, lab) }})
	}
	for _, of := range []func(p planted) api.Ino{small, exact, mid, long, dirD, linkL} {
		l = append(l, deed{"the first block's bit", func(t *testing.T, p planted) {
			data, _ := p.all(t, of(p))
			p.mark(t, low, int(data[0])-1, false)
		}}, deed{"the last block's bit", func(t *testing.T, p planted) {
			data, _ := p.all(t, of(p))
			p.mark(t, low, int(data[len(data)-1])-1, false)
		}})
	}
	for i := range 3 {
		l = append(l, deed{fmt.Sprintf("the bit of row %d", i), func(t *testing.T, p planted) {
			_, rows := p.all(t, p.long)
			p.mark(t, low, int(rows[i])-1, false)
		}})
	}
	l = append(l, deed{"all of them", func(t *testing.T, p planted) { p.put(t, p.geo(t, high).Base, api.Block{}) }},
		deed{"one for another", func(t *testing.T, p planted) {
			data, _ := p.all(t, p.mid)
			p.mark(t, low, int(data[3])-1, false)
			p.mark(t, low, 199, true)
		}})
	wrongBehind(t, l)
}

// P14.2: nor those behind the last; in a group of as many blocks as there are bits, there is none behind.
func TestBitsBehind(t *testing.T) {
	w := begun(t, edges)
	w.isRight(t, "as it began")
	for lab := range w.c.Len() {
		for _, bit := range []int{0, 1, 3, 4, 5, 7, 8, 9, 10, 15, 16, 255, 256, 510, 511} {
			w.mark(t, lab, bit, true)
			w.isWrong(t, fmt.Sprintf("bit %d of %d", bit, lab))
			w.mark(t, lab, bit, false)
		}
	}
	w.isRight(t, "as it began, again")
}

// P14.2: a file as long as may be, and each length about where rows begin, in a group that has just so many blocks as there may be.
func TestLengths(t *testing.T) {
	w := begun(t, edges)
	i := w.make(t, 1, "/f", api.KFile)
	b := make([]byte, api.MaxFile)
	for i := range b {
		b[i] = byte(i%255 + 1)
	}
	for _, size := range []int{0, 1, 63, 64, 65, 128, 383, 384, 385, 448, 449, 2431, 2432, 2433, 2497, 4480, 4481, 16320, 16383, 16384} {
		w.lay(t, 1, int(i.Num), b[:size])
		w.isRight(t, fmt.Sprintf("a file of %d bytes", size))
		for _, other := range []int{size - 1, size + 1, size - 64, size + 64} {
			if other < 0 {
				continue
			}
			w.change(t, 1, int(i.Num), func(n *api.Node) { n.Size = uint32(other) })
			// A byte more of noughts in the same block is right: that is asked of what may be so.
			if (size+63)/64 != (other+63)/64 || other < size {
				w.isWrong(t, fmt.Sprintf("a file of %d bytes that says %d", size, other))
			}
			w.change(t, 1, int(i.Num), func(n *api.Node) { n.Size = uint32(size) })
		}
	}
	// All blocks of a group.
	j := w.make(t, 1, "/g", api.KFile)
	for at := 0; ; at += 64 {
		e := file.Write(w.open(t, 1), int(j.Num), at, b[:64])
		if e == api.ErrSpace {
			w.x.Drop()
			break
		}
		if e != api.OK {
			t.Fatalf("Write at %d = %d", at, e)
		}
		w.commit(t)
	}
	if w.used(t, 1) == 511 { // for a row and a block there was no room
		w.symlink(t, 1, "x", "/s")
	}
	if many := w.used(t, 1); many != 512 {
		t.Errorf("%d blocks are taken", many)
	}
	w.isRight(t, "a group all of whose blocks are taken")
}
