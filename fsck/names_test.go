package fsck_test

import (
	"fmt"
	"strings"
	"testing"

	"garrison/api"
	"garrison/dir"
	"garrison/inst"
)

// places: a directory has just these places, be they right or not.
func (w world) places(t *testing.T, lab, num int, l ...[16]byte) {
	t.Helper()
	var b []byte
	for _, x := range l {
		b = append(b, x[:]...)
	}
	w.lay(t, lab, num, b)
}

// place: of a name and a node.
func place(num uint16, name string) [16]byte {
	return dir.Pack(api.Entry{Name: name, Num: num})
}

// raw: a place of these bytes.
func raw(num uint16, s string) [16]byte {
	b := [16]byte{byte(num), byte(num >> 8)}
	copy(b[2:], s)
	return b
}

// links: a node says that it has so many.
func (w world) links(t *testing.T, lab int, i api.Ino, n uint8) {
	t.Helper()
	w.change(t, lab, int(i.Num), func(x *api.Node) { x.Links = n })
}

// P14.2: nodes 1 to 3 are a KDir, a KFile, a KFile, of each label.
func TestFixed(t *testing.T) {
	var l []deed
	for lab := range labels {
		for num, own := range []api.Kind{1: api.KDir, 2: api.KFile, 3: api.KFile} {
			for _, k := range []api.Kind{api.KFree, api.KFile, api.KDir, api.KMulti, api.KLink, api.KFifo, 6} {
				if num == 0 || k == own {
					continue
				}
				l = append(l, deed{fmt.Sprintf("node %d of %d is a %d", num, lab, k), func(t *testing.T, p planted) {
					p.change(t, lab, num, func(n *api.Node) { n.Kind = k })
				}}, deed{fmt.Sprintf("node %d of %d is a new %d", num, lab, k), func(t *testing.T, p planted) {
					n := api.Node{Kind: k, Links: 1, Gen: 1}
					switch k {
					case api.KFree:
						n.Links = 0
					case api.KLink:
						n.Size, n.Direct[0] = 1, p.take(t, lab, 'x')
					}
					q := begun(t, four)
					q.set(t, lab, num, n)
					if k == api.KLink {
						n.Direct[0] = q.take(t, lab, 'x')
						q.set(t, lab, num, n)
					}
					q.isWrong(t, "a new disk")
					p.set(t, lab, num, n)
				}})
			}
			if num > 0 {
				l = append(l, deed{fmt.Sprintf("node %d of %d has two links", num, lab), func(t *testing.T, p planted) {
					p.links(t, lab, api.Ino{Num: uint16(num)}, 2)
				}})
			}
		}
	}
	wrongBehind(t, l)
}

// P14.2: directories' places are right.
func TestPlaces(t *testing.T) {
	var l []deed
	for _, x := range [][16]byte{
		raw(0, "x"), raw(0, "\x00\x00\x00\x00\x00\x00\x00\x00\x00\x00\x00\x00\x00x"), raw(13, ""), raw(256, ""),
		raw(13, "."), raw(13, ".."), raw(13, "a b"), raw(13, "a/b"), raw(13, "a@b"), raw(13, "@"), raw(13, "/"),
		raw(13, "a\x7f"), raw(13, "a\x80"), raw(13, "a\xff"), raw(13, " a"), raw(13, "a "), raw(13, "\x1fa"), raw(13, "a\nb"),
		raw(13, "a\x00b"), raw(13, "\x00a"), raw(13, "a\x00\x00\x00\x00\x00\x00\x00\x00\x00\x00\x00\x00b"), raw(13, "thirteen.more@"),
	} {
		l = append(l, deed{fmt.Sprintf("a place of %q", x), func(t *testing.T, p planted) {
			i := p.grow(t, low, "/new", 10)
			p.leave(t, low, inst.Root, "new")
			if x[0] == 13 && x[1] == 0 {
				x[0] = byte(i.Num)
			}
			p.places(t, low, int(p.hollow.Num), x)
		}})
	}
	wrongBehind(t, l)
	var stays []deed
	for _, s := range []string{"x", "...", ".x", "x.", "!", "~", "\"", "fourteen.bytes", "..............", "A", "a", "0"} {
		stays = append(stays, deed{fmt.Sprintf("a name %q", s), func(t *testing.T, p planted) {
			i := p.grow(t, low, "/new", 10)
			p.leave(t, low, inst.Root, "new")
			p.places(t, low, int(p.hollow.Num), place(i.Num, s))
		}})
	}
	empty := [16]byte{}
	for _, n := range []int{1, 3, 4, 5, 30} {
		stays = append(stays, deed{fmt.Sprintf("%d empty places", n), func(t *testing.T, p planted) {
			p.places(t, low, int(p.hollow.Num), make([][16]byte, n)...)
		}})
	}
	stays = append(stays, deed{"empty places ahead, between, behind", func(t *testing.T, p planted) {
		i := p.grow(t, low, "/new", 10)
		p.link(t, low, "/new", "/k/c")
		p.leave(t, low, inst.Root, "new")
		p.leave(t, low, p.ownK, "c")
		p.places(t, low, int(p.hollow.Num), empty, place(i.Num, "c"), empty, empty, place(i.Num, "d"), empty)
	}})
	rightBehind(t, stays)
}

// P14.2: no name twice in one directory; in others it may be.
func TestNamesTwice(t *testing.T) {
	twice := func(what, a, b string) deed {
		return deed{what, func(t *testing.T, p planted) {
			p.links(t, low, p.small, 7)
			p.places(t, low, int(p.hollow.Num), place(p.small.Num, a), place(p.small.Num, b))
		}}
	}
	wrongBehind(t, []deed{
		twice("a name twice", "x", "x"),
		twice("a long name twice", "fourteen.bytes", "fourteen.bytes"),
		{"a name twice, of two nodes", func(t *testing.T, p planted) {
			p.links(t, low, p.small, 6)
			p.links(t, low, p.mid, 2)
			p.places(t, low, int(p.hollow.Num), place(p.small.Num, "x"), [16]byte{}, place(p.mid.Num, "x"))
		}},
		{"a name twice, far apart", func(t *testing.T, p planted) {
			p.links(t, low, p.small, 15)
			var l [][16]byte
			for i := range 10 {
				l = append(l, place(p.small.Num, string(rune('a'+i%9))))
			}
			p.places(t, low, int(p.hollow.Num), l...)
		}},
	})
	rightBehind(t, []deed{
		twice("two names", "x", "y"),
		twice("two names, of small and of great letters", "x", "X"),
		twice("two names, one further than the other", "x", "xx"),
		twice("two names that differ at their end", "fourteen.bytes", "fourteen.bytez"),
		{"the same names in two directories", func(t *testing.T, p planted) {
			p.link(t, low, "/small", "/hollow/e")
			p.link(t, low, "/mid", "/hollow/q")
			p.make(t, high, "/small", api.KDir)
			p.make(t, high, "/small/small", api.KDir)
		}},
	})
}

// P14.2: entries' nodes aren't free, none of 1 to 3.
func TestEntriesNodes(t *testing.T) {
	var l []deed
	for lab := range labels {
		for _, num := range []int{1, 2, 3} {
			l = append(l, deed{fmt.Sprintf("node %d of %d has a name", num, lab), func(t *testing.T, p planted) {
				p.enter(t, lab, inst.Root, "own", num)
			}}, deed{fmt.Sprintf("node %d of %d has a name, and says so", num, lab), func(t *testing.T, p planted) {
				p.enter(t, lab, inst.Root, "own", num)
				p.links(t, lab, api.Ino{Num: uint16(num)}, 2)
			}})
		}
		for _, over := range []int{0, 1, 2, 100, 256, 512, 65535} {
			l = append(l, deed{fmt.Sprintf("a node that isn't there (%d) of %d", over, lab), func(t *testing.T, p planted) {
				p.enter(t, lab, inst.Root, "own", min(p.geo(t, lab).Nodes+over, 65535)) // of 0 the last one, that is free
			}})
		}
	}
	l = append(l, deed{"a node that has gone", func(t *testing.T, p planted) {
		p.set(t, low, int(p.none.Num), api.Node{Gen: p.none.Gen})
	}}, deed{"a node that has gone, in a directory in another one", func(t *testing.T, p planted) {
		p.set(t, low, int(p.leaf.Num), api.Node{Gen: p.leaf.Gen})
	}}, deed{"a node that has gone, of another group", func(t *testing.T, p planted) {
		p.set(t, high, int(p.deep.Num), api.Node{Gen: p.deep.Gen})
	}}, deed{"a directory's node that has gone", func(t *testing.T, p planted) {
		p.set(t, low, int(p.hollow.Num), api.Node{Gen: p.hollow.Gen})
	}})
	wrongBehind(t, l)
}

// P14.2: each node has as many names as links.
func TestLinks(t *testing.T) {
	wrongBehind(t, []deed{
		{"a file without a name", func(t *testing.T, p planted) { p.leave(t, low, inst.Root, "mid") }},
		{"a pipe without a name", func(t *testing.T, p planted) { p.leave(t, low, inst.Root, "p") }},
		{"a link without a name", func(t *testing.T, p planted) { p.leave(t, low, inst.Root, "l") }},
		{"a directory without a name", func(t *testing.T, p planted) { p.leave(t, low, inst.Root, "hollow") }},
		{"an own of each without a name", func(t *testing.T, p planted) { p.leave(t, low, inst.Root, "m") }},
		{"a file of another group without a name", func(t *testing.T, p planted) { p.leave(t, high, int(p.hall.Num), "x") }},
		{"one name more than links", func(t *testing.T, p planted) { p.enter(t, low, int(p.inner.Num), "z", int(p.small.Num)) }},
		{"one name less than links", func(t *testing.T, p planted) { p.leave(t, low, int(p.outer.Num), "q") }},
		{"more links", func(t *testing.T, p planted) { p.links(t, low, p.mid, 2) }},
		{"many more links", func(t *testing.T, p planted) { p.links(t, low, p.small, 255) }},
		{"a link with a link more", func(t *testing.T, p planted) { p.links(t, low, p.sym, 2) }},
		{"a new node", func(t *testing.T, p planted) {
			p.set(t, right, 20, api.Node{Kind: api.KFile, Links: 1, Gen: 1})
		}},
		{"a name of the node beside it", func(t *testing.T, p planted) {
			p.leave(t, low, inst.Root, "mid")
			p.enter(t, low, inst.Root, "mid", int(p.long.Num))
		}},
	})
	rightBehind(t, []deed{
		{"one more of both", func(t *testing.T, p planted) {
			p.enter(t, low, int(p.inner.Num), "z", int(p.small.Num))
			p.links(t, low, p.small, 6)
		}},
		{"one less of both", func(t *testing.T, p planted) {
			p.leave(t, low, int(p.outer.Num), "q")
			p.links(t, low, p.small, 4)
		}},
		{"two names of a link, a pipe", func(t *testing.T, p planted) {
			p.link(t, low, "/l", "/l2")
			p.link(t, low, "/p", "/p2")
		}},
		{"names swapped", func(t *testing.T, p planted) {
			p.leave(t, low, inst.Root, "mid")
			p.leave(t, low, inst.Root, "hollow")
			p.enter(t, low, inst.Root, "mid", int(p.hollow.Num))
			p.enter(t, low, inst.Root, "hollow", int(p.mid.Num))
		}},
	})
}

// P14.2: as many names as a node's byte says, up to the most that it can; not so many more as the byte would lose.
func TestManyLinks(t *testing.T) {
	for _, n := range []int{250, 251, 255, 256, 257} {
		w := begun(t, four)
		i := w.make(t, low, "/d", api.KDir)
		j := w.make(t, low, "/f", api.KFile)
		var b []byte
		for k := range n - 1 {
			x := place(j.Num, fmt.Sprintf("n%d", k))
			b = append(b, x[:]...)
		}
		w.lay(t, low, int(i.Num), b)
		for _, links := range []int{n % 256, n - 1, 1, 255} {
			if links < 1 || links > 255 {
				continue
			}
			w.links(t, low, j, uint8(links))
			if what := fmt.Sprintf("%d names, %d links", n, links); n == links {
				w.isRight(t, what)
			} else {
				w.isWrong(t, what)
			}
		}
	}
}

// P14.2: KDirs and KMultis have one name.
func TestDirsOfOneName(t *testing.T) {
	var l []deed
	for _, x := range []struct {
		what string
		of   func(p planted) api.Ino
	}{{"a directory", hollow}, {"a directory with entries", dirD}, {"an own of each", multi}} {
		l = append(l, deed{x.what + " has two names", func(t *testing.T, p planted) {
			p.enter(t, low, inst.Root, "z", int(x.of(p).Num))
		}}, deed{x.what + " has two names, and says so", func(t *testing.T, p planted) {
			p.enter(t, low, inst.Root, "z", int(x.of(p).Num))
			p.links(t, low, x.of(p), 2)
		}}, deed{x.what + " has two links", func(t *testing.T, p planted) { p.links(t, low, x.of(p), 2) }})
	}
	l = append(l, deed{"an own directory has a name, too", func(t *testing.T, p planted) {
		p.enter(t, low, inst.Root, "z", p.ownM)
	}}, deed{"an own directory has a name, too, and says so", func(t *testing.T, p planted) {
		p.enter(t, low, inst.Root, "z", p.ownM)
		p.links(t, low, api.Ino{Num: uint16(p.ownM)}, 2)
	}}, deed{"an own directory has two links", func(t *testing.T, p planted) {
		p.links(t, low, api.Ino{Num: uint16(p.ownM)}, 2)
	}})
	wrongBehind(t, l)
	rightBehind(t, []deed{{"an own directory is a name's instead", func(t *testing.T, p planted) {
		p.records(t, low, inst.Record{Of: p.k, Own: uint16(p.ownK)})
		p.enter(t, low, inst.Root, "z", p.ownM)
	}}, {"a name's directory is an own one instead", func(t *testing.T, p planted) {
		p.records(t, low, inst.Record{Of: p.k, Own: uint16(p.ownK)}, inst.Record{Of: p.m, Own: uint16(p.ownM)}, inst.Record{Of: api.Ino{Num: 9, Gen: 9}, Own: p.hollow.Num})
		p.leave(t, low, inst.Root, "hollow")
	}}})
}

// P14.2: no directory lies in itself.
func TestLoops(t *testing.T) {
	// Each directory still has one name.
	move := func(what, name string, of, into func(p planted) int) deed {
		return deed{what, func(t *testing.T, p planted) {
			p.leave(t, low, inst.Root, name)
			p.enter(t, low, into(p), "z", of(p))
		}}
	}
	num := func(of func(p planted) api.Ino) func(p planted) int {
		return func(p planted) int { return int(of(p).Num) }
	}
	ownM := func(p planted) int { return p.ownM }
	ownK := func(p planted) int { return p.ownK }
	inE := func(p planted) int { return int(p.inner.Num) }
	multiK := func(p planted) api.Ino { return p.k }
	wrongBehind(t, []deed{
		move("a directory in itself", "hollow", num(hollow), num(hollow)),
		move("a directory with entries in itself", "d", num(dirD), num(dirD)),
		move("a directory in one of its own", "d", num(dirD), inE),
		move("an own of each in the label's own of it", "m", num(multi), ownM),
		{"two in each other", func(t *testing.T, p planted) {
			p.leave(t, low, inst.Root, "hollow")
			p.leave(t, low, inst.Root, "d")
			p.enter(t, low, int(p.hollow.Num), "d", int(p.outer.Num))
			p.enter(t, low, int(p.inner.Num), "hollow", int(p.hollow.Num))
		}},
		{"an own of each in a directory of the label's own of it", func(t *testing.T, p planted) {
			p.leave(t, low, inst.Root, "m")
			p.leave(t, low, inst.Root, "d")
			p.enter(t, low, p.ownM, "d", int(p.outer.Num))
			p.enter(t, low, int(p.inner.Num), "m", int(p.m.Num))
		}},
		{"two own of each in each other's own", func(t *testing.T, p planted) {
			p.leave(t, low, inst.Root, "m")
			p.leave(t, low, inst.Root, "k")
			p.enter(t, low, p.ownM, "k", int(p.k.Num))
			p.enter(t, low, p.ownK, "m", int(p.m.Num))
		}},
		{"the own of one in its own's own", func(t *testing.T, p planted) {
			// Each one's own directory becomes the other's: m lies in k's, that is m's now.
			p.leave(t, low, inst.Root, "m")
			p.enter(t, low, p.ownK, "m", int(p.m.Num))
			p.isRight(t, "ahead of it")
			p.records(t, low, inst.Record{Of: p.k, Own: uint16(p.ownM)}, inst.Record{Of: p.m, Own: uint16(p.ownK)})
		}},
		{"in another group", func(t *testing.T, p planted) {
			p.leave(t, high, p.highM, "h")
			p.enter(t, high, int(p.hall.Num), "h", int(p.hall.Num))
		}},
		{"of all nodes that there are", func(t *testing.T, p planted) {
			g := p.geo(t, right)
			for i := 4; i <= g.Nodes; i++ {
				p.set(t, right, i, api.Node{Kind: api.KDir, Links: 1, Gen: 1})
			}
			for i := 4; i <= g.Nodes; i++ {
				p.enter(t, right, i, "z", max(4, (i+1)%(g.Nodes+1)))
			}
		}},
	})
	rightBehind(t, []deed{
		move("a directory in another one", "hollow", num(hollow), inE),
		move("a directory in an own one", "d", num(dirD), ownM),
		move("an own of each in another's own", "m", num(multi), ownK),
		move("an own of each in another's own, the other way", "k", num(multiK), ownM),
		{"all nodes that there are, each in the next", func(t *testing.T, p planted) {
			g := p.geo(t, right)
			for i := 4; i <= g.Nodes; i++ {
				p.set(t, right, i, api.Node{Kind: api.KDir, Links: 1, Gen: 1})
			}
			for i := 5; i <= g.Nodes; i++ {
				p.enter(t, right, i, "z", i-1)
			}
			p.enter(t, right, inst.Root, "z", g.Nodes)
		}},
		{"what is own of each in what was the own of another in its place", func(t *testing.T, p planted) {
			// The record is of an earlier generation: nothing lies in it any more.
			p.change(t, low, int(p.m.Num), func(n *api.Node) { n.Gen++ })
			p.leave(t, low, inst.Root, "m")
			p.enter(t, low, p.ownM, "m", int(p.m.Num))
		}},
		{"a directory in what would be its own, were it of each", func(t *testing.T, p planted) {
			p.change(t, low, int(p.m.Num), func(n *api.Node) { n.Kind = api.KDir })
			p.leave(t, low, inst.Root, "m")
			p.enter(t, low, p.ownM, "m", int(p.m.Num))
		}},
		{"one of another label's of the same number", func(t *testing.T, p planted) {
			// high's own of low's m has in it the node of high's that has m's number.
			n := int(p.m.Num)
			if n > 20 {
				t.Fatalf("m is %d", n)
			}
			p.set(t, high, n, api.Node{Kind: api.KMulti, Links: 1, Gen: p.m.Gen})
			p.enter(t, high, p.highM, strings.Repeat("z", 14), n)
		}},
	})
}
