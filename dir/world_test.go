package dir_test

import (
	"bytes"
	"fmt"
	"math"
	"math/rand"
	"slices"
	"testing"

	"garrison/api"
	"garrison/conf"
	"garrison/dir"
	"garrison/disk"
	"garrison/file"
	"garrison/group"
	"garrison/node"
	"garrison/wal"
)

// three: a configuration of a small, a great and a middling group.
const three = `
label low 0 blocks 12 nodes 8 frames 1 procs 1 opens 1 clear low
label mid 1:2 blocks 512 nodes 32 frames 4 procs 2 opens 3 clear mid
label high 2:2,3 blocks 60 nodes 16 frames 4 procs 2 opens 3 clear high
`

// The labels of three.
const (
	low = iota
	mid
	high
)

// most: how many entries a directory may have: 16384 bytes, of sixteen each.
const most = 1024

// world is a disk of three, its log at block 1, and a transaction.
type world struct {
	c *conf.Conf
	d *disk.Disk
	l *wal.Log
	x *wal.Txn
}

// onto: of these blocks; nil: of noughts.
func onto(t *testing.T, bs []api.Block) world {
	t.Helper()
	c, line, e := conf.Parse(three)
	if e != api.OK {
		t.Fatalf("Parse = %d, %d", line, e)
	}
	if bs == nil {
		bs = make([]api.Block, c.Total())
	}
	d, e := disk.Of(bs)
	if e != api.OK {
		t.Fatalf("Of = %d", e)
	}
	l, e := wal.Open(d, 1)
	if e != api.OK || l.Format() != api.OK {
		t.Fatalf("Open = %d", e)
	}
	return world{c, d, l, l.Begin()}
}

// noisy: a disk whose data blocks are of noise, as if all had been others'.
func noisy(t *testing.T) world {
	t.Helper()
	r := rand.New(rand.NewSource(9))
	w := onto(t, nil)
	bs := w.d.Image()
	for lab := range 3 {
		geo, _ := w.c.Geo(lab)
		for i := range geo.Blocks {
			r.Read(bs[geo.Data+i][:])
		}
	}
	return onto(t, bs)
}

// open: a label's group.
func (w world) open(t *testing.T, lab int) *group.Group {
	t.Helper()
	g, e := group.Open(w.x, w.c, lab)
	if e != api.OK {
		t.Fatalf("Open of %d = %d", lab, e)
	}
	return g
}

// commit: what was done is on the disk.
func (w world) commit(t *testing.T) {
	t.Helper()
	if e := w.x.Commit(); e != api.OK {
		t.Fatalf("Commit = %d", e)
	}
}

// node: a new node of a kind, of these bytes, on the disk: its number.
func (w world) node(t *testing.T, lab int, k api.Kind, b []byte) int {
	t.Helper()
	g := w.open(t, lab)
	num, e := g.Make(k)
	if e != api.OK {
		t.Fatalf("Make = %d", e)
	}
	for at := 0; at < len(b); at += 960 { // a transaction has room for few blocks
		if e := file.Write(g, num, at, b[at:min(at+960, len(b))]); e != api.OK {
			t.Fatalf("Write at %d = %d", at, e)
		}
		w.commit(t)
	}
	w.commit(t)
	return num
}

// dir: a new directory of these places.
func (w world) dir(t *testing.T, lab int, places ...api.Entry) int {
	t.Helper()
	return w.node(t, lab, api.KDir, packed(places))
}

// packed: places as bytes.
func packed(places []api.Entry) []byte {
	var b []byte
	for _, x := range places {
		p := bytesOf(x)
		b = append(b, p[:]...)
	}
	return b
}

// names: so many entries, of names that are all others'.
func names(many int) []api.Entry {
	var out []api.Entry
	for i := range many {
		out = append(out, api.Entry{Name: fmt.Sprintf("n%d", i), Num: uint16(i + 1)})
	}
	return out
}

// some: places of one letter each, empty where it is a blank; each's node is its place.
func some(s string) []api.Entry {
	var out []api.Entry
	for i, c := range s {
		if c == ' ' {
			out = append(out, api.Entry{})
			continue
		}
		out = append(out, api.Entry{Name: string(c), Num: uint16(i + 1)})
	}
	return out
}

// entries: the places that aren't empty.
func entries(places []api.Entry) []api.Entry {
	return slices.DeleteFunc(slices.Clone(places), func(x api.Entry) bool { return x == api.Entry{} })
}

// nodeOf: a node that has to be there.
func nodeOf(t *testing.T, g *group.Group, num int) api.Node {
	t.Helper()
	n, e := g.Node(num)
	if e != api.OK {
		t.Fatalf("Node(%d) = %d", num, e)
	}
	return n
}

// holds: does a directory have just these places, as its bytes and as its calls say? Has it as many blocks as they take, with noughts behind?
func holds(t *testing.T, g *group.Group, num int, places []api.Entry) {
	t.Helper()
	n := nodeOf(t, g, num)
	if b, e := file.Read(g, num, 0, 16385); !bytes.Equal(b, packed(places)) || e != api.OK {
		t.Fatalf("Read(%d) = %v, %d, wanted %v", num, b, e, places)
	}
	if l, e := dir.List(g, num); !slices.Equal(l, entries(places)) || e != api.OK {
		t.Fatalf("List(%d) = %v, %d, wanted %v", num, l, e, places)
	}
	if empty, e := dir.Empty(g, num); empty != (len(entries(places)) == 0) || e != api.OK {
		t.Fatalf("Empty(%d) of %v = %v, %d", num, places, empty, e)
	}
	data, pointers, e := file.Blocks(g, n)
	many, more := node.Spread(16 * len(places))
	if len(data) != many || len(pointers) != more || e != api.OK {
		t.Fatalf("%d places take %v, %v, %d", len(places), data, pointers, e)
	}
	if end := 16 * len(places) % 64; end > 0 {
		b, e := g.Get(data[many-1])
		if e != api.OK || !bytes.Equal(b[end:], make([]byte, 64-end)) {
			t.Fatalf("behind the end of node %d: %v, %d", num, b[end:], e)
		}
	}
}

// uses: has a group just so many blocks that are taken?
func uses(t *testing.T, g *group.Group, want int) {
	t.Helper()
	if many, _, e := g.Usage(); many != want || e != api.OK {
		t.Fatalf("Usage = %d, %d, wanted %d", many, e, want)
	}
}

// oddInts: numbers that no node has.
func oddInts() []int {
	return []int{-1, -2, -65536, 65536, 65537, 1 << 32, 1<<32 + 1, -1 << 32, math.MinInt, math.MinInt + 1, math.MaxInt - 1, math.MaxInt}
}

// oddNames: texts that are no names.
func oddNames() []string {
	return []string{"", ".", "..", "/", "a/b", "a@", "@", " ", "a b", "a\x00", "\x00", "\x7f", "ä", "abcdefghijklmno", "/bcdefghijklmno", string(make([]byte, 14)), string(make([]byte, 100))}
}

// call is a call of a directory, with its arguments but the directory: its error, and whether it answers nothing else.
type call struct {
	name string
	do   func(g *group.Group, num int) (api.Errno, bool)
}

// calls: all of them, with arguments that are right and such as aren't, of a name and of others.
func calls(name string) []call {
	out := []call{
		{"List", func(g *group.Group, num int) (api.Errno, bool) {
			l, e := dir.List(g, num)
			return e, len(l) == 0
		}},
		{"Empty", func(g *group.Group, num int) (api.Errno, bool) {
			is, e := dir.Empty(g, num)
			return e, !is
		}},
	}
	for _, s := range append(oddNames(), name, "zz") {
		out = append(out,
			call{"Find " + s, func(g *group.Group, num int) (api.Errno, bool) {
				n, e := dir.Find(g, num, s)
				return e, n == 0
			}},
			call{"Drop " + s, func(g *group.Group, num int) (api.Errno, bool) { return dir.Drop(g, num, s), true }})
		for _, n := range []uint16{0, 1, 65535} {
			out = append(out,
				call{fmt.Sprint("Add ", s, n), func(g *group.Group, num int) (api.Errno, bool) {
					return dir.Add(g, num, api.Entry{Name: s, Num: n}), true
				}},
				call{fmt.Sprint("Turn ", s, n), func(g *group.Group, num int) (api.Errno, bool) {
					return dir.Turn(g, num, api.Entry{Name: s, Num: n}), true
				}})
		}
	}
	return out
}

// allAnswer: does each call answer that error, and nothing beside it?
func allAnswer(t *testing.T, g *group.Group, num int, want api.Errno) {
	t.Helper()
	for _, c := range calls("a") {
		if e, nothing := c.do(g, num); e != want || !nothing {
			t.Errorf("%q of %d = %d, wanted %d, or it answers something", c.name, num, e, want)
		}
	}
}
