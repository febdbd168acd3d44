package image_test

import (
	"testing"

	"garrison/api"
	"garrison/conf"
	"garrison/disk"
	"garrison/image"
	"garrison/node"
	"garrison/wal"
)

// two: a label, and one above it; the first one's group begins at block 32, the second one's at 81.
const two = `
label low 0 blocks 40 nodes 16 frames 1 procs 1 opens 1 clear low
label top 3:0 blocks 40 nodes 16 frames 1 procs 1 opens 1 clear top
`

// four: a label, two above it that aren't comparable, and one above all; the first has room for the longest file.
const four = `
label low 0 blocks 300 nodes 30 frames 1 procs 1 opens 1 clear low
label left 1:2 blocks 60 nodes 20 frames 4 procs 2 opens 3 clear left
label right 1:3 blocks 60 nodes 20 frames 4 procs 2 opens 3 clear right
label high 2:2,3 blocks 60 nodes 20 frames 4 procs 2 opens 3 clear high
`

// edges: one of the least and the most that a label may have, and of more bits, or nodes, than stand in a block, or fewer.
const edges = `
label least 0 blocks 4 nodes 4 frames 1 procs 1 opens 1 clear least
label most 1 blocks 512 nodes 128 frames 1 procs 1 opens 1 clear most
label nearly 2 blocks 511 nodes 126 frames 1 procs 1 opens 1 clear nearly
label nine 3 blocks 9 nodes 6 frames 1 procs 1 opens 1 clear nine
`

// The labels of four; those of two are the first two.
const (
	low = iota
	left
	right
	high
	labels
)

// top: the second label of two.
const top = 1

// parsed: a configuration.
func parsed(t *testing.T, text string) *conf.Conf {
	t.Helper()
	c, line, e := conf.Parse(text)
	if e != api.OK {
		t.Fatalf("Parse = %d, %d", line, e)
	}
	return c
}

// most: a configuration of as many labels as there may be, each of as much as it may have.
func most(t *testing.T) *conf.Conf {
	t.Helper()
	var regs []api.Reg
	for i := range api.MaxLabels {
		name := string([]byte{'a' + byte(i/26), 'a' + byte(i%26)})
		regs = append(regs, api.Reg{Name: name, Label: api.Label{Level: uint8(i / 16), Cats: uint16(i % 16)}, Blocks: api.MaxBlocks, Nodes: api.MaxNodes, Frames: 1, Procs: 1, Opens: 1, Clear: i})
	}
	c, e := conf.New(regs, nil)
	if e != api.OK {
		t.Fatalf("New = %d", e)
	}
	return c
}

// aFile, aDir, aMulti, aLink, aFifo: items.
func aFile(lab int, path, text string) image.Item {
	return image.Item{Lab: lab, Kind: api.KFile, Path: path, Text: text}
}

func aDir(lab int, path string) image.Item {
	return image.Item{Lab: lab, Kind: api.KDir, Path: path}
}

func aMulti(lab int, path string) image.Item {
	return image.Item{Lab: lab, Kind: api.KMulti, Path: path}
}

func aLink(lab int, path, text string) image.Item {
	return image.Item{Lab: lab, Kind: api.KLink, Path: path, Text: text}
}

func aFifo(lab int, path string) image.Item {
	return image.Item{Lab: lab, Kind: api.KFifo, Path: path}
}

// built: a disk of items, that is right.
func built(t *testing.T, c *conf.Conf, items ...image.Item) *disk.Disk {
	t.Helper()
	d, at, e := image.Build(c, items)
	if e != api.OK || at != -1 || d == nil {
		t.Fatalf("P15.2: Build = %v, %d, %d", d, at, e)
	}
	if !image.Right(d, c) {
		t.Fatalf("P14.2: of %v: it isn't right", items)
	}
	return d
}

// fails: is Build's answer this item's place and this error?
func fails(t *testing.T, c *conf.Conf, at int, e api.Errno, items ...image.Item) {
	t.Helper()
	d, i, is := image.Build(c, items)
	if d != nil || i != at || is != e {
		t.Errorf("P15.2: Build of %v = %v, %d, %d, wanted %d, %d", brief(items), d != nil, i, is, at, e)
	}
}

// brief: items, of long texts only the beginning.
func brief(items []image.Item) []image.Item {
	var l []image.Item
	for _, it := range items {
		it.Text = it.Text[:min(len(it.Text), 70)]
		l = append(l, it)
	}
	return l
}

// reads: does a subject read this?
func reads(t *testing.T, d *disk.Disk, c *conf.Conf, subject int, path, want string) {
	t.Helper()
	b, e := image.Read(d, c, subject, path)
	if e != api.OK || string(b) != want {
		t.Errorf("P15.3: Read(%d, %s) = %q, %d, wanted %q", subject, path, b, e, want)
	}
}

// doesntRead: is that the error?
func doesntRead(t *testing.T, d *disk.Disk, c *conf.Conf, subject int, path string, want api.Errno) {
	t.Helper()
	b, e := image.Read(d, c, subject, path)
	if e != want || len(b) > 0 {
		t.Errorf("P15.3: Read(%d, %s) = %q, %d, wanted %d", subject, path, b, e, want)
	}
}

// text: so many bytes, of which no two pieces are alike.
func text(seed, size int) string {
	b := make([]byte, size)
	for i := range b {
		b[i] = byte(seed*41 + i*7 + i/64*3 + i/251 + 1)
	}
	return string(b)
}

// blocksOf: a label's group, as it stands on a disk.
func blocksOf(t *testing.T, d *disk.Disk, c *conf.Conf, lab int) []api.Block {
	t.Helper()
	g, ok := c.Geo(lab)
	if !ok {
		t.Fatalf("no group of %d", lab)
	}
	return d.Image()[g.Base : g.Data+g.Blocks]
}

// onto: a disk of these blocks.
func onto(t *testing.T, bs []api.Block) *disk.Disk {
	t.Helper()
	d, e := disk.Of(bs)
	if e != api.OK {
		t.Fatalf("Of = %d", e)
	}
	return d
}

// begun: a disk as it begins, its blocks laid by hand.
func begun(t *testing.T, c *conf.Conf) []api.Block {
	t.Helper()
	bs := make([]api.Block, c.Total())
	sum := uint64(2166136261)
	for lab := range c.Len() {
		g, _ := c.Geo(lab)
		for _, n := range []int{g.Base, g.Blocks, g.Nodes} {
			sum = (sum ^ uint64(n)) * 16777619 % (1 << 32)
		}
		nodes := g.Base + (g.Blocks+511)/512
		bs[nodes] = api.Block{0: 2, 1: 1, 2: 1, 32: 1, 33: 1, 34: 1}
		bs[nodes+1] = api.Block{0: 1, 1: 1, 2: 1}
	}
	for i, n := range []int{27250, c.Total(), int(sum)} {
		for j := range 4 {
			bs[0][4*i+j] = byte(n >> (8 * j))
		}
	}
	bs[1] = api.Block{0xa1, 0x67}
	return bs
}

// differ: the first block of two disks that isn't the same; below 0: none.
func differ(a, b []api.Block) int {
	if len(a) != len(b) {
		return min(len(a), len(b))
	}
	for i := range a {
		if a[i] != b[i] {
			return i
		}
	}
	return -1
}

// txn: a transaction of a disk's log.
func txn(t *testing.T, d *disk.Disk) *wal.Txn {
	t.Helper()
	l, e := wal.Open(d, 1)
	if e != api.OK {
		t.Fatalf("Open = %d", e)
	}
	return l.Begin()
}

// nodeOf: a label's node, as it stands on a disk.
func nodeOf(t *testing.T, d *disk.Disk, c *conf.Conf, lab, num int) api.Node {
	t.Helper()
	g, _ := c.Geo(lab)
	n, e := node.Read(txn(t, d), g, num)
	if e != api.OK {
		t.Fatalf("node %d of %d: %d", num, lab, e)
	}
	return n
}
