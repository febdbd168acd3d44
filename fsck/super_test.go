package fsck_test

import (
	"math"
	"testing"

	"garrison/api"
	"garrison/conf"
	"garrison/fsck"
)

// one: a configuration of one label, of so many blocks and nodes.
func one(t *testing.T, blocks, nodes int) *conf.Conf {
	t.Helper()
	c, e := conf.New([]api.Reg{{Name: "low", Blocks: blocks, Nodes: nodes, Frames: 1, Procs: 1, Opens: 1}}, nil)
	if e != api.OK {
		t.Fatalf("New = %d", e)
	}
	return c
}

// many: a configuration of as many labels as there may be, each of as much as it may have.
func many(t *testing.T) *conf.Conf {
	t.Helper()
	var regs []api.Reg
	for i := range api.MaxLabels {
		name := string([]byte{'a' + byte(i/26), 'a' + byte(i%26)})
		regs = append(regs, api.Reg{Name: name, Label: api.Label{Level: uint8(i / 16), Cats: uint16(i % 16)}, Blocks: api.MaxBlocks, Nodes: api.MaxNodes, Frames: 1, Procs: 1, Opens: 1, Clear: i})
	}
	c, e := conf.New(regs, nil)
	if e != api.OK {
		t.Fatalf("New = %d", e)
	}
	return c
}

// P14.1: worked out by hand, and by multiplying in numbers that don't wrap round.
func TestSuper(t *testing.T) {
	// The chapter's of one label: a group at 32, 40 blocks, 16 nodes.
	sum := uint64(2166136261)
	for _, n := range []uint64{32, 40, 16} {
		sum = (sum ^ n) * 16777619 % (1 << 32)
	}
	want := api.Block{0x72, 0x6a, 0, 0, 81, 0, 0, 0, byte(sum), byte(sum >> 8), byte(sum >> 16), byte(sum >> 24)}
	if b := fsck.Super(one(t, 40, 16)); b != want {
		t.Errorf("Super = %v, wanted %v", b, want)
	}
	for _, c := range []*conf.Conf{one(t, 4, 4), one(t, 512, 128), parsed(t, four), parsed(t, edges), many(t), {}} {
		b := fsck.Super(c)
		var is [3]uint64
		for i := range is {
			for j := range 4 {
				is[i] |= uint64(b[4*i+j]) << (8 * j)
			}
		}
		if is != [3]uint64{27250, uint64(c.Total()), uint64(c.Sum())} {
			t.Errorf("Super = %v, wanted %d, %d", b, c.Total(), c.Sum())
		}
		clear(b[:12])
		if b != (api.Block{}) {
			t.Errorf("behind its numbers: %v", b)
		}
	}
	// All four bytes of a sum come, and two of a total.
	c := many(t)
	b := fsck.Super(c)
	if c.Total() < 1<<15 || b[4] != byte(c.Total()) || b[5] != byte(c.Total()>>8) || c.Sum() < math.MaxUint16 {
		t.Errorf("Super of %d blocks = %v", c.Total(), b)
	}
}

// P14.1: configurations of other groups have others; those whose labels differ in what has no blocks have the same.
func TestSuperTellsApart(t *testing.T) {
	seen := map[api.Block]int{}
	l := []*conf.Conf{one(t, 40, 16), one(t, 41, 16), one(t, 40, 18), one(t, 48, 18), parsed(t, four), parsed(t, edges), many(t)}
	for i, c := range l {
		if j, ok := seen[fsck.Super(c)]; ok {
			t.Errorf("%d and %d have the same", i, j)
		}
		seen[fsck.Super(c)] = i
	}
	a := parsed(t, "label low 0 blocks 40 nodes 16 frames 1 procs 1 opens 1 clear low")
	b := parsed(t, "label base 0 blocks 40 nodes 16 frames 7 procs 3 opens 4 clear base\ntrust base 4")
	if fsck.Super(a) != fsck.Super(b) {
		t.Error("Super of the same groups differs")
	}
}

// P14.1, R8: asked again, the same.
func TestSuperAgain(t *testing.T) {
	for _, c := range []*conf.Conf{one(t, 4, 4), parsed(t, four), many(t)} {
		text := c.Text()
		a := fsck.Super(c)
		b := a
		clear(a[:])
		if fsck.Super(c) != b || c.Text() != text {
			t.Errorf("Super = %v, then another", b)
		}
	}
}

// R7
func TestSuperOfNone(t *testing.T) {
	if b := fsck.Super(nil); b != (api.Block{}) {
		t.Errorf("Super of no configuration = %v", b)
	}
}
