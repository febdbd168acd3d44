package conf_test

import (
	"math"
	"math/rand"
	"testing"

	"garrison/api"
	"garrison/conf"
)

// where: the chapter's words for a group's place, block by block: its label, and its data block's number.
func where(regs []api.Reg) (places [][2]int, geos []conf.Geo) {
	for range 32 {
		places = append(places, [2]int{-1, 0})
	}
	for i, r := range regs {
		g := conf.Geo{Base: len(places), Bitmap: 1, Table: r.Nodes / 2, Blocks: r.Blocks, Nodes: r.Nodes}
		for range g.Bitmap + g.Table {
			places = append(places, [2]int{i, 0})
		}
		g.Data = len(places)
		for n := range r.Blocks {
			places = append(places, [2]int{i, n + 1})
		}
		geos = append(geos, g)
	}
	return places, geos
}

func holdGeo(t *testing.T, regs []api.Reg) {
	t.Helper()
	c := made(t, regs)
	places, geos := where(regs)
	if c.Total() != len(places) {
		t.Errorf("Total() = %d, wanted %d", c.Total(), len(places))
	}
	for i, g := range geos {
		if got, ok := c.Geo(i); got != g || !ok {
			t.Errorf("Geo(%d) = %v, %v; wanted %v", i, got, ok, g)
		}
	}
	for b, p := range places {
		lab, n, ok := c.Group(b)
		if ok != (p[0] >= 0) || lab != max(p[0], 0) || n != p[1] {
			t.Fatalf("Group(%d) = %d, %d, %v; wanted %v", b, lab, n, ok, p)
		}
	}
	for _, b := range []int{-1, len(places), len(places) + 1, 1 << 32, 1<<32 + 40, math.MinInt, math.MaxInt} {
		if lab, n, ok := c.Group(b); lab != 0 || n != 0 || ok {
			t.Errorf("Group(%d) = %d, %d, %v", b, lab, n, ok)
		}
	}
	for _, i := range []int{-1, len(regs), 256, 1 << 32, math.MinInt, math.MaxInt} {
		if g, ok := c.Geo(i); g != (conf.Geo{}) || ok {
			t.Errorf("Geo(%d) = %v, %v", i, g, ok)
		}
	}
}

// P2.2: Geo, Total, Group.
func TestGeo(t *testing.T) {
	if conf.First != 32 {
		t.Errorf("First = %d", conf.First)
	}
	one := made(t, []api.Reg{reg("low", 0, 0, 0)})
	if g, ok := one.Geo(0); g != (conf.Geo{Base: 32, Bitmap: 1, Table: 8, Data: 41, Blocks: 40, Nodes: 16}) || !ok || one.Total() != 81 {
		t.Errorf("Geo(0) = %v, %v; Total() = %d", g, ok, one.Total())
	}
	holdGeo(t, lattice())
	holdGeo(t, many(64))
	r := rand.New(rand.NewSource(2))
	for range 50 {
		regs := many(1 + r.Intn(8))
		for i := range regs {
			regs[i].Blocks, regs[i].Nodes = 4+r.Intn(509), 4+2*r.Intn(63)
		}
		holdGeo(t, regs)
	}
	full := many(64)
	for i := range full {
		full[i].Blocks, full[i].Nodes = 512, 128
	}
	holdGeo(t, full)
}

// P2.2: Sum.
func TestSum(t *testing.T) {
	for _, regs := range [][]api.Reg{lattice(), many(1), many(64)} {
		want := uint64(2166136261)
		_, geos := where(regs)
		for _, g := range geos {
			for _, n := range []int{g.Base, g.Blocks, g.Nodes} {
				want = (want ^ uint64(n)) * 16777619 % (1 << 32)
			}
		}
		if got := made(t, regs).Sum(); uint64(got) != want {
			t.Errorf("Sum() = %d, wanted %d", got, want)
		}
	}
	// Worked out by hand for the chapter's example: 32, 40, 16.
	if got := made(t, []api.Reg{reg("low", 0, 0, 0)}).Sum(); got != 656680831 {
		t.Errorf("Sum() = %d", got)
	}
	other := lattice()
	other[1].Name, other[1].Frames, other[1].Clear = "other", 9, 3
	if made(t, other).Sum() != made(t, lattice(), api.Mark{Num: 1}).Sum() {
		t.Error("Sum: the groups are the same")
	}
	other[1].Nodes -= 2
	if made(t, other).Sum() == made(t, lattice()).Sum() {
		t.Error("Sum: the groups are others")
	}
}
