package conf_test

import (
	"math"
	"slices"
	"strings"
	"testing"

	"garrison/api"
	"garrison/conf"
)

// reg: a label that is right, whose clear is itself if it stands at that place.
func reg(name string, level uint8, cats uint16, clear int) api.Reg {
	return api.Reg{Name: name, Label: api.Label{Level: level, Cats: cats}, Blocks: 40, Nodes: 16, Frames: 8, Procs: 3, Opens: 4, Clear: clear}
}

// lattice: low, two beside each other, and one above all.
func lattice() []api.Reg {
	rs := []api.Reg{reg("low", 0, 0, 3), reg("left", 1, 1, 1), reg("right", 1, 2, 3), reg("top", 3, 3, 3)}
	rs[1].Blocks, rs[1].Nodes, rs[1].Frames, rs[1].Procs, rs[1].Opens = 512, 128, 256, 16, 32
	rs[2].Blocks, rs[2].Nodes, rs[2].Frames, rs[2].Procs, rs[2].Opens = 4, 4, 1, 1, 1
	return rs
}

func made(t *testing.T, regs []api.Reg, marks ...api.Mark) *conf.Conf {
	t.Helper()
	c, e := conf.New(regs, marks)
	if e != api.OK || c == nil {
		t.Fatalf("New = %v, %d", c, e)
	}
	return c
}

// many: so many labels, all different, in a row.
func many(n int) []api.Reg {
	rs := make([]api.Reg, n)
	for i := range rs {
		name := "n" + string(rune('a'+i/26%26)) + string(rune('a'+i%26))
		rs[i] = reg(name, uint8(i/16%16), uint16(i), i)
	}
	return rs
}

// P2.1
func TestNew(t *testing.T) {
	for _, regs := range [][]api.Reg{lattice(), lattice()[:1:1], many(1), many(2), many(63), many(64)} {
		if len(regs) == 1 {
			regs[0].Clear = 0
		}
		c := made(t, regs)
		for i, r := range regs {
			if got, ok := c.Reg(i); got != r || !ok {
				t.Errorf("Reg(%d) = %v, %v", i, got, ok)
			}
		}
	}
	for _, name := range []string{"a", "z", "abcdefgh", "zzzzzzzz", "label", "trust", "clear"} {
		made(t, []api.Reg{reg(name, 0, 0, 0)})
	}
}

// P2.1: the edges of each number.
func TestNewEdges(t *testing.T) {
	fields := []struct {
		name     string
		of       func(*api.Reg) *int
		low, top int
	}{
		{"Blocks", func(r *api.Reg) *int { return &r.Blocks }, 4, 512},
		{"Nodes", func(r *api.Reg) *int { return &r.Nodes }, 4, 128},
		{"Frames", func(r *api.Reg) *int { return &r.Frames }, 1, 256},
		{"Procs", func(r *api.Reg) *int { return &r.Procs }, 1, 16},
		{"Opens", func(r *api.Reg) *int { return &r.Opens }, 1, 32},
		{"Clear", func(r *api.Reg) *int { return &r.Clear }, 1, 1},
	}
	for _, f := range fields {
		tries := []int{math.MinInt, math.MaxInt, 1 << 32, 1<<32 + 8, -1, 65536 + 8, 256 + 8}
		for n := range 600 {
			tries = append(tries, n)
		}
		for _, n := range tries {
			regs := []api.Reg{reg("low", 0, 0, 0), reg("top", 1, 0, 1)}
			*f.of(&regs[1]) = n
			want := api.OK
			if n < f.low || n > f.top || f.name == "Nodes" && n%2 != 0 {
				want = api.ErrRange
			}
			if f.name == "Clear" && n == 0 {
				want = api.ErrPerm
			}
			if c, e := conf.New(regs, nil); e != want || (c != nil) != (e == api.OK) {
				t.Errorf("%s %d: %d, wanted %d", f.name, n, e, want)
			}
		}
	}
}

// P2.1: each error, and which of several comes first.
func TestNewErrors(t *testing.T) {
	change := func(f func(rs []api.Reg)) []api.Reg {
		rs := lattice()
		f(rs)
		return rs
	}
	for i, x := range []struct {
		regs  []api.Reg
		marks []api.Mark
		want  api.Errno
	}{
		{nil, nil, api.ErrMany},
		{[]api.Reg{}, nil, api.ErrMany},
		{nil, []api.Mark{{Lab: 9}}, api.ErrMany},
		{many(65), nil, api.ErrMany},
		{many(200), nil, api.ErrMany},
		{make([]api.Reg, 65), nil, api.ErrMany}, // ahead of the names
		{make([]api.Reg, 64), nil, api.ErrWord},
		{change(func(rs []api.Reg) { rs[2].Name = "" }), nil, api.ErrWord},
		{change(func(rs []api.Reg) { rs[2].Name = "abcdefghi" }), nil, api.ErrWord},
		{change(func(rs []api.Reg) { rs[2].Name = "Right" }), nil, api.ErrWord},
		{change(func(rs []api.Reg) { rs[2].Name = "righT" }), nil, api.ErrWord},
		{change(func(rs []api.Reg) { rs[2].Name = "a1" }), nil, api.ErrWord},
		{change(func(rs []api.Reg) { rs[2].Name = "a b" }), nil, api.ErrWord},
		{change(func(rs []api.Reg) { rs[2].Name = "a`" }), nil, api.ErrWord},
		{change(func(rs []api.Reg) { rs[2].Name = "a{" }), nil, api.ErrWord},
		{change(func(rs []api.Reg) { rs[2].Name = "a\n" }), nil, api.ErrWord},
		{change(func(rs []api.Reg) { rs[2].Name = "a\x00" }), nil, api.ErrWord},
		{change(func(rs []api.Reg) { rs[2].Name = "a\xff" }), nil, api.ErrWord},
		{change(func(rs []api.Reg) { rs[2].Name = "ä" }), nil, api.ErrWord},
		{change(func(rs []api.Reg) { rs[2].Name = strings.Repeat("a", 1<<20) }), nil, api.ErrWord},
		{change(func(rs []api.Reg) { rs[2].Name, rs[2].Blocks = "A", 0 }), nil, api.ErrWord},
		{change(func(rs []api.Reg) { rs[1].Blocks, rs[2].Name = 0, "" }), nil, api.ErrRange},
		{change(func(rs []api.Reg) { rs[1].Name, rs[2].Name = "low", "" }), nil, api.ErrTwice},
		{change(func(rs []api.Reg) { rs[3].Label.Level = 16 }), nil, api.ErrRange},
		{change(func(rs []api.Reg) { rs[3].Label.Level = 255 }), nil, api.ErrRange},
		{change(func(rs []api.Reg) { rs[3].Clear = 4 }), nil, api.ErrRange},
		{change(func(rs []api.Reg) { rs[3].Clear = -1 }), nil, api.ErrRange},
		{change(func(rs []api.Reg) { rs[3].Name, rs[3].Opens = "low", 0 }), nil, api.ErrRange},
		{change(func(rs []api.Reg) { rs[3].Name, rs[3].Clear = "low", 9 }), nil, api.ErrRange},
		{change(func(rs []api.Reg) { rs[3].Name = "low" }), nil, api.ErrTwice},
		{change(func(rs []api.Reg) { rs[3].Label = rs[0].Label }), nil, api.ErrTwice},
		{change(func(rs []api.Reg) { rs[3].Label = rs[2].Label }), nil, api.ErrTwice},
		{change(func(rs []api.Reg) { rs[0].Label.Level, rs[3].Name = 1, "low" }), nil, api.ErrTwice},
		{change(func(rs []api.Reg) { rs[0].Label.Level = 2 }), nil, api.ErrConf},
		{change(func(rs []api.Reg) { rs[0].Label.Cats = 4 }), nil, api.ErrConf},
		{change(func(rs []api.Reg) { rs[0].Label.Cats, rs[3].Clear = 4, 0 }), nil, api.ErrConf}, // ahead of ErrPerm
		{change(func(rs []api.Reg) { rs[0].Label.Cats = 4 }), []api.Mark{{Lab: 9}}, api.ErrConf},
		{change(func(rs []api.Reg) { rs[1].Clear = 0 }), nil, api.ErrPerm},
		{change(func(rs []api.Reg) { rs[1].Clear = 2 }), nil, api.ErrPerm}, // beside it
		{change(func(rs []api.Reg) { rs[3].Clear = 2 }), nil, api.ErrPerm},
		{change(func(rs []api.Reg) { rs[3].Clear = 2 }), []api.Mark{{Lab: 9}}, api.ErrPerm},
		{lattice(), []api.Mark{{Lab: 4, Num: 1}}, api.ErrRange},
		{lattice(), []api.Mark{{Lab: 255, Num: 1}}, api.ErrRange},
		{lattice(), []api.Mark{{Lab: 0, Num: 0}}, api.ErrRange},
		{lattice(), []api.Mark{{Lab: 0, Num: 17}}, api.ErrRange},
		{lattice(), []api.Mark{{Lab: 2, Num: 5}}, api.ErrRange},
		{lattice(), []api.Mark{{Lab: 1, Num: 129}}, api.ErrRange},
		{lattice(), []api.Mark{{Lab: 1, Num: 65535}}, api.ErrRange},
		{lattice(), []api.Mark{{Lab: 1, Num: 3}, {Lab: 1, Num: 3}}, api.ErrTwice},
		{lattice(), []api.Mark{{Lab: 1, Num: 3}, {Lab: 0, Num: 3}, {Lab: 1, Num: 3}, {}}, api.ErrTwice},
		{lattice(), []api.Mark{{Lab: 1, Num: 3}, {}, {Lab: 1, Num: 3}}, api.ErrRange},
	} {
		if c, e := conf.New(x.regs, x.marks); c != nil || e != x.want {
			t.Errorf("%d: New = %v, %d; wanted %d", i, c, e, x.want)
		}
	}
}

// P2.2: Len, Reg, Named, Find.
func TestLabels(t *testing.T) {
	for _, regs := range [][]api.Reg{lattice(), many(64)} {
		c := made(t, regs)
		if c.Len() != len(regs) {
			t.Errorf("Len() = %d", c.Len())
		}
		for i, r := range regs {
			if got, ok := c.Reg(i); got != r || !ok {
				t.Errorf("Reg(%d) = %v, %v", i, got, ok)
			}
			if at, ok := c.Named(r.Name); at != i || !ok {
				t.Errorf("Named(%q) = %d, %v", r.Name, at, ok)
			}
			if at, ok := c.Find(r.Label); at != i || !ok {
				t.Errorf("Find(%v) = %d, %v", r.Label, at, ok)
			}
		}
		for _, i := range []int{-1, len(regs), len(regs) + 1, 256, math.MinInt, math.MaxInt} {
			if r, ok := c.Reg(i); r != (api.Reg{}) || ok {
				t.Errorf("Reg(%d) = %v, %v", i, r, ok)
			}
		}
	}
	c := made(t, lattice())
	for _, s := range []string{"", "lo", "lowx", "Low", " low", "none", "\xff"} {
		if i, ok := c.Named(s); i != 0 || ok {
			t.Errorf("Named(%q) = %d, %v", s, i, ok)
		}
	}
	for _, l := range []api.Label{{Level: 1}, {Level: 3, Cats: 1}, {Cats: 1}, {Level: 1, Cats: 3}, {Level: 255, Cats: 0xffff}} {
		if i, ok := c.Find(l); i != 0 || ok {
			t.Errorf("Find(%v) = %d, %v", l, i, ok)
		}
	}
}

// P2.2: Leq.
func TestLeq(t *testing.T) {
	c := made(t, lattice())
	want := []string{"1111", "0101", "0011", "0001"}
	for a := -2; a < 7; a++ {
		for b := -2; b < 7; b++ {
			there := a >= 0 && a < 4 && b >= 0 && b < 4
			if c.Leq(a, b) != (there && want[a][b] == '1') {
				t.Errorf("Leq(%d, %d) = %v", a, b, c.Leq(a, b))
			}
		}
	}
	for _, i := range []int{math.MinInt, math.MaxInt, 256, 1 << 32} {
		if c.Leq(i, 0) || c.Leq(0, i) || c.Leq(i, i) {
			t.Errorf("Leq: %d is there", i)
		}
	}
}

// P2.2: Trusted.
func TestTrusted(t *testing.T) {
	marks := []api.Mark{{Lab: 0, Num: 5}, {Lab: 2, Num: 1}, {Lab: 0, Num: 16}, {Lab: 1, Num: 128}, {Lab: 0, Num: 1}}
	c := made(t, lattice(), marks...)
	for lab := range 256 {
		for num := range 300 {
			m := api.Mark{Lab: uint8(lab), Num: uint16(num)}
			if c.Trusted(m) != slices.Contains(marks, m) {
				t.Errorf("Trusted(%v) = %v", m, c.Trusted(m))
			}
		}
	}
	if made(t, lattice()).Trusted(api.Mark{Num: 5}) {
		t.Error("Trusted: none is marked")
	}
}

// P2.2: Slot.
func TestSlot(t *testing.T) {
	for _, n := range []int{1, 2, 3, 5, 63, 64} {
		c := made(t, many(n))
		for _, x := range []uint64{0, 1, 2, 3, 4, 5, 62, 63, 64, 65, 1000, 1 << 32, 1<<63 - 1, 1 << 63, 1<<63 + 1, math.MaxUint64 - 1, math.MaxUint64} {
			if got := c.Slot(x); got != int(x%uint64(n)) {
				t.Errorf("%d labels: Slot(%d) = %d", n, x, got)
			}
		}
	}
}

// P1, P2: R7; an object that New hasn't made, too.
func TestNil(t *testing.T) {
	for _, c := range []*conf.Conf{nil, {}} {
		if c.Len() != 0 || c.Total() != 0 || c.Text() != "" || c.Slot(7) != 0 || c.Sum() != 2166136261 {
			t.Errorf("%d %d %q %d %d", c.Len(), c.Total(), c.Text(), c.Slot(7), c.Sum())
		}
		if r, ok := c.Reg(0); r != (api.Reg{}) || ok {
			t.Errorf("Reg = %v, %v", r, ok)
		}
		if g, ok := c.Geo(0); g != (conf.Geo{}) || ok {
			t.Errorf("Geo = %v, %v", g, ok)
		}
		if i, ok := c.Named(""); i != 0 || ok {
			t.Errorf("Named = %v, %v", i, ok)
		}
		if i, ok := c.Find(api.Label{}); i != 0 || ok {
			t.Errorf("Find = %v, %v", i, ok)
		}
		if lab, n, ok := c.Group(32); lab != 0 || n != 0 || ok {
			t.Errorf("Group = %d, %d, %v", lab, n, ok)
		}
		if c.Leq(0, 0) || c.Trusted(api.Mark{}) {
			t.Error("Leq, Trusted")
		}
	}
}

// P2: R6 (what is handed in is neither changed nor kept, spare room included).
func TestHandedIn(t *testing.T) {
	regs, marks := many(9), []api.Mark{{Lab: 1, Num: 2}, {Lab: 0, Num: 2}, {Lab: 7, Num: 7}}
	for _, cut := range []int{3, 8} {
		rs, ms := slices.Clone(regs), slices.Clone(marks)
		c := made(t, rs[:cut], ms[:2]...)
		text := c.Text()
		if !slices.Equal(rs, regs) || !slices.Equal(ms, marks) {
			t.Fatalf("changed: %v, %v", rs, ms)
		}
		for i := range rs {
			rs[i] = reg("gone", 9, 9, 0)
		}
		clear(ms)
		if r, _ := c.Reg(1); r != regs[1] || c.Text() != text || !c.Trusted(marks[0]) || c.Trusted(api.Mark{}) || !c.Leq(0, 1) {
			t.Error("kept")
		}
	}
}
