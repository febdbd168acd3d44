package label_test

import (
	"math"
	"slices"
	"testing"

	"garrison/api"
	"garrison/label"
)

func lab(level uint8, cats ...int) api.Label {
	l := api.Label{Level: level}
	for _, c := range cats {
		l.Cats |= 1 << c
	}
	return l
}

// samples: labels of all kinds, those of levels that aren't valid too.
func samples() []api.Label {
	var out []api.Label
	for _, level := range []uint8{0, 1, 7, 14, 15, 16, 200, 255} {
		for _, cats := range []uint16{0, 1, 2, 3, 5, 0x8000, 0x8001, 0x7fff, 0xfffe, 0xffff} {
			out = append(out, api.Label{Level: level, Cats: cats})
		}
	}
	return out
}

// below: the chapter's words for it, category by category.
func below(a, b api.Label) bool {
	if a.Level > b.Level {
		return false
	}
	for c := range 16 {
		if a.Cats&(1<<c) != 0 && b.Cats&(1<<c) == 0 {
			return false
		}
	}
	return true
}

// P1.1
func TestMake(t *testing.T) {
	for _, x := range []struct {
		level int
		cats  []int
		want  api.Label
	}{
		{0, nil, api.Label{}},
		{0, []int{}, api.Label{}},
		{15, nil, api.Label{Level: 15}},
		{3, []int{0, 12}, api.Label{Level: 3, Cats: 1<<12 | 1}},
		{3, []int{12, 0}, api.Label{Level: 3, Cats: 1<<12 | 1}},
		{1, []int{15}, api.Label{Level: 1, Cats: 0x8000}},
		{1, []int{4, 4}, api.Label{Level: 1, Cats: 16}},
		{1, []int{4, 4, 4}, api.Label{Level: 1, Cats: 16}},
		{15, []int{0, 1, 2, 3, 4, 5, 6, 7, 8, 9, 10, 11, 12, 13, 14, 15}, api.Label{Level: 15, Cats: 0xffff}},
	} {
		if l, e := label.Make(x.level, x.cats...); l != x.want || e != api.OK {
			t.Errorf("Make(%d, %v) = %v, %d", x.level, x.cats, l, e)
		}
	}
	for level := range 16 {
		for c := range 16 {
			if l, e := label.Make(level, c); l != lab(uint8(level), c) || e != api.OK {
				t.Errorf("Make(%d, %d) = %v, %d", level, c, l, e)
			}
		}
	}
}

// P1.1
func TestMakeRange(t *testing.T) {
	wrong := []int{-1, 16, 17, 63, 64, 100, 255, 256, 257, -16, -64, -255, -256, 65536, 1 << 32, math.MaxInt, math.MinInt}
	for _, w := range wrong {
		for _, x := range []struct {
			level int
			cats  []int
		}{
			{w, nil}, {w, []int{3}}, {w, []int{w}},
			{4, []int{w}}, {4, []int{w, 3}}, {4, []int{3, w}}, {0, []int{0, 15, w, 1}},
		} {
			if l, e := label.Make(x.level, x.cats...); l != (api.Label{}) || e != api.ErrRange {
				t.Errorf("Make(%d, %v) = %v, %d", x.level, x.cats, l, e)
			}
		}
	}
}

// P1.1
func TestValid(t *testing.T) {
	for level := range 256 {
		for _, cats := range []uint16{0, 1, 0xffff} {
			l := api.Label{Level: uint8(level), Cats: cats}
			if label.Valid(l) != (level <= 15) {
				t.Errorf("Valid(%v) = %v", l, label.Valid(l))
			}
		}
	}
}

// P1.1
func TestLeq(t *testing.T) {
	for _, x := range []struct {
		a, b api.Label
		want bool
	}{
		{lab(1, 2), lab(3, 2, 4), true},
		{lab(1, 2), lab(3, 4), false},
		{lab(0), lab(0), true},
		{lab(3, 1), lab(3, 1), true},
		{lab(4), lab(3), false},
		{lab(4, 1), lab(3, 1), false},
		{lab(0, 15), lab(15), false},
		{lab(0), lab(0, 15), true},
		{lab(0, 15), lab(0, 14), false},
		{lab(16), lab(15), false},
		{lab(15), lab(16), true},
	} {
		if label.Leq(x.a, x.b) != x.want {
			t.Errorf("Leq(%v, %v) = %v", x.a, x.b, !x.want)
		}
	}
	for _, a := range samples() {
		for _, b := range samples() {
			if label.Leq(a, b) != below(a, b) {
				t.Errorf("Leq(%v, %v) = %v", a, b, label.Leq(a, b))
			}
		}
	}
}

// P1.1
func TestJoin(t *testing.T) {
	for _, x := range []struct {
		l    []api.Label
		want api.Label
	}{
		{nil, lab(0)},
		{[]api.Label{}, lab(0)},
		{[]api.Label{lab(5, 3)}, lab(5, 3)},
		{[]api.Label{lab(1, 2), lab(3, 4)}, lab(3, 2, 4)},
		{[]api.Label{lab(3, 4), lab(1, 2)}, lab(3, 2, 4)},
		{[]api.Label{lab(1, 0), lab(9), lab(4, 15, 0), lab(2, 7)}, lab(9, 0, 7, 15)},
		{[]api.Label{lab(200), lab(3, 1)}, lab(200, 1)},
		{[]api.Label{label.Top(), lab(0)}, label.Top()},
	} {
		if j := label.Join(x.l...); j != x.want {
			t.Errorf("Join(%v) = %v", x.l, j)
		}
	}
	for _, a := range samples() {
		for _, b := range samples() {
			j := label.Join(a, b)
			for _, c := range samples() {
				if below(j, c) != (below(a, c) && below(b, c)) {
					t.Fatalf("Join(%v, %v) = %v: isn't the least, as to %v", a, b, j, c)
				}
			}
		}
	}
}

// P1.1
func TestMeet(t *testing.T) {
	for _, x := range []struct {
		l    []api.Label
		want api.Label
	}{
		{nil, api.Label{Level: 15, Cats: 0xffff}},
		{[]api.Label{}, api.Label{Level: 15, Cats: 0xffff}},
		{[]api.Label{lab(5, 3)}, lab(5, 3)},
		{[]api.Label{lab(1, 2, 4), lab(3, 4)}, lab(1, 4)},
		{[]api.Label{lab(3, 4), lab(1, 2, 4)}, lab(1, 4)},
		{[]api.Label{lab(9, 0, 15), lab(2, 0, 7, 15), lab(4, 15)}, lab(2, 15)},
		{[]api.Label{lab(200, 1)}, lab(15, 1)},
		{[]api.Label{lab(200, 1), lab(16, 1, 2)}, lab(15, 1)},
		{[]api.Label{label.Top(), lab(0)}, lab(0)},
	} {
		if m := label.Meet(x.l...); m != x.want {
			t.Errorf("Meet(%v) = %v", x.l, m)
		}
	}
	for _, a := range samples() {
		for _, b := range samples() {
			m := label.Meet(a, b)
			for _, c := range samples() {
				if below(c, m) != (below(c, a) && below(c, b) && c.Level <= 15) {
					t.Fatalf("Meet(%v, %v) = %v: isn't the greatest, as to %v", a, b, m, c)
				}
			}
		}
	}
}

// P1.1
func TestTop(t *testing.T) {
	if label.Top() != (api.Label{Level: 15, Cats: 0xffff}) {
		t.Errorf("Top() = %v", label.Top())
	}
}

// P1.3
func TestChain(t *testing.T) {
	for _, x := range []struct {
		l    []api.Label
		want bool
	}{
		{nil, true},
		{[]api.Label{}, true},
		{[]api.Label{lab(200, 3)}, true},
		{[]api.Label{lab(1, 2), lab(1, 2)}, true},
		{[]api.Label{lab(1, 2), lab(3, 2, 4), label.Top()}, true},
		{[]api.Label{lab(1, 2), lab(3, 4)}, false},
		{[]api.Label{lab(2), lab(1)}, false},
		{[]api.Label{lab(2), lab(1), lab(3)}, false},
		{[]api.Label{lab(0), lab(1), lab(3, 5), lab(3)}, false},
		{[]api.Label{lab(0), lab(4, 5), lab(3, 5), lab(9, 5)}, false},
		{[]api.Label{label.Top(), lab(16, 0)}, false},
	} {
		if label.Chain(x.l) != x.want {
			t.Errorf("Chain(%v) = %v", x.l, !x.want)
		}
	}
}

// P1.3
func TestBelow(t *testing.T) {
	list := []api.Label{lab(3, 1), lab(0), lab(5), lab(3, 1), lab(2, 2), lab(1, 1), label.Top(), lab(200)}
	for _, x := range []struct {
		list []api.Label
		l    api.Label
		want []int
	}{
		{nil, label.Top(), nil},
		{[]api.Label{}, label.Top(), nil},
		{list, lab(0), []int{1}},
		{list, lab(3, 1), []int{0, 1, 3, 5}},
		{list, lab(5, 2), []int{1, 2, 4}},
		{list, label.Top(), []int{0, 1, 2, 3, 4, 5, 6}},
		{list, lab(255), []int{1, 2, 7}},
		{list[2:3], lab(4, 0, 1, 2), nil},
	} {
		if got := label.Below(x.list, x.l); !slices.Equal(got, x.want) {
			t.Errorf("Below(%v, %v) = %v", x.list, x.l, got)
		}
	}
	all := samples()
	for _, l := range all {
		var want []int
		for i, x := range all {
			if below(x, l) {
				want = append(want, i)
			}
		}
		if got := label.Below(all, l); !slices.Equal(got, want) {
			t.Errorf("Below(all, %v) = %v", l, got)
		}
	}
}

// P1.3
func TestRank(t *testing.T) {
	for _, x := range []struct {
		l    api.Label
		want int
	}{
		{lab(0), 0},
		{lab(15), 15},
		{lab(3, 0, 12), 5},
		{lab(0, 15), 1},
		{label.Top(), 31},
		{api.Label{Level: 255, Cats: 0xffff}, 271},
	} {
		if label.Rank(x.l) != x.want {
			t.Errorf("Rank(%v) = %d", x.l, label.Rank(x.l))
		}
	}
	for _, a := range samples() {
		for _, b := range samples() {
			if a != b && below(a, b) && label.Rank(a) >= label.Rank(b) {
				t.Errorf("Rank: %v is below %v", a, b)
			}
		}
	}
}

// P2: R6 (what is handed in isn't changed, its spare room included).
func TestHandedIn(t *testing.T) {
	cats := []int{5, 3, 5, 99}
	label.Make(3, cats[:3]...)
	label.Make(3, cats...)
	if !slices.Equal(cats, []int{5, 3, 5, 99}) {
		t.Errorf("Make changed %v", cats)
	}
	before := samples()
	list := slices.Clone(before)
	head := list[:len(list)/2]
	label.Join(head...)
	label.Meet(head...)
	label.Chain(head)
	label.Below(head, label.Top())
	if !slices.Equal(list, before) {
		t.Errorf("changed: %v", list)
	}
}

// P2: R6 (an answer is new memory).
func TestAnswersAreNew(t *testing.T) {
	l := lab(3, 0, 12)
	a := label.Cats(l)
	a[0] = 99
	if b := label.Cats(l); !slices.Equal(b, []int{0, 12}) {
		t.Errorf("Cats = %v", b)
	}
	list := []api.Label{lab(0), lab(9), lab(1)}
	p := label.Below(list, lab(3))
	p[0] = 99
	if q := label.Below(list, lab(3)); !slices.Equal(q, []int{0, 2}) {
		t.Errorf("Below = %v", q)
	}
}
