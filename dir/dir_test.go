package dir_test

import (
	"fmt"
	"math/rand"
	"slices"
	"testing"

	"garrison/api"
	"garrison/dir"
	"garrison/group"
)

// The chapter's example.
func TestExample(t *testing.T) {
	w := noisy(t)
	g := w.open(t, low)
	num := w.dir(t, low)
	for i, s := range []string{"a", "b", "c"} {
		if e := dir.Add(g, num, api.Entry{Name: s, Num: uint16(i + 4)}); e != api.OK {
			t.Fatalf("Add(%s) = %d", s, e)
		}
	}
	if e := dir.Drop(g, num, "b"); e != api.OK {
		t.Fatalf("Drop = %d", e)
	}
	if e := dir.Add(g, num, api.Entry{Name: "d", Num: 9}); e != api.OK {
		t.Fatalf("Add = %d", e)
	}
	holds(t, g, num, []api.Entry{{Name: "a", Num: 4}, {Name: "d", Num: 9}, {Name: "c", Num: 6}})
}

// P9.2: a new directory has nothing.
func TestNew(t *testing.T) {
	w := noisy(t)
	num := w.dir(t, high)
	g := w.open(t, high)
	holds(t, g, num, nil)
	for _, s := range append(oddNames(), "a") {
		if n, e := dir.Find(g, num, s); n != 0 || e != api.ErrNone {
			t.Errorf("Find(%q) = %d, %d", s, n, e)
		}
	}
	if w.x.Len() > 0 {
		t.Error("what only looks put something")
	}
}

// P9.2: which directory's, which group's: others stay as they are.
func TestOthersStay(t *testing.T) {
	w := noisy(t)
	var nums [3][2]int
	for lab := range 3 {
		for i := range 2 {
			nums[lab][i] = w.dir(t, lab, some("xyz")[:2+i]...)
		}
	}
	g := w.open(t, mid)
	dir.Add(g, nums[mid][1], api.Entry{Name: "w", Num: 77})
	dir.Drop(g, nums[mid][1], "x")
	dir.Turn(g, nums[mid][1], api.Entry{Name: "y", Num: 88})
	w.commit(t)
	for lab := range 3 {
		for i := range 2 {
			want := some("xyz")[:2+i]
			if lab == mid && i == 1 {
				want = []api.Entry{{}, {Name: "y", Num: 88}, {Name: "z", Num: 3}, {Name: "w", Num: 77}}
			}
			holds(t, w.open(t, lab), nums[lab][i], want)
		}
	}
}

// P9.2: in the first empty place, or behind all; the others stay where they are.
func TestAdd(t *testing.T) {
	for before, after := range map[string]string{
		"": "n", " ": "n", "  ": "n ", "a": "an", "ab": "abn", "abcd": "abcdn", " a": "na", "a b": "anb", "a  b": "an b", "  ab": "n ab", "ab ": "abn", "a b c": "anb c",
		"abcdefgh": "abcdefghn", "abc efgh": "abcnefgh", "abcd fgh": "abcdnfgh", "abcdefg i": "abcdefgni", "abcdefghijklmop": "abcdefghijklmopn",
	} {
		w := noisy(t)
		num := w.dir(t, high, some(before)...)
		g := w.open(t, high)
		was := nodeOf(t, g, num)
		want := some(after)
		want[slices.IndexFunc(want, func(x api.Entry) bool { return x.Name == "n" })].Num = 4660
		if e := dir.Add(g, num, api.Entry{Name: "n", Num: 4660}); e != api.OK {
			t.Errorf("%q: Add = %d", before, e)
		}
		holds(t, g, num, want)
		if n, e := dir.Find(g, num, "n"); n != 4660 || e != api.OK {
			t.Errorf("%q: Find = %d, %d", before, n, e)
		}
		is := nodeOf(t, g, num)
		if is.Kind != was.Kind || is.Links != was.Links || is.Gen != was.Gen {
			t.Errorf("%q: the node is %v, was %v", before, is, was)
		}
	}
}

// P9.2: Name's error, then ErrRange of no node, then ErrExists: the first is answered, and nothing is put.
func TestAddErrors(t *testing.T) {
	w := noisy(t)
	num := w.dir(t, high, some("ab d")...)
	g := w.open(t, high)
	for _, n := range []uint16{0, 1, 2, 65535} {
		for _, s := range oddNames() {
			if e := dir.Add(g, num, api.Entry{Name: s, Num: n}); e != wantName(s) {
				t.Errorf("Add(%q, %d) = %d, wanted %d", s, n, e, wantName(s))
			}
		}
		for _, s := range []string{"a", "b", "d", "c", "A", "abcdefghijklmn"} {
			want := api.ErrRange
			if n > 0 {
				want = api.ErrExists
				if !slices.Contains([]string{"a", "b", "d"}, s) {
					continue
				}
			}
			if e := dir.Add(g, num, api.Entry{Name: s, Num: n}); e != want {
				t.Errorf("Add(%q, %d) = %d, wanted %d", s, n, e, want)
			}
		}
	}
	if w.x.Len() > 0 {
		t.Error("what failed put something")
	}
	holds(t, g, num, some("ab d"))
}

// P9.2: names are held against each other as a whole, byte by byte; each node may have several, whether or not there is such a node.
func TestAddAlike(t *testing.T) {
	w := noisy(t)
	num := w.dir(t, high)
	g := w.open(t, high)
	var want []api.Entry
	for _, s := range []string{"abcdefghijklmn", "abcdefghijklm", "abcdefghijklmo", "Abcdefghijklmn", "a", "A", "aa", "...", "....", ".a", "0", "00", "~"} {
		for _, n := range []uint16{65535, 1} {
			x := api.Entry{Name: s, Num: n}
			if n == 65535 {
				want = append(want, x)
			}
			if e := dir.Add(g, num, x); e != api.OK && n == 65535 || e != api.ErrExists && n == 1 {
				t.Errorf("Add(%v) = %d", x, e)
			}
		}
		holds(t, g, num, want)
	}
}

// P9.2: the number of a name, and ErrNone; an empty place has no name, not even an empty one.
func TestFind(t *testing.T) {
	w := noisy(t)
	places := []api.Entry{{}, {Name: "a", Num: 1}, {Name: "b", Num: 256}, {}, {Name: "abcdefghijklmn", Num: 65535}, {Name: "c", Num: 32768}, {}}
	num := w.dir(t, high, places...)
	g := w.open(t, high)
	for _, x := range entries(places) {
		if n, e := dir.Find(g, num, x.Name); n != int(x.Num) || e != api.OK {
			t.Errorf("Find(%q) = %d, %d, wanted %d", x.Name, n, e, x.Num)
		}
		for _, s := range []string{x.Name + "x", x.Name + "\x00", "x" + x.Name, " " + x.Name, x.Name + "/", "A"} {
			if n, e := dir.Find(g, num, s); n != 0 || e != api.ErrNone {
				t.Errorf("Find(%q) = %d, %d", s, n, e)
			}
		}
	}
	for _, s := range oddNames() {
		if n, e := dir.Find(g, num, s); n != 0 || e != api.ErrNone {
			t.Errorf("Find(%q) = %d, %d", s, n, e)
		}
	}
	holds(t, g, num, places)
	if w.x.Len() > 0 {
		t.Error("what only looks put something")
	}
}

// P9.2: its place is empty; the others stay where they are; empty places at the end are cut, whether it was the last or not.
func TestDrop(t *testing.T) {
	for before, after := range map[string]string{
		"n": "", "an": "a", "na": " a", "anb": "a b", "abcn": "abc", "abcdn": "abcd", "abcnd": "abc d", "abcdne": "abcd e", " n": "", "    n": "", "a  n": "a", "a   n": "a", " a n": " a",
		"abcd    n": "abcd", "abc     n": "abc", "        n": "", "n ": "", "an ": "a", "na ": " a", "na   ": " a", "na      ": " a", "anbcdefg ": "a bcdefg", " n ": "", "abcdefghijklmopqrstuvwxyz": "abcdefghijklmopqrstuvwxyz",
		"abcdefghijklmopqrstuvwxyzn": "abcdefghijklmopqrstuvwxyz", "abcdefghijklmopqrstuvwxyABn": "abcdefghijklmopqrstuvwxyAB", "abcd                       n": "abcd",
	} {
		w := noisy(t)
		num := w.dir(t, high, some(before)...)
		g := w.open(t, high)
		was := nodeOf(t, g, num)
		want := api.OK
		if before == after {
			want = api.ErrNone
		}
		if e := dir.Drop(g, num, "n"); e != want {
			t.Errorf("%q: Drop = %d", before, e)
		}
		holds(t, g, num, some(after))
		data, pointers := spread(len(after))
		uses(t, g, data+pointers)
		is := nodeOf(t, g, num)
		if is.Kind != was.Kind || is.Links != was.Links || is.Gen != was.Gen {
			t.Errorf("%q: the node is %v, was %v", before, is, was)
		}
		if n, e := dir.Find(g, num, "n"); n != 0 || e != api.ErrNone {
			t.Errorf("%q: Find behind it = %d, %d", before, n, e)
		}
		w.x.Drop()
		holds(t, g, num, some(before))
	}
}

// spread: how many blocks so many places take, four to a block.
func spread(places int) (data, pointers int) {
	data = (places + 3) / 4
	if data > 6 {
		pointers = 1
	}
	return data, pointers
}

// P9.2: ErrNone; empty places at the end stay then, and nothing is put.
func TestDropErrors(t *testing.T) {
	w := noisy(t)
	num := w.dir(t, high, some("a c  ")...)
	g := w.open(t, high)
	for _, s := range append(oddNames(), "b", "A", "ac", "aa", "a c") {
		if e := dir.Drop(g, num, s); e != api.ErrNone {
			t.Errorf("Drop(%q) = %d", s, e)
		}
	}
	if w.x.Len() > 0 {
		t.Error("what failed put something")
	}
	holds(t, g, num, some("a c  "))
	if e := dir.Drop(g, num, "a"); e != api.OK {
		t.Errorf("Drop = %d", e)
	}
	holds(t, g, num, some("  c"))
}

// P9.2: the entry of a name has another node, the same one too; nothing else is another.
func TestTurn(t *testing.T) {
	for _, s := range []string{"n", "an", "na", "abn", " n", "n ", "an   ", "abcdefghijklmnop", "abcn", "abcdn", "abc n  "} {
		for _, n := range []uint16{1, 2, 255, 256, 65535} {
			w := noisy(t)
			num := w.dir(t, high, some(s)...)
			g := w.open(t, high)
			was := nodeOf(t, g, num)
			want := some(s)
			want[slices.IndexFunc(want, func(x api.Entry) bool { return x.Name == "n" })].Num = n
			if e := dir.Turn(g, num, api.Entry{Name: "n", Num: n}); e != api.OK {
				t.Errorf("%q: Turn = %d", s, e)
			}
			holds(t, g, num, want)
			if is := nodeOf(t, g, num); is != was {
				t.Errorf("%q: the node is %v, was %v", s, is, was)
			}
			if got, e := dir.Find(g, num, "n"); got != int(n) || e != api.OK {
				t.Errorf("%q: Find = %d, %d, wanted %d", s, got, e, n)
			}
		}
	}
}

// P9.2: ErrRange of no node, be there such a name or not; then ErrNone; nothing is put.
func TestTurnErrors(t *testing.T) {
	w := noisy(t)
	num := w.dir(t, high, some("a c ")...)
	g := w.open(t, high)
	for _, s := range append(oddNames(), "a", "c", "b", "A", "ac") {
		if e := dir.Turn(g, num, api.Entry{Name: s}); e != api.ErrRange {
			t.Errorf("Turn(%q, 0) = %d", s, e)
		}
		if s == "a" || s == "c" {
			continue
		}
		for _, n := range []uint16{1, 65535} {
			if e := dir.Turn(g, num, api.Entry{Name: s, Num: n}); e != api.ErrNone {
				t.Errorf("Turn(%q, %d) = %d", s, n, e)
			}
		}
	}
	if w.x.Len() > 0 {
		t.Error("what failed put something")
	}
	holds(t, g, num, some("a c "))
}

// P9.2: has it no entries, whatever places it has?
func TestEmpty(t *testing.T) {
	for s, want := range map[string]bool{"": true, " ": true, "    ": true, "         ": true, "a": false, " a": false, "a ": false, "    a": false, "a         ": false, "ab": false} {
		w := noisy(t)
		num := w.dir(t, high, some(s)...)
		if is, e := dir.Empty(w.open(t, high), num); is != want || e != api.OK {
			t.Errorf("%q: Empty = %v, %d", s, is, e)
		}
		holds(t, w.open(t, high), num, some(s))
	}
}

// P9.2: 1024 entries, and not one more, till one goes: file.Write's ErrBig, behind all other errors.
func TestBig(t *testing.T) {
	w := noisy(t)
	all := names(most)
	num := w.dir(t, mid, all[:most-1]...)
	g := w.open(t, mid)
	if e := dir.Add(g, num, all[most-1]); e != api.OK {
		t.Fatalf("the last Add = %d", e)
	}
	w.commit(t)
	holds(t, g, num, all)
	for x, want := range map[api.Entry]api.Errno{{Name: "x", Num: 1}: api.ErrBig, {Name: "x"}: api.ErrRange, {Name: "n0", Num: 1}: api.ErrExists, {Name: "n1023", Num: 9}: api.ErrExists, {Name: "x y", Num: 1}: api.ErrInvalid} {
		if e := dir.Add(g, num, x); e != want {
			t.Errorf("Add(%v) = %d, wanted %d", x, e, want)
		}
	}
	if w.x.Len() > 0 {
		t.Error("what failed put something")
	}
	if e := dir.Turn(g, num, api.Entry{Name: "n1023", Num: 7}); e != api.OK {
		t.Errorf("Turn = %d", e)
	}
	if e := dir.Drop(g, num, "n500"); e != api.OK {
		t.Errorf("Drop = %d", e)
	}
	if e := dir.Add(g, num, api.Entry{Name: "x", Num: 1}); e != api.OK {
		t.Errorf("Add in its place = %d", e)
	}
	all[500], all[1023].Num = api.Entry{Name: "x", Num: 1}, 7
	holds(t, g, num, all)
	if e := dir.Add(g, num, api.Entry{Name: "y", Num: 1}); e != api.ErrBig {
		t.Errorf("Add = %d", e)
	}
}

// P9.2: of a name that stands twice, which isn't right but for the place itself, the first is meant.
func TestTwice(t *testing.T) {
	w := noisy(t)
	places := []api.Entry{{Name: "a", Num: 1}, {Name: "b", Num: 2}, {Name: "c", Num: 3}, {Name: "b", Num: 4}}
	num := w.dir(t, high, places...)
	g := w.open(t, high)
	if n, e := dir.Find(g, num, "b"); n != 2 || e != api.OK {
		t.Errorf("Find = %d, %d", n, e)
	}
	if e := dir.Turn(g, num, api.Entry{Name: "b", Num: 9}); e != api.OK {
		t.Errorf("Turn = %d", e)
	}
	places[1].Num = 9
	holds(t, g, num, places)
	if e := dir.Drop(g, num, "b"); e != api.OK {
		t.Errorf("Drop = %d", e)
	}
	places[1] = api.Entry{}
	holds(t, g, num, places)
	if e := dir.Add(g, num, api.Entry{Name: "b", Num: 5}); e != api.ErrExists {
		t.Errorf("Add = %d", e)
	}
}

// model is a directory's places, as they should be.
type model []api.Entry

// at: where a name is; -1: nowhere.
func (m model) at(name string) int {
	return slices.IndexFunc(m, func(x api.Entry) bool { return x.Num > 0 && x.Name == name })
}

func (m *model) add(x api.Entry) api.Errno {
	if e := wantName(x.Name); e != api.OK {
		return e
	}
	if x.Num == 0 {
		return api.ErrRange
	}
	if m.at(x.Name) >= 0 {
		return api.ErrExists
	}
	if i := slices.Index(*m, api.Entry{}); i >= 0 {
		(*m)[i] = x
		return api.OK
	}
	*m = append(*m, x)
	return api.OK
}

func (m *model) drop(name string) api.Errno {
	i := m.at(name)
	if i < 0 {
		return api.ErrNone
	}
	(*m)[i] = api.Entry{}
	for len(*m) > 0 && (*m)[len(*m)-1].Num == 0 {
		*m = (*m)[:len(*m)-1]
	}
	return api.OK
}

func (m *model) turn(x api.Entry) api.Errno {
	if x.Num == 0 {
		return api.ErrRange
	}
	i := m.at(x.Name)
	if i < 0 {
		return api.ErrNone
	}
	(*m)[i].Num = x.Num
	return api.OK
}

// act does one thing or another to a directory, and to what it should be.
func act(t *testing.T, r *rand.Rand, g *group.Group, num int, m *model, more int) {
	t.Helper()
	x := api.Entry{Name: fmt.Sprint("k", r.Intn(90)), Num: uint16(r.Intn(65536))}
	switch r.Intn(30) {
	case 0:
		x.Name = oddNames()[r.Intn(len(oddNames()))]
	case 1:
		x.Num = 0
	case 2:
		if len(*m) > 0 { // the last one, as others rarely are
			x.Name = (*m)[len(*m)-1].Name
		}
	}
	var e, want api.Errno
	switch kind := r.Intn(10); {
	case kind < more:
		e, want = dir.Add(g, num, x), m.add(x)
	case kind < 9:
		e, want = dir.Drop(g, num, x.Name), m.drop(x.Name)
	default:
		e, want = dir.Turn(g, num, x), m.turn(x)
	}
	if e != want {
		t.Fatalf("of %v: %d, wanted %d", x, e, want)
	}
	n, e := dir.Find(g, num, x.Name)
	if i := m.at(x.Name); i < 0 && (n != 0 || e != api.ErrNone) || i >= 0 && (n != int((*m)[i].Num) || e != api.OK) {
		t.Fatalf("Find(%v) = %d, %d", x, n, e)
	}
}

// P9.2: anything in any order, in several directories of one group: each is as it should be, and no block is lost.
func TestAnything(t *testing.T) {
	r := rand.New(rand.NewSource(92))
	w := noisy(t)
	nums := []int{w.dir(t, mid), w.dir(t, mid), w.dir(t, mid)}
	ms := make([]model, 3)
	for i := range 6000 {
		which := r.Intn(3)
		more := 6 // it grows, then it shrinks
		if i/1000%2 == 1 {
			more = 2
		}
		g := w.open(t, mid)
		act(t, r, g, nums[which], &ms[which], more)
		if w.x.Len() > 18 {
			w.commit(t)
		}
		if i%20 > 0 {
			continue
		}
		blocks := 0
		for j, num := range nums {
			holds(t, g, num, ms[j])
			data, pointers := spread(len(ms[j]))
			blocks += data + pointers
		}
		uses(t, g, blocks)
	}
}
