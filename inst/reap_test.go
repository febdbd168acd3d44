package inst_test

import (
	"math/rand"
	"slices"
	"testing"

	"garrison/api"
	"garrison/file"
	"garrison/inst"
)

// reaps: of a label, on the disk: how many.
func (w world) reaps(t *testing.T, lab int) int {
	t.Helper()
	n, e := inst.Reap(w.x, w.c, w.open(t, lab))
	if e != api.OK {
		t.Fatalf("Reap of %d = %d", lab, e)
	}
	w.commit(t)
	return n
}

// P10.2: those whose nodes are there stay, and those that aren't empty; the others go with all their blocks; their places aren't cut.
func TestReap(t *testing.T) {
	w := begun(t)
	all := append(w.multis(t, low, 5), w.multis(t, left, 3)...)
	recs := w.needs(t, high, all)
	w.enter(t, high, int(recs[1].Own)) // alive, not empty
	w.enter(t, high, int(recs[2].Own)) // neither
	g := w.open(t, high)
	file.Write(g, int(recs[3].Own), 0, make([]byte, 400)) // empty places
	w.commit(t)
	w.uses(t, high, 1+2+7+1, 11)
	w.end(t, all[2], all[3], all[7])
	if n := w.reaps(t, high); n != 2 {
		t.Errorf("Reap = %d", n)
	}
	w.has(t, high, without(recs, 3, 7)...)
	w.uses(t, high, 1+2, 9)
	for _, i := range []int{3, 7} {
		if n, _ := w.open(t, high).Node(int(recs[i].Own)); n != (api.Node{Gen: 1}) {
			t.Errorf("the node that was reaped = %v", n)
		}
	}
	if n := w.reaps(t, high); n != 0 {
		t.Errorf("Reap again = %d", n)
	}
	w.leave(t, high, int(recs[2].Own))
	if n := w.reaps(t, high); n != 1 {
		t.Errorf("Reap behind its last name = %d", n)
	}
	w.has(t, high, without(recs, 2, 3, 7)...)
}

// P10.2: four at most, the first ones in their places' order; those that stay don't count.
func TestReapFour(t *testing.T) {
	for _, x := range []struct {
		gone, full []int
		want       [][]int
	}{
		{nil, nil, [][]int{nil}},
		{[]int{0}, nil, [][]int{{0}, nil}},
		{[]int{9, 2, 5}, nil, [][]int{{2, 5, 9}, nil}},
		{[]int{0, 1, 2, 3}, nil, [][]int{{0, 1, 2, 3}, nil}},
		{[]int{1, 2, 3, 8, 9}, nil, [][]int{{1, 2, 3, 8}, {9}, nil}},
		{[]int{0, 1, 2, 3, 4, 5, 6, 7, 8, 9}, nil, [][]int{{0, 1, 2, 3}, {4, 5, 6, 7}, {8, 9}, nil}},
		{[]int{0, 1, 2, 3, 4, 5, 6, 7, 8, 9}, []int{0, 1, 2, 3, 6}, [][]int{{4, 5, 7, 8}, {9}, nil}},
		{[]int{0, 1, 2, 3}, []int{0, 1, 2, 3}, [][]int{nil}},
	} {
		w := begun(t)
		all := w.multis(t, left, 10)
		recs := w.needs(t, right, all)
		for _, i := range x.full {
			w.enter(t, right, int(recs[i].Own))
		}
		for _, i := range x.gone {
			w.end(t, all[i])
		}
		for _, some := range x.want {
			if n := w.reaps(t, right); n != len(some) {
				t.Errorf("%v are gone, %v full: Reap = %d, wanted %v", x.gone, x.full, n, some)
			}
			recs = without(recs, some...)
			w.has(t, right, recs...)
		}
	}
}

// P10.2: one of another generation in its node's place, or of another kind, is gone.
func TestReapAnother(t *testing.T) {
	for _, k := range []api.Kind{api.KMulti, api.KFile, api.KDir, api.KFifo} {
		w := begun(t)
		of := w.multi(t, low)
		recs := w.needs(t, high, []api.Ino{of})
		w.end(t, of)
		if num := w.make(t, low, k); num != int(of.Num) {
			t.Fatalf("another node is %d", num)
		}
		if n := w.reaps(t, high); n != 1 {
			t.Errorf("a node of kind %d: Reap = %d", k, n)
		}
		w.has(t, high, without(recs, 0)...)
	}
}

// P10.2: a record of a number that its label's group hasn't got is reaped.
func TestReapNoNode(t *testing.T) {
	w := begun(t)
	num := w.make(t, high, api.KDir)
	for _, of := range []api.Ino{{Lab: low, Num: 11, Gen: 1}, {Lab: left, Num: 129}, {Lab: high, Num: 65535, Gen: 9}} {
		if n, e := w.open(t, high).Node(num); n.Kind != api.KDir || e != api.OK {
			t.Fatalf("no directory: %v, %d", n, e)
		}
		w.lay(t, high, packed([]inst.Record{{Of: of, Own: uint16(num)}}))
		if n := w.reaps(t, high); n != 1 {
			t.Errorf("Reap of %v = %d", of, n)
		}
		w.has(t, high, inst.Record{})
		num = w.make(t, high, api.KDir)
	}
}

// P10.2: a label's own nodes have own directories too.
func TestReapOwn(t *testing.T) {
	w := begun(t)
	all := w.multis(t, high, 2)
	recs := w.needs(t, high, all)
	w.end(t, all[0])
	if n := w.reaps(t, high); n != 1 {
		t.Errorf("Reap = %d", n)
	}
	w.has(t, high, without(recs, 0)...)
}

// model is what a table has, by the chapter's words: its places, which directories aren't empty, and which nodes are alive.
type model struct {
	places []inst.Record
	full   map[uint16]bool
	alive  map[api.Ino]bool
}

// find: the place of one's record; -1: there is none.
func (m *model) find(of api.Ino) int {
	return slices.IndexFunc(m.places, func(r inst.Record) bool { return r.Own > 0 && r.Of == of })
}

// reap: how many.
func (m *model) reap() int {
	many := 0
	for i, r := range m.places {
		if many < 4 && r.Own > 0 && !m.alive[r.Of] && !m.full[r.Own] {
			m.places[i] = inst.Record{}
			many++
		}
	}
	return many
}

// add: in the first empty place, or behind all.
func (m *model) add(r inst.Record) {
	if i := slices.Index(m.places, inst.Record{}); i >= 0 {
		m.places[i] = r
		return
	}
	m.places = append(m.places, r)
}

// nodes: how many nodes the label has with them.
func (m *model) nodes() int { return 3 + len(records(m.places)) }

// play is a world, its model, and the nodes that are asked for.
type play struct {
	world
	model
	all     []api.Ino
	rand    *rand.Rand
	crowded int // so often the label had no node left
}

// needs: of one of the nodes.
func (p *play) needs(t *testing.T, of api.Ino) {
	t.Helper()
	own, e := inst.Need(p.x, p.c, p.open(t, high), of)
	if at := p.find(of); at >= 0 {
		if own != int(p.places[at].Own) || e != api.OK {
			t.Fatalf("Need = %d, %d, wanted %v", own, e, p.places[at])
		}
		return
	}
	if p.reap(); p.nodes() == 16 {
		if own != 0 || e != api.ErrSpace {
			t.Fatalf("Need of a full label = %d, %d", own, e)
		}
		p.crowded++
		p.x.Drop()
		return
	}
	if own < 4 || e != api.OK {
		t.Fatalf("Need = %d, %d", own, e)
	}
	p.add(inst.Record{Of: of, Own: uint16(own)})
}

// drops: of one of the nodes.
func (p *play) drops(t *testing.T, of api.Ino) {
	t.Helper()
	e := inst.Drop(p.open(t, high), of)
	at := p.find(of)
	want := api.OK
	if at >= 0 && p.full[p.places[at].Own] {
		want = api.ErrNotEmpty
	}
	if e != want {
		t.Fatalf("Drop = %d, wanted %d", e, want)
	}
	if at >= 0 && e == api.OK {
		p.places[at] = inst.Record{}
	}
}

// ends: one of the nodes does, and there is another one to be asked for.
func (p *play) ends(t *testing.T, i int) {
	t.Helper()
	p.end(t, p.all[i])
	delete(p.alive, p.all[i])
	p.all[i] = p.multi(t, left)
	p.alive[p.all[i]] = true
}

// turns: an own directory that was empty isn't, or the other way round.
func (p *play) turns(t *testing.T) {
	t.Helper()
	recs := records(p.places)
	if len(recs) == 0 {
		return
	}
	own := recs[p.rand.Intn(len(recs))].Own
	if p.full[own] {
		p.leave(t, high, int(own))
	} else {
		p.enter(t, high, int(own))
	}
	p.full[own] = !p.full[own]
}

// P10.1, P10.2: what a table has behind many calls of all sorts is what the chapter's words say.
func TestModel(t *testing.T) {
	full, reaped := 0, 0
	for seed := range 8 {
		p := play{world: begun(t), rand: rand.New(rand.NewSource(int64(seed)))}
		p.model = model{full: map[uint16]bool{}, alive: map[api.Ino]bool{}}
		p.all = p.multis(t, left, 20)
		for _, of := range p.all {
			p.alive[of] = true
		}
		for range 250 {
			i := p.rand.Intn(len(p.all))
			switch p.rand.Intn(8) {
			case 0, 1, 2, 3:
				p.needs(t, p.all[i])
			case 4:
				p.drops(t, p.all[i])
			case 5:
				p.ends(t, i)
			case 6:
				p.turns(t)
			case 7:
				n, e := inst.Reap(p.x, p.c, p.open(t, high))
				if n != p.reap() || e != api.OK {
					t.Fatalf("Reap = %d, %d", n, e)
				}
				reaped += n
			}
			p.commit(t)
			p.has(t, high, p.places...)
			if _, n, _ := p.open(t, high).Usage(); n != p.nodes() {
				t.Fatalf("%d nodes, wanted %d", n, p.nodes())
			}
		}
		full += p.crowded
	}
	if full < 20 || reaped < 20 {
		t.Errorf("the plays are one-sided: the label was full %d times, %d were reaped", full, reaped)
	}
}
