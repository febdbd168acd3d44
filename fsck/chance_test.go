package fsck_test

import (
	"fmt"
	"math/rand"
	"strings"
	"testing"

	"garrison/api"
	"garrison/dir"
	"garrison/disk"
	"garrison/file"
	"garrison/fsck"
	"garrison/group"
	"garrison/inst"
	"garrison/wal"
)

// oneOf: by chance.
func oneOf[T any](r *rand.Rand, l ...T) T { return l[r.Intn(len(l))] }

// some: a path of chance.
func some(r *rand.Rand) string {
	var b strings.Builder
	for range r.Intn(3) + 1 {
		b.WriteString("/" + oneOf(r, "a", "b", "c", "d", "a@low", "b@low", "a@left", "@low/a"))
	}
	return b.String()
}

// act: something that a subject does to names, or to the bytes of a file, by chance; nothing is on the disk yet.
func (w world) act(r *rand.Rand) (what string, e api.Errno) {
	subject := r.Intn(labels)
	tr, a, b := w.tree(subject), some(r), some(r)
	switch r.Intn(12) {
	case 0, 1, 2, 3:
		k := oneOf(r, api.KFile, api.KDir, api.KDir, api.KMulti, api.KFifo)
		_, e = tr.Make(a, k)
		return fmt.Sprint(subject, " Make ", a, k), e
	case 4:
		_, e = tr.Symlink(b, a)
		what = "Symlink"
	case 5:
		e = tr.Link(b, a)
		what = "Link"
	case 6:
		e = tr.Unlink(a)
		what = "Unlink"
	case 7:
		e = tr.Rmdir(a)
		what = "Rmdir"
	case 8, 9:
		e = tr.Rename(b, a)
		what = "Rename"
	default:
		return fmt.Sprint(subject, " bytes of ", a), w.bytesOf(r, subject, a)
	}
	return fmt.Sprint(subject, " ", what, " ", b, " ", a), e
}

// bytesOf: a file of a subject's own becomes longer, or shorter.
func (w world) bytesOf(r *rand.Rand, subject int, s string) api.Errno {
	st, e := w.tree(subject).Stat(s, true)
	if e != api.OK {
		return e
	}
	if st.Kind != api.KFile || int(st.Ino.Lab) != subject {
		return api.ErrPerm
	}
	g, e := group.Open(w.x, w.c, subject)
	if e != api.OK {
		return e
	}
	if r.Intn(3) == 0 {
		return file.Cut(g, int(st.Ino.Num), r.Intn(int(st.Size)+1))
	}
	b := make([]byte, r.Intn(700))
	for i := range b {
		b[i] = byte(r.Intn(256))
	}
	return file.Write(g, int(st.Ino.Num), r.Intn(int(st.Size)+1), b)
}

// lived: a disk on which so much was done.
func lived(t *testing.T, r *rand.Rand, steps int) world {
	t.Helper()
	w := begun(t, four)
	for range steps {
		if _, e := w.act(r); e != api.OK {
			w.x.Drop()
			continue
		}
		w.commit(t)
	}
	return w
}

// P14.2, P5: whatever is done, the disk stays right, ahead of Commit and behind it.
func TestStaysRight(t *testing.T) {
	many := 0
	for seed := range int64(60) {
		r := rand.New(rand.NewSource(seed))
		w := begun(t, four)
		for step := range 300 {
			what, e := w.act(r)
			if e != api.OK {
				w.x.Drop()
				continue
			}
			many++
			if l := fsck.Check(w.x, w.c); len(l) > 0 {
				t.Fatalf("seed %d, step %d: %s: %v", seed, step, what, l)
			}
			w.commit(t)
			if step%25 == 0 {
				w.isRight(t, what)
			}
		}
		w.isRight(t, "at the end")
	}
	if many < 1000 {
		t.Errorf("so little was done: %d", many)
	}
}

// P5: wherever the disk stops while something is written, also while it is recovered, it is right behind that.
func TestStops(t *testing.T) {
	many := 0
	for seed := range int64(40) {
		r := rand.New(rand.NewSource(seed))
		w := lived(t, r, 60)
		for range 20 {
			was, next := w.d.Image(), r.Int63()
			w.x.Drop()
			if _, e := w.act(rand.New(rand.NewSource(next))); e != api.OK {
				w.x.Drop()
				continue
			}
			_, from := w.d.Counts()
			w.commit(t)
			_, to := w.d.Counts()
			for writes := range to - from {
				q := onto(t, w.c, was)
				if _, e := q.act(rand.New(rand.NewSource(next))); e != api.OK {
					t.Fatalf("the same answers %d", e)
				}
				q.d.Arm(writes)
				if e := q.x.Commit(); e != api.ErrDead {
					t.Fatalf("Commit = %d behind %d writes", e, writes)
				}
				q.recovered(t, r)
				if l := fsck.Check(q.l.Begin(), q.c); len(l) > 0 {
					t.Fatalf("P5: seed %d, stopped behind %d of %d writes: %v", seed, writes, to-from, l)
				}
				many++
			}
		}
	}
	if many < 300 {
		t.Errorf("it stopped %d times", many)
	}
}

// recovered: it works again; it may have stopped once more, on the way there.
func (w world) recovered(t *testing.T, r *rand.Rand) {
	t.Helper()
	w.d.Wake()
	w.d.Arm(r.Intn(4))
	w.l.Recover()
	w.d.Wake()
	if _, e := w.l.Recover(); e != api.OK {
		t.Fatalf("Recover = %d", e)
	}
}

// P14.2, P5: a disk that stopped within what is written in the log, and wasn't recovered, may be wrong; Check says what it is.
func TestNotRecovered(t *testing.T) {
	wrong := 0
	for seed := range int64(30) {
		r := rand.New(rand.NewSource(seed))
		w := lived(t, r, 40)
		for {
			if _, e := w.act(r); e == api.OK && w.x.Len() > 1 {
				break
			}
			w.x.Drop()
		}
		n := w.x.Len()
		w.d.Arm(n + 1 + r.Intn(n-1) + 1) // some of the blocks are at their places
		if e := w.x.Commit(); e != api.ErrDead {
			t.Fatalf("Commit = %d", e)
		}
		x := w.l.Begin()
		l := fsck.Check(x, w.c)
		if want := rightDisk(w.c, x); want != (len(l) == 0) {
			t.Errorf("seed %d: %v, wanted %v", seed, l, want)
		}
		if len(l) > 0 {
			wrong++
		}
	}
	if wrong == 0 {
		t.Error("it was never wrong")
	}
}

// harm: something is done to a disk that nobody may do, or that anybody may, by chance.
func (w world) harm(t *testing.T, r *rand.Rand) string {
	t.Helper()
	lab := r.Intn(labels)
	geo := w.geo(t, lab)
	num := r.Intn(min(14, geo.Nodes)) + 1
	n := w.node(t, lab, num)
	switch k := r.Intn(12); k {
	case 0: // any bit
		at := geo.Base + r.Intn(geo.Bitmap+geo.Table+20)
		b := w.get(t, at)
		b[r.Intn(64)] ^= 1 << r.Intn(8)
		w.put(t, at, b)
		return fmt.Sprint("a bit in block ", at)
	case 1: // a bit of those that are taken
		bit := r.Intn(40)
		w.mark(t, lab, bit, r.Intn(2) == 0)
		return fmt.Sprint("bit ", bit)
	case 2: // a field
		switch r.Intn(6) {
		case 0:
			n.Kind = api.Kind(r.Intn(7))
		case 1:
			n.Links = uint8(r.Intn(3))
		case 2:
			n.Gen = uint16(r.Intn(3))
		case 3:
			n.Size = uint32(r.Intn(9) * 16)
		case 4:
			n.Direct[r.Intn(3)] = uint16(r.Intn(30))
		case 5:
			n.Single = uint16(r.Intn(30))
		}
		w.set(t, lab, num, n)
		return fmt.Sprint("a field of ", num, " of ", lab, ": ", n)
	case 3, 4: // a name goes elsewhere
		return w.move(t, r, lab)
	case 5: // a name more, or a link more, or both
		if r.Intn(3) > 0 {
			dir.Add(w.open(t, lab), w.someDir(t, r, lab), api.Entry{Name: oneOf(r, "x", "y", "z"), Num: uint16(num)})
			w.commit(t)
		}
		if r.Intn(3) > 0 {
			w.change(t, lab, num, func(n *api.Node) { n.Links++ })
		}
		return "a name more, or a link"
	case 6, 7: // a record is another
		l, e := inst.List(w.open(t, lab))
		if e != api.OK || len(l) == 0 {
			return "nothing"
		}
		x := &l[r.Intn(len(l))]
		switch r.Intn(4) {
		case 0:
			x.Of = api.Ino{Lab: uint8(r.Intn(5)), Num: x.Of.Num, Gen: x.Of.Gen}
		case 1:
			x.Of.Num, x.Of.Gen = uint16(num), n.Gen
		case 2:
			x.Own = uint16(r.Intn(16) + 4)
		case 3:
			y := &l[r.Intn(len(l))]
			x.Own, y.Own = y.Own, x.Own
		}
		return w.refill(t, lab, l)
	case 8: // a byte of what a directory or a table has
		return w.poked(t, r, lab, n)
	case 9: // two nodes are each other's
		other := r.Intn(min(14, geo.Nodes)) + 1
		m := w.node(t, lab, other)
		w.set(t, lab, num, m)
		w.set(t, lab, other, n)
		return "two nodes the other way"
	case 10: // a node goes, and its blocks with it
		if g := w.open(t, lab); n.Kind != api.KFree && file.Remove(g, num) == api.OK && w.x.Commit() == api.OK {
			return fmt.Sprint("node ", num, " goes")
		}
		w.x.Drop()
		return "nothing"
	default: // it is longer, or shorter, as files are
		g := w.open(t, lab)
		e := file.Cut(g, num, r.Intn(int(n.Size%4096)+1)/16*16)
		if r.Intn(2) == 0 {
			e = file.Write(g, num, int(n.Size), make([]byte, 16*r.Intn(9)))
		}
		if e != api.OK {
			w.x.Drop()
		}
		w.commit(t)
		return fmt.Sprint("the length of ", num, " of ", lab)
	}
}

// someDir: a directory of a label, by chance.
func (w world) someDir(t *testing.T, r *rand.Rand, lab int) int {
	t.Helper()
	l := []int{inst.Root}
	for num := range w.geo(t, lab).Nodes {
		if w.node(t, lab, num+1).Kind == api.KDir {
			l = append(l, num+1)
		}
	}
	return oneOf(r, l...)
}

// move: a name of a directory is in another one, or another name in the same, whatever comes of that.
func (w world) move(t *testing.T, r *rand.Rand, lab int) string {
	t.Helper()
	from, to := w.someDir(t, r, lab), w.someDir(t, r, lab)
	l, e := dir.List(w.open(t, lab), from)
	if e != api.OK || len(l) == 0 {
		return "nothing"
	}
	x := oneOf(r, l...)
	g := w.open(t, lab)
	if e := dir.Drop(g, from, x.Name); e != api.OK {
		w.x.Drop()
		return "nothing"
	}
	x.Name = oneOf(r, x.Name, x.Name, "u", "v", "w")
	if e := dir.Add(g, to, x); e != api.OK {
		w.x.Drop()
		return "nothing"
	}
	w.commit(t)
	return fmt.Sprint(x, " of ", lab, " from ", from, " to ", to)
}

// refill: a label's table is of these records.
func (w world) refill(t *testing.T, lab int, l []inst.Record) string {
	t.Helper()
	g := w.open(t, lab)
	for i, x := range l {
		b := inst.Pack(x)
		if e := file.Write(g, inst.Table, i*inst.RecordSize, b[:]); e != api.OK {
			w.x.Drop()
			return "nothing"
		}
	}
	w.commit(t)
	return fmt.Sprint("records of ", lab, ": ", l)
}

// poked: a byte of a node's is another.
func (w world) poked(t *testing.T, r *rand.Rand, lab int, n api.Node) string {
	t.Helper()
	b := n.Direct[0]
	if b == 0 || int(b) > w.geo(t, lab).Blocks {
		return "nothing"
	}
	at := r.Intn(64)
	if r.Intn(2) == 0 {
		at &^= 7 // where numbers begin
	}
	w.poke(t, w.data(t, lab, b), at, byte(oneOf(r, 0, 0, 1, 2, 'a', 'b', '/', r.Intn(256))))
	return fmt.Sprint("byte ", at, " of block ", b, " of ", lab)
}

// P14.2: whatever isn't right is found, and nothing else, on disks to which anything was done, once or more.
func TestChance(t *testing.T) {
	var right, wrong int
	for seed := range int64(150) {
		r := rand.New(rand.NewSource(seed))
		w := lived(t, r, 80)
		for range 40 {
			q := w.copied(t)
			var what []string
			for range r.Intn(3) + 1 {
				what = append(what, q.harm(t, r))
			}
			l, want := fsck.Check(q.x, q.c), rightDisk(q.c, q.x)
			if want != (len(l) == 0) {
				t.Fatalf("P14.2: seed %d: %v: %v, wanted %v", seed, what, l, want)
			}
			q.told(t, l)
			if want {
				right++
			} else {
				wrong++
			}
		}
	}
	t.Log(right, wrong)
	if right < 300 || wrong < 1000 {
		t.Errorf("right %d times, wrong %d times", right, wrong)
	}
}

// P1: noise, in all blocks or in some, on disks of any length: it ends, and finds something.
func TestNoise(t *testing.T) {
	for seed := range int64(60) {
		r := rand.New(rand.NewSource(seed))
		c := parsed(t, oneOf(r, four, edges))
		bs := lived(t, r, 20).d.Image()
		if seed%2 == 0 {
			bs = make([]api.Block, c.Total())
		}
		for range r.Intn(2 * len(bs)) {
			b := &bs[r.Intn(len(bs))]
			for range r.Intn(64) + 1 {
				b[r.Intn(64)] = byte(r.Intn(1 << r.Intn(9)))
			}
		}
		bs = bs[:32+r.Intn(len(bs)-31)]
		w := onto(t, c, bs)
		l, want := fsck.Check(w.x, c), rightDisk(c, w.x)
		if want != (len(l) == 0) {
			t.Errorf("P14.2: seed %d: %v, wanted %v", seed, l, want)
		}
		w.told(t, l)
	}
}

// P1: all nodes of all labels have the same blocks, of pointers to themselves, as deep as may be.
func TestDeep(t *testing.T) {
	c := many(t)
	bs := make([]api.Block, c.Total())
	bs[0] = fsck.Super(c)
	for lab := range c.Len() {
		g, _ := c.Geo(lab)
		for i := range g.Table {
			n := [32]byte{1, 1, 1, 0, 0, 64, 0, 0, 1, 0, 1, 0, 1, 0, 1, 0, 1, 0, 1, 0, 1, 0, 1}
			copy(bs[g.Base+g.Bitmap+i][:], n[:])
			copy(bs[g.Base+g.Bitmap+i][32:], n[:])
		}
		for i := range 32 {
			bs[g.Data][2*i] = 1
		}
	}
	w := onto(t, c, bs)
	w.isWrong(t, "nodes of one block")
}

// P14.2: a disk that is too short is wrong; one that is longer isn't looked at behind its end.
func TestOtherLengths(t *testing.T) {
	p := plant(t)
	bs := p.d.Image()
	for _, n := range []int{32, 33, p.geo(t, high).Base, p.geo(t, high).Data, p.c.Total() - 61, p.c.Total() - 60} {
		onto(t, p.c, bs[:n]).isWrong(t, fmt.Sprintf("%d blocks of %d", n, len(bs)))
	}
	w := onto(t, p.c, append(bs, api.Block{1}, api.Block{2}))
	w.isRight(t, "two blocks more")
}

// P14.2: block 0 is Super; what is in the log, and in its head, is the log's business.
func TestBlockZero(t *testing.T) {
	p := plant(t)
	for at := range 64 {
		q := p.copied(t)
		q.poke(t, 0, at, p.get(t, 0)[at]+1)
		q.isWrong(t, fmt.Sprintf("byte %d of block 0", at))
	}
	q := p.copied(t)
	q.put(t, 0, api.Block{})
	q.isWrong(t, "noughts in block 0")
	other := parsed(t, strings.Replace(four, "nodes 30", "nodes 28", 1))
	q.put(t, 0, fsck.Super(other))
	q.isWrong(t, "another's block 0")
	q.put(t, 0, fsck.Super(p.c))
	q.isRight(t, "its own again")
	for at := 1; at < 32; at++ {
		q.put(t, at, api.Block{1, 2, 3, byte(at)})
	}
	q.isRight(t, "a log of anything")
	if l := fsck.Check(p.x, other); len(l) == 0 {
		t.Error("P14.2: it is right for another configuration")
	}
}

// P14.2: of each group; the faults of one tell of it.
func TestEachGroup(t *testing.T) {
	w := begun(t, edges)
	w.isRight(t, "new")
	for lab := range w.c.Len() {
		q := w.copied(t)
		q.set(t, lab, 4, api.Node{Kind: api.KFile, Links: 1, Gen: 1})
		q.isWrong(t, fmt.Sprintf("a node without a name, of %d", lab))
		for _, x := range fsck.Check(q.x, q.c) {
			if x.Lab != lab {
				t.Errorf("a fault of %d: %v", lab, x)
			}
		}
	}
	// Noughts are no disk, nor is one whose block 0 alone is there.
	d, _ := disk.New(w.c.Total())
	l, _ := wal.Open(d, 1)
	q := world{w.c, d, l, l.Begin()}
	q.isWrong(t, "noughts")
	q.put(t, 0, fsck.Super(w.c))
	q.isWrong(t, "noughts but for block 0")
}
