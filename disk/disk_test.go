package disk_test

import (
	"math"
	"math/rand"
	"slices"
	"testing"

	"garrison/api"
	"garrison/disk"
)

// block: one that no other number has, with something in its first and in its last byte.
func block(n int) api.Block {
	b := api.Block{0: byte(n) | 1, 1: byte(n), 2: byte(n >> 8), 3: byte(n >> 16)}
	b[api.BlockSize-1] = byte(n) ^ 255
	return b
}

// row: so many blocks, all different.
func row(n int) []api.Block {
	bs := make([]api.Block, n)
	for i := range bs {
		bs[i] = block(i)
	}
	return bs
}

// blank: a disk of n blocks of noughts.
func blank(t *testing.T, n int) *disk.Disk {
	t.Helper()
	d, e := disk.New(n)
	if d == nil || e != api.OK {
		t.Fatalf("New(%d) = %v, %d", n, d, e)
	}
	return d
}

// filled: a disk of these.
func filled(t *testing.T, bs []api.Block) *disk.Disk {
	t.Helper()
	d, e := disk.Of(bs)
	if d == nil || e != api.OK {
		t.Fatalf("Of(%d blocks) = %v, %d", len(bs), d, e)
	}
	return d
}

// holds: has d just these blocks, by Len, Image and Read?
func holds(t *testing.T, d *disk.Disk, want []api.Block) {
	t.Helper()
	if n := d.Len(); n != len(want) {
		t.Errorf("Len = %d, wanted %d", n, len(want))
	}
	if !slices.Equal(d.Image(), want) {
		t.Error("Image answers other blocks")
	}
	for i, w := range want {
		if b, e := d.Read(i); b != w || e != api.OK {
			t.Fatalf("Read(%d) = %v, %d, wanted %v", i, b, e, w)
		}
	}
}

// counted: how often Read and Write answered OK.
func counted(t *testing.T, d *disk.Disk, reads, writes int) {
	t.Helper()
	if r, w := d.Counts(); r != reads || w != writes {
		t.Errorf("Counts = %d, %d, wanted %d, %d", r, w, reads, writes)
	}
}

// writes: what Write of these numbers answers, in order.
func writes(t *testing.T, d *disk.Disk, n int, want ...api.Errno) {
	t.Helper()
	for i, w := range want {
		if e := d.Write(n, block(i)); e != w {
			t.Errorf("write %d of block %d: %d, wanted %d", i, n, e, w)
		}
	}
}

// outside: numbers of which a disk of n blocks has no block.
func outside(n int) []int {
	return []int{-1, -2, -n, -n - 1, n, n + 1, n + 65536, 1 << 32, 1<<32 + n, math.MinInt, math.MinInt + n, math.MaxInt, math.MaxInt - n}
}

// P3.1
func TestNew(t *testing.T) {
	for _, n := range []int{0, 1, 2, 3, 63, 64, 65, 4096, 65535, 65536} {
		d := blank(t, n)
		if d.Dead() {
			t.Errorf("New(%d) has stopped", n)
		}
		counted(t, d, 0, 0)
		holds(t, d, make([]api.Block, n))
	}
}

// P3.1: the edges of its number.
func TestNewErrors(t *testing.T) {
	for _, n := range []int{-1, -2, -65536, 65537, 65538, 131072, 1 << 32, 1<<32 + 1, math.MinInt, math.MaxInt} {
		if d, e := disk.New(n); d != nil || e != api.ErrRange {
			t.Errorf("New(%d) = %v, %d", n, d, e)
		}
	}
}

// P3.1
func TestOf(t *testing.T) {
	for _, n := range []int{0, 1, 2, 3, 64, 1000, 65535, 65536} {
		d := filled(t, row(n))
		if d.Dead() {
			t.Errorf("Of(%d blocks) has stopped", n)
		}
		counted(t, d, 0, 0)
		holds(t, d, row(n))
		d.Wake() // nothing was armed
		if n > 0 {
			writes(t, d, n-1, api.OK, api.OK)
		}
	}
	for _, n := range []int{65537, 70000} {
		if d, e := disk.Of(make([]api.Block, n)); d != nil || e != api.ErrRange {
			t.Errorf("Of(%d blocks) = %v, %d", n, d, e)
		}
	}
}

// P2, R5: no blocks, nil or empty.
func TestOfNone(t *testing.T) {
	for _, bs := range [][]api.Block{nil, {}, row(3)[:0]} {
		d := filled(t, bs)
		holds(t, d, nil)
		for _, n := range []int{0, 1, -1} {
			if b, e := d.Read(n); b != (api.Block{}) || e != api.ErrRange {
				t.Errorf("Read(%d) = %v, %d", n, b, e)
			}
			if e := d.Write(n, block(1)); e != api.ErrRange {
				t.Errorf("Write(%d) = %d", n, e)
			}
		}
	}
}

// P3.1: Read of a block that isn't there, of a disk that goes and of one that has stopped.
func TestReadErrors(t *testing.T) {
	d := filled(t, row(3))
	for range 2 {
		for _, n := range outside(3) {
			if b, e := d.Read(n); b != (api.Block{}) || e != api.ErrRange {
				t.Errorf("Read(%d) = %v, %d", n, b, e)
			}
		}
		counted(t, d, 0, 0)
		d.Arm(0)
		writes(t, d, 0, api.ErrDead)
	}
	holds(t, d, row(3))
}

// P3.1: only what answered OK counts; Len, Image, Arm, Dead and Wake don't, nor do they begin anew.
func TestCounts(t *testing.T) {
	d := filled(t, row(4))
	d.Read(0)
	d.Read(3)
	d.Read(0)
	d.Read(4)
	d.Read(-1)
	counted(t, d, 3, 0)
	writes(t, d, 2, api.OK, api.OK)
	writes(t, d, 4, api.ErrRange)
	counted(t, d, 3, 2)
	d.Arm(1)
	writes(t, d, -1, api.ErrRange)
	writes(t, d, 1, api.OK, api.ErrDead, api.ErrDead)
	counted(t, d, 3, 3)
	d.Read(1)
	d.Read(9)
	d.Len()
	d.Image()
	d.Dead()
	counted(t, d, 4, 3)
	d.Wake()
	d.Arm(5)
	d.Arm(-1)
	counted(t, d, 4, 3)
	writes(t, d, 1, api.OK)
	counted(t, d, 4, 4)
}

// P3.2: one block, the whole of it, and no other.
func TestWrite(t *testing.T) {
	for _, n := range []int{1, 2, 5, 65536} {
		d, want := blank(t, n), make([]api.Block, n)
		for i, at := range []int{n - 1, 0, n / 2, n - 1} {
			b := block(1000 + i)
			if e := d.Write(at, b); e != api.OK {
				t.Errorf("Write(%d) = %d", at, e)
			}
			want[at] = b
			if got, e := d.Read(at); got != b || e != api.OK {
				t.Errorf("Read(%d) = %v, %d, wanted %v", at, got, e, b)
			}
		}
		if e := d.Write(n/2, api.Block{}); e != api.OK {
			t.Errorf("Write(%d) of noughts = %d", n/2, e)
		}
		want[n/2] = api.Block{}
		holds(t, d, want)
	}
	d := blank(t, 1)
	var full api.Block
	for i := range full {
		full[i] = byte(255 - i)
	}
	if e := d.Write(0, full); e != api.OK {
		t.Errorf("Write = %d", e)
	}
	holds(t, d, []api.Block{full})
}

// P3.2: a block that isn't there is told ahead of a disk that has stopped, and neither stops it nor uses up what is let through.
func TestWriteErrors(t *testing.T) {
	d := filled(t, row(3))
	for _, n := range outside(3) {
		d.Wake()
		d.Arm(1)
		writes(t, d, n, api.ErrRange, api.ErrRange)
		if d.Dead() {
			t.Errorf("Write(%d) stopped it", n)
		}
		writes(t, d, 0, api.OK)
		writes(t, d, n, api.ErrRange)
		if d.Dead() {
			t.Errorf("Write(%d) stopped it, none let through", n)
		}
		writes(t, d, 0, api.ErrDead)
		writes(t, d, n, api.ErrRange)
		if !d.Dead() {
			t.Errorf("Write(%d) woke it", n)
		}
	}
	holds(t, d, row(3))
}

// P3.2: so many are let through, and it stops at the first behind them.
func TestArm(t *testing.T) {
	for n := range 20 {
		d := filled(t, row(2))
		d.Arm(n)
		for i := range n {
			if d.Dead() {
				t.Errorf("Arm(%d): it stopped ahead of write %d", n, i)
			}
			writes(t, d, 1, api.OK)
		}
		if d.Dead() {
			t.Errorf("Arm(%d): it stopped behind the last that is let through", n)
		}
		before := d.Image()
		for range 3 {
			if e := d.Write(1, block(77)); e != api.ErrDead || !d.Dead() {
				t.Errorf("Arm(%d): %d, %v", n, e, d.Dead())
			}
			if e := d.Write(0, block(78)); e != api.ErrDead || !d.Dead() {
				t.Errorf("Arm(%d): %d, %v", n, e, d.Dead())
			}
		}
		holds(t, d, before)
		counted(t, d, 2, n)
	}
}

// P3.2: the last Arm holds; below 0 it lets all through; it wakes nothing.
func TestArmAgain(t *testing.T) {
	d := blank(t, 1)
	d.Arm(0)
	if d.Dead() {
		t.Error("Arm(0) stopped it")
	}
	d.Arm(2)
	writes(t, d, 0, api.OK)
	d.Arm(2)
	writes(t, d, 0, api.OK, api.OK)
	for _, n := range []int{-1, -2, math.MinInt} {
		d.Arm(0)
		d.Arm(n)
		for range 100 {
			writes(t, d, 0, api.OK)
		}
		if d.Dead() {
			t.Errorf("Arm(%d): it stopped", n)
		}
	}
	d.Arm(math.MaxInt)
	writes(t, d, 0, api.OK, api.OK)
	d.Arm(0)
	writes(t, d, 0, api.ErrDead)
	for _, n := range []int{5, 0, -1, math.MaxInt, math.MinInt} {
		d.Arm(n)
		if !d.Dead() {
			t.Errorf("Arm(%d) woke it", n)
		}
		writes(t, d, 0, api.ErrDead)
	}
}

// P3.2: behind Wake all are let through, whatever it was armed for ahead.
func TestWake(t *testing.T) {
	for _, n := range []int{-1, 0, 1, 2, 50} {
		for stop := range 2 {
			d := blank(t, 2)
			if stop > 0 {
				d.Arm(0)
				writes(t, d, 0, api.ErrDead)
			}
			d.Arm(n)
			d.Wake()
			if d.Dead() {
				t.Errorf("Arm(%d), Wake: it has stopped", n)
			}
			for range 100 {
				writes(t, d, 1, api.OK)
			}
			d.Arm(1)
			writes(t, d, 1, api.OK, api.ErrDead)
		}
	}
	d := blank(t, 1)
	d.Wake()
	d.Wake()
	writes(t, d, 0, api.OK)
}

// P3.1, P3.2: one that has stopped is read as it was, and Wake loses none.
func TestStopped(t *testing.T) {
	d := filled(t, row(5))
	d.Arm(2)
	want := row(5)
	for _, n := range []int{4, 0, 1, 2} {
		if d.Write(n, block(500+n)) == api.OK {
			want[n] = block(500 + n)
		}
	}
	if want[1] != block(1) || want[0] != block(500) || !d.Dead() {
		t.Error("it stopped at another write")
	}
	holds(t, d, want)
	d.Wake()
	holds(t, d, want)
}

// Example of the chapter.
func TestExamples(t *testing.T) {
	d := blank(t, 1)
	d.Arm(1)
	writes(t, d, 0, api.OK, api.ErrDead)
	d.Wake()
	writes(t, d, 0, api.OK)
}

// P2, R6: what is handed in is neither changed nor kept, and what is answered is new.
func TestNothingShared(t *testing.T) {
	room := row(6)
	given := room[:3]
	d := filled(t, given)
	room[0], room[2], room[3] = block(90), block(91), block(92)
	holds(t, d, row(3))
	for i := range 3 {
		writes(t, d, i, api.OK)
	}
	if room[0] != block(90) || room[1] != block(1) || room[2] != block(91) || room[3] != block(92) || room[5] != block(5) {
		t.Error("Write changed what Of was given")
	}
	want := d.Image()
	one, two := d.Image(), d.Image()
	clear(one)
	if !slices.Equal(two, want) {
		t.Error("two Images share their blocks")
	}
	two = append(two, block(99))
	two[0] = block(98)
	holds(t, d, want)
	writes(t, d, 1, api.OK, api.OK)
	if one[1] != (api.Block{}) || two[1] != want[1] {
		t.Error("Write changed what Image had answered")
	}
	b, _ := d.Read(1)
	keep := b
	b[0]++
	if got, _ := d.Read(1); got != keep {
		t.Error("Read's block is the disk's own")
	}
}

// P2, R8: disks have nothing in common.
func TestDisksApart(t *testing.T) {
	bs := row(2)
	a, b := filled(t, bs), filled(t, bs)
	c := filled(t, a.Image())
	a.Arm(1)
	writes(t, a, 0, api.OK, api.ErrDead)
	for _, d := range []*disk.Disk{b, c} {
		if d.Dead() {
			t.Error("another disk has stopped too")
		}
		counted(t, d, 0, 0)
		holds(t, d, bs)
		writes(t, d, 1, api.OK, api.OK)
	}
	if got, _ := a.Read(1); got != bs[1] {
		t.Error("another disk's block was written")
	}
}

// P1, P2, R7: a nil disk does nothing; an empty one has no block.
func TestNilAndEmpty(t *testing.T) {
	for _, x := range []struct {
		d    *disk.Disk
		want api.Errno
	}{{nil, api.ErrNil}, {&disk.Disk{}, api.ErrRange}} {
		for _, n := range []int{-1, 0, 1, 65536, math.MinInt, math.MaxInt} {
			if b, e := x.d.Read(n); b != (api.Block{}) || e != x.want {
				t.Errorf("Read(%d) = %v, %d", n, b, e)
			}
			if e := x.d.Write(n, block(n)); e != x.want {
				t.Errorf("Write(%d) = %d", n, e)
			}
			x.d.Arm(n)
			if x.d.Dead() {
				t.Errorf("Arm(%d) stopped it", n)
			}
		}
		x.d.Wake()
		if x.d.Len() != 0 || len(x.d.Image()) != 0 || x.d.Dead() {
			t.Errorf("%d blocks, %v", x.d.Len(), x.d.Dead())
		}
		counted(t, x.d, 0, 0)
	}
}

// model: what the chapter says of a disk, told another way: each write that was let through is kept, and a block is what the last of them laid there.
type model struct {
	first       []api.Block
	at          []int
	laid        []api.Block
	through     int // below 0: all
	stopped     bool
	reads, goes int
}

func (m *model) write(n int, b api.Block) api.Errno {
	switch {
	case n < 0 || n >= len(m.first):
		return api.ErrRange
	case m.stopped:
		return api.ErrDead
	case m.through == 0:
		m.stopped = true
		return api.ErrDead
	case m.through > 0:
		m.through--
	}
	m.at, m.laid = append(m.at, n), append(m.laid, b)
	m.goes++
	return api.OK
}

func (m *model) read(n int) (api.Block, api.Errno) {
	if n < 0 || n >= len(m.first) {
		return api.Block{}, api.ErrRange
	}
	m.reads++
	for i := len(m.at) - 1; i >= 0; i-- {
		if m.at[i] == n {
			return m.laid[i], api.OK
		}
	}
	return m.first[n], api.OK
}

// P3.1, P3.2: long rows of calls.
func TestManyCalls(t *testing.T) {
	r := rand.New(rand.NewSource(3))
	for range 400 {
		n := r.Intn(6)
		m := &model{first: row(n), through: -1}
		d := filled(t, row(n))
		for i := range 120 {
			at := r.Intn(n+2) - 1
			switch r.Intn(8) {
			case 0, 1, 2, 3:
				b := block(1000 + i)
				if got, want := d.Write(at, b), m.write(at, b); got != want {
					t.Fatalf("Write(%d) = %d, wanted %d", at, got, want)
				}
			case 4, 5:
				b, e := d.Read(at)
				if wb, we := m.read(at); b != wb || e != we {
					t.Fatalf("Read(%d) = %v, %d, wanted %v, %d", at, b, e, wb, we)
				}
			case 6:
				m.through = max(r.Intn(7)-1, -1)
				d.Arm(m.through)
			case 7:
				if r.Intn(2) == 0 {
					m.through, m.stopped = -1, false
					d.Wake()
				}
			}
			if d.Dead() != m.stopped || d.Len() != n {
				t.Fatalf("Dead = %v, Len = %d, wanted %v, %d", d.Dead(), d.Len(), m.stopped, n)
			}
			counted(t, d, m.reads, m.goes)
		}
		reads := m.reads
		want := make([]api.Block, n)
		for i := range want {
			want[i], _ = m.read(i)
		}
		holds(t, d, want)
		counted(t, d, reads+n, m.goes)
	}
}
