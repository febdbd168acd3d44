package fsck_test

import (
	"fmt"
	"slices"
	"testing"

	"garrison/api"
	"garrison/file"
	"garrison/group"
	"garrison/inst"
)

// table: a label's records.
func (w world) table(t *testing.T, lab int) []inst.Record {
	t.Helper()
	l, e := inst.List(w.open(t, lab))
	if e != api.OK {
		t.Fatalf("List of %d = %d", lab, e)
	}
	return l
}

// P14.2: the table's records are right.
func TestTable(t *testing.T) {
	edit := func(what string, f func(b []byte) []byte) deed {
		return deed{what, func(t *testing.T, p planted) {
			p.lay(t, low, inst.Table, f(p.bytes(t, low, inst.Table)))
		}}
	}
	var l []deed
	for _, n := range []int{1, 2, 4, 7} {
		l = append(l, edit(fmt.Sprintf("%d bytes more", n), func(b []byte) []byte { return append(b, make([]byte, n)...) }),
			edit(fmt.Sprintf("%d bytes less", n), func(b []byte) []byte { return b[:len(b)-n] }))
	}
	for _, x := range []struct {
		at int
		to byte
	}{{1, 0}, {1, 2}, {1, 255}, {2, 0}, {6, 0}, {6, 1}, {6, 2}, {6, 3}} {
		for _, record := range []int{0, 1} {
			l = append(l, edit(fmt.Sprintf("byte %d of record %d is %d", x.at, record, x.to), func(b []byte) []byte {
				b[8*record+x.at] = x.to
				return b
			}))
		}
	}
	for at := range 8 {
		l = append(l, edit(fmt.Sprintf("a place of noughts but for byte %d", at), func(b []byte) []byte {
			x := make([]byte, 8)
			x[at] = 1
			return append(b, x...)
		}))
	}
	// No own directory hangs on these.
	for _, b := range [][]byte{{0}, make([]byte, 7), make([]byte, 9), {0, 1, 0, 0, 0, 0, 0, 0}, {0, 0, 1, 0, 0, 0, 4, 0}, {0, 1, 1, 0, 0, 0, 0, 0}, {0, 1, 0, 0, 0, 0, 4, 0}} {
		l = append(l, deed{fmt.Sprintf("a table %v", b), func(t *testing.T, p planted) { p.lay(t, right, inst.Table, b) }})
	}
	wrongBehind(t, l)
	rightBehind(t, []deed{
		edit("empty places", func(b []byte) []byte {
			return slices.Concat(make([]byte, 8), b[:8], make([]byte, 16), b[8:], make([]byte, 8))
		}),
		edit("the records the other way", func(b []byte) []byte { return slices.Concat(b[8:], b[:8]) }),
		{"a table of empty places alone", func(t *testing.T, p planted) { p.lay(t, right, inst.Table, make([]byte, 200)) }},
	})
}

// P14.2: each of another Of.
func TestRecordsOf(t *testing.T) {
	// A second own directory, of something else.
	second := func(of func(p planted) api.Ino) func(t *testing.T, p planted) {
		return func(t *testing.T, p planted) {
			p.leave(t, low, inst.Root, "hollow")
			p.records(t, low, append(p.table(t, low), inst.Record{Of: of(p), Own: p.hollow.Num})...)
		}
	}
	with := func(f func(i *api.Ino)) func(p planted) api.Ino {
		return func(p planted) api.Ino {
			i := p.m
			f(&i)
			return i
		}
	}
	wrongBehind(t, []deed{
		{"two of one", second(multi)},
		{"two of another one", second(func(p planted) api.Ino { return p.k })},
		{"two of one that has gone", func(t *testing.T, p planted) {
			p.records(t, low, append(p.table(t, low), inst.Record{Of: api.Ino{Num: 30, Gen: 1}, Own: p.hollow.Num}, inst.Record{Of: api.Ino{Num: 30, Gen: 1}, Own: p.outer.Num})...)
			p.leave(t, low, inst.Root, "hollow")
			p.leave(t, low, inst.Root, "d")
		}},
		{"the same record twice", func(t *testing.T, p planted) {
			p.records(t, low, append(p.table(t, low), p.table(t, low)[0])...)
			p.links(t, low, api.Ino{Num: uint16(p.ownM)}, 2)
		}},
		{"one directory of two", func(t *testing.T, p planted) {
			p.records(t, low, append(p.table(t, low), inst.Record{Of: api.Ino{Num: 30, Gen: 1}, Own: uint16(p.ownM)})...)
		}},
		{"one directory of two, and it says so", func(t *testing.T, p planted) {
			p.records(t, low, append(p.table(t, low), inst.Record{Of: api.Ino{Num: 30, Gen: 1}, Own: uint16(p.ownM)})...)
			p.links(t, low, api.Ino{Num: uint16(p.ownM)}, 2)
		}},
		{"two directories for one another's", func(t *testing.T, p planted) {
			p.records(t, low, inst.Record{Of: p.m, Own: uint16(p.ownM)}, inst.Record{Of: p.k, Own: uint16(p.ownM)})
		}},
		{"no record of an own directory", func(t *testing.T, p planted) { p.records(t, low, p.table(t, low)[1:]...) }},
		{"no record of an own directory of what has gone", func(t *testing.T, p planted) {
			p.records(t, high, slices.DeleteFunc(p.table(t, high), func(r inst.Record) bool { return int(r.Own) == p.stale })...)
		}},
		{"no record at all", func(t *testing.T, p planted) { p.records(t, high) }},
	})
	rightBehind(t, []deed{
		{"what has an own directory goes, below", func(t *testing.T, p planted) {
			p.do(t, low, func(g *group.Group) api.Errno { return file.Remove(g, int(p.m.Num)) })
			p.leave(t, low, inst.Root, "m")
		}},
		{"an own directory of what has gone goes", func(t *testing.T, p planted) {
			p.records(t, high, slices.DeleteFunc(p.table(t, high), func(r inst.Record) bool { return int(r.Own) == p.stale })...)
			p.enter(t, high, inst.Root, "stale", p.stale)
		}},
		{"of another generation", second(with(func(i *api.Ino) { i.Gen++ }))},
		{"of generation 0", second(with(func(i *api.Ino) { i.Gen = 0 }))},
		{"of generation 65535", second(with(func(i *api.Ino) { i.Gen = 65535 }))},
		{"of the next number", second(with(func(i *api.Ino) { i.Num = 30 }))},
		{"of a number that no node of it has", second(with(func(i *api.Ino) { i.Num = 31 }))},
		{"of number 65535", second(with(func(i *api.Ino) { i.Num = 65535 }))},
		{"of a file", second(func(p planted) api.Ino { return p.mid })},
		{"of a directory", second(func(p planted) api.Ino { return p.outer })},
		{"of itself", second(func(p planted) api.Ino { return p.hollow })},
		{"of the own root", second(func(p planted) api.Ino { return api.Ino{Num: 1, Gen: 1} })},
	})
}

// P14.2: of a label at or below.
func TestRecordsLabels(t *testing.T) {
	var l, stays []deed
	for lab := range labels {
		for _, of := range []int{0, 1, 2, 3, 4, 5, 64, 128, 255} {
			x := deed{fmt.Sprintf("%d has its own of %d's", lab, of), func(t *testing.T, p planted) {
				d := p.make(t, lab, "/own", api.KDir)
				p.leave(t, lab, inst.Root, "own")
				p.records(t, lab, append(p.table(t, lab), inst.Record{Of: api.Ino{Lab: uint8(of), Num: 4, Gen: 77}, Own: d.Num})...)
			}}
			if of == lab || of == low || lab == high && of < labels {
				stays = append(stays, x)
			} else {
				l = append(l, x)
			}
		}
	}
	wrongBehind(t, l)
	rightBehind(t, stays)
}

// P14.2: their directories are KDirs.
func TestRecordsDirectories(t *testing.T) {
	own := func(what string, f func(t *testing.T, p planted) uint16) deed {
		return deed{what, func(t *testing.T, p planted) {
			p.records(t, high, append(p.table(t, high), inst.Record{Of: api.Ino{Num: 9, Gen: 99}, Own: f(t, p)})...)
		}}
	}
	var l []deed
	for _, k := range []api.Kind{api.KFile, api.KMulti, api.KFifo} {
		l = append(l, own(fmt.Sprintf("kind %d", k), func(t *testing.T, p planted) uint16 {
			i := p.make(t, high, "/own", k)
			p.leave(t, high, inst.Root, "own")
			return i.Num
		}))
	}
	for _, n := range []uint16{20, 21, 22, 128, 256, 256 + 4, 65535} {
		l = append(l, own(fmt.Sprintf("node %d", n), func(t *testing.T, p planted) uint16 { return n }))
	}
	l = append(l, own("a link", func(t *testing.T, p planted) uint16 {
		i := p.symlink(t, high, "x", "/own")
		p.leave(t, high, inst.Root, "own")
		return i.Num
	}))
	wrongBehind(t, l)
	rightBehind(t, []deed{
		own("a directory", func(t *testing.T, p planted) uint16 {
			i := p.make(t, high, "/own", api.KDir)
			p.leave(t, high, inst.Root, "own")
			return i.Num
		}),
		own("a directory that has entries", func(t *testing.T, p planted) uint16 {
			p.leave(t, high, p.highM, "h")
			return p.hall.Num
		}),
	})
}
