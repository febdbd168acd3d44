package ops_test

import (
	"bytes"
	"strings"
	"testing"

	"garrison/api"
	"garrison/ops"
)

// code: so many bytes, of which none is as its neighbours.
func code(long int) []byte {
	b := make([]byte, long)
	for i := range b {
		b[i] = byte(i*7 + i/64 + 1)
	}
	return b
}

// lengths: of code, those at the edges of pages, of what a program may have, and far beyond.
func lengths() []int {
	return []int{0, 1, 2, 3, 4, 5, 62, 63, 64, 65, 127, 128, 129, 1983, 1984, 1985, 2047, 2048, 2049, 2112, 4096, 65536, 1 << 20}
}

// wantPages: page by page.
func wantPages(extra uint8, long int) int {
	n := int(extra)
	for ; long > 0; long -= 64 {
		n++
	}
	return n
}

// same: are they one program? A list that is empty may be nil.
func same(a, b ops.Program) bool { return a.Extra == b.Extra && bytes.Equal(a.Code, b.Code) }

// wantFile: the chapter's words for File.
func wantFile(p ops.Program) ([]byte, api.Errno) {
	if len(p.Code) == 0 || len(p.Code) > 2048 || wantPages(p.Extra, len(p.Code)) > 32 {
		return nil, api.ErrExec
	}
	return append([]byte{71, 88, p.Extra, 0}, p.Code...), api.OK
}

// wantLoad: the chapter's words for Load: is it what File answers of what stands there?
func wantLoad(b []byte) (ops.Program, api.Errno) {
	if len(b) < 4 {
		return ops.Program{}, api.ErrExec
	}
	p := ops.Program{Extra: b[2], Code: b[4:]}
	if f, e := wantFile(p); e != api.OK || !bytes.Equal(f, b) {
		return ops.Program{}, api.ErrExec
	}
	return p, api.OK
}

func holdFile(t *testing.T, p ops.Program) {
	t.Helper()
	b, e := ops.File(p)
	want, wantE := wantFile(p)
	if !bytes.Equal(b, want) || e != wantE {
		t.Errorf("File(%d, %.8v .. %d) = %.12v .. %d, %d, wanted %d", p.Extra, p.Code, len(p.Code), b, len(b), e, wantE)
	}
	if n := ops.Pages(p); n != wantPages(p.Extra, len(p.Code)) {
		t.Errorf("Pages(%d, %d bytes) = %d", p.Extra, len(p.Code), n)
	}
}

func holdLoad(t *testing.T, b []byte) {
	t.Helper()
	p, e := ops.Load(b)
	want, wantE := wantLoad(b)
	if !same(p, want) || e != wantE {
		t.Errorf("Load(%.12v .. %d) = %d, %.8v .. %d, %d, wanted %d", b, len(b), p.Extra, p.Code, len(p.Code), e, wantE)
	}
	if e != api.OK {
		return
	}
	if f, e := ops.File(p); !bytes.Equal(f, b) || e != api.OK {
		t.Errorf("File(Load(%.12v .. %d)) = %.12v .. %d, %d", b, len(b), f, len(f), e)
	}
}

// P16.3
func TestPages(t *testing.T) {
	for _, x := range []struct {
		extra uint8
		long  int
		want  int
	}{
		{0, 0, 0}, {0, 1, 1}, {0, 63, 1}, {0, 64, 1}, {0, 65, 2}, {0, 128, 2}, {0, 129, 3}, {0, 2048, 32}, {0, 2049, 33},
		{1, 0, 1}, {1, 4, 2}, {31, 64, 32}, {31, 65, 33}, {32, 0, 32}, {255, 0, 255}, {255, 1, 256}, {255, 2048, 287}, {1, 1 << 20, 16385},
	} {
		if n := ops.Pages(ops.Program{Extra: x.extra, Code: code(x.long)}); n != x.want {
			t.Errorf("Pages(%d, %d bytes) = %d, wanted %d", x.extra, x.long, n, x.want)
		}
	}
}

// P16.3
func TestFile(t *testing.T) {
	for _, x := range []struct {
		p    ops.Program
		want []byte
	}{
		{ops.Program{Code: []byte{34, 0, 0, 0}}, []byte{71, 88, 0, 0, 34, 0, 0, 0}},
		{ops.Program{Extra: 1, Code: []byte{34, 0, 0, 0}}, []byte{71, 88, 1, 0, 34, 0, 0, 0}},
		{ops.Program{Extra: 31, Code: []byte{9}}, []byte{71, 88, 31, 0, 9}},
		{ops.Program{Code: []byte{0}}, []byte{71, 88, 0, 0, 0}},
		{ops.Program{Extra: 2, Code: []byte("GX\x00\x00")}, []byte{71, 88, 2, 0, 71, 88, 0, 0}},
		{ops.Program{Extra: 3, Code: []byte{255, 254, 253, 252, 251}}, []byte{71, 88, 3, 0, 255, 254, 253, 252, 251}},
	} {
		if b, e := ops.File(x.p); !bytes.Equal(b, x.want) || e != api.OK {
			t.Errorf("File(%v) = %v, %d, wanted %v", x.p, b, e, x.want)
		}
		if p, e := ops.Load(x.want); !same(p, x.p) || e != api.OK {
			t.Errorf("Load(%v) = %v, %d, wanted %v", x.want, p, e, x.p)
		}
	}
}

// P16.3, P2 (R3): the edges of what a program may be; nothing stands beside the error.
func TestFileEdges(t *testing.T) {
	for _, x := range []struct {
		extra uint8
		long  int
		want  api.Errno
	}{
		{0, 1, api.OK}, {0, 2047, api.OK}, {0, 2048, api.OK}, {1, 1984, api.OK}, {31, 1, api.OK}, {31, 64, api.OK}, {30, 65, api.OK}, {16, 1024, api.OK},
		{0, 0, api.ErrExec}, {5, 0, api.ErrExec}, {32, 0, api.ErrExec}, {0, 2049, api.ErrExec}, {1, 1985, api.ErrExec}, {1, 2048, api.ErrExec}, {31, 65, api.ErrExec}, {30, 129, api.ErrExec}, {16, 1025, api.ErrExec},
		{32, 1, api.ErrExec}, {33, 4, api.ErrExec}, {224, 64, api.ErrExec}, {255, 1, api.ErrExec}, {255, 64, api.ErrExec}, {255, 128, api.ErrExec}, {0, 1 << 20, api.ErrExec},
	} {
		p := ops.Program{Extra: x.extra, Code: code(x.long)}
		b, e := ops.File(p)
		if e != x.want || e != api.OK && len(b) != 0 || e == api.OK && len(b) != x.long+4 {
			t.Errorf("File(%d, %d bytes) = %d bytes, %d, wanted %d", x.extra, x.long, len(b), e, x.want)
		}
		q, e := ops.Load(append([]byte{71, 88, x.extra, 0}, p.Code...))
		if e != x.want || e != api.OK && !same(q, ops.Program{}) || e == api.OK && !same(q, p) {
			t.Errorf("Load of %d, %d bytes = %d, %d bytes, %d, wanted %d", x.extra, x.long, q.Extra, len(q.Code), e, x.want)
		}
	}
}

// P1, P16.3: all there may be of Extra, with each length that matters.
func TestFileAll(t *testing.T) {
	for _, long := range lengths() {
		c := code(long)
		for extra := range 256 {
			holdFile(t, ops.Program{Extra: uint8(extra), Code: c})
		}
	}
	for long := range 2200 {
		for _, extra := range []uint8{0, 1, 15, 31, 32} {
			holdFile(t, ops.Program{Extra: extra, Code: code(long)})
		}
	}
}

// P16.3, P2 (R3): what isn't such bytes.
func TestLoadErrors(t *testing.T) {
	for _, s := range []string{
		"", "G", "X", "GX", "GX\x00", "GX\x00\x00", "GX\x01\x00", "GX\x20\x00", "\x00\x00\x00\x00\x22\x00\x00\x00", "\x22\x00\x00\x00",
		"XG\x00\x00\x22", "gx\x00\x00\x22", "GY\x00\x00\x22", "HX\x00\x00\x22", "GX\x00\x01\x22", "GX\x00\xff\x22", "GX\x01\x01\x22", " GX\x00\x00\x22", "G\x00X\x00\x22",
		"GX\x20\x00\x22", "GX\xff\x00\x22", "GX\x1f\x00" + strings.Repeat("a", 65), "GX\x00\x00" + strings.Repeat("a", 2049), "GX\x01\x00" + strings.Repeat("a", 2048), "GX\x00\x00" + strings.Repeat("a", 1<<20), strings.Repeat("GX", 1<<20), "addi r1 r2 -1\n",
	} {
		if p, e := ops.Load([]byte(s)); p.Extra != 0 || len(p.Code) != 0 || e != api.ErrExec {
			t.Errorf("Load(%.20q) = %d, %.8v, %d", s, p.Extra, p.Code, e)
		}
	}
}

// P1, P16.3: each byte at each place ahead of the code; code of each length.
func TestLoadAll(t *testing.T) {
	for _, long := range lengths() {
		b := append([]byte{71, 88, 2, 0}, code(long)...)
		for at := range 4 {
			was := b[at]
			for v := range 256 {
				b[at] = byte(v)
				holdLoad(t, b)
			}
			b[at] = was
		}
	}
	for long := range 2200 {
		holdLoad(t, append([]byte("GX\x00\x00"), code(long)...))
	}
	for long := range 5 {
		holdLoad(t, []byte("GX\x00\x00")[:long])
	}
}

// P1, P16.3: any bytes at all.
func FuzzLoad(f *testing.F) {
	for _, s := range []string{"", "GX", "GX\x00\x00", "GX\x00\x00\x22\x00\x00\x00", "GX\x1f\x00a", "GX\x20\x00a", "GX\x00\x01a", "GY\x00\x00a"} {
		f.Add([]byte(s))
	}
	f.Fuzz(holdLoad)
}
