package dir_test

import (
	"bytes"
	"math/rand"
	"slices"
	"strings"
	"testing"

	"garrison/api"
	"garrison/dir"
)

// P9.1
func TestName(t *testing.T) {
	for s, want := range map[string]api.Errno{
		"a": api.OK, "Z": api.OK, "0": api.OK, "!": api.OK, "~": api.OK, "...": api.OK, ".a": api.OK, "a.": api.OK, "..a": api.OK, "a..": api.OK, ". .": api.ErrInvalid,
		"": api.ErrInvalid, ".": api.ErrInvalid, "..": api.ErrInvalid, "/": api.ErrInvalid, "@": api.ErrInvalid, "./": api.ErrInvalid, "a/b": api.ErrInvalid, "a@low": api.ErrInvalid,
		" ": api.ErrInvalid, "a b": api.ErrInvalid, "a\n": api.ErrInvalid, "\x00": api.ErrInvalid, "a\x00": api.ErrInvalid, "\x7f": api.ErrInvalid, "\x80": api.ErrInvalid, "\xff": api.ErrInvalid,
		"ä": api.ErrInvalid, "日本": api.ErrInvalid, "\xc3": api.ErrInvalid,
		"abcdefghijklmn": api.OK, "..............": api.OK, "abcdefghijklm/": api.ErrInvalid, "abcdefghijklm\x00": api.ErrInvalid, "日本日本日": api.ErrLong,
		"abcdefghijklmno": api.ErrLong, "abcdefghijklmn\x00": api.ErrLong, "/bcdefghijklmno": api.ErrLong, "@              ": api.ErrLong, "...............": api.ErrLong,
		strings.Repeat("a", 65536): api.ErrLong, strings.Repeat("/", 1<<20): api.ErrLong,
	} {
		if e := dir.Name(s); e != want {
			t.Errorf("Name(%.40q) = %d, wanted %d", s, e, want)
		}
	}
}

// mayStand: the bytes of a name, written out.
const mayStand = "!\"#$%&'()*+,-.0123456789:;<=>?ABCDEFGHIJKLMNOPQRSTUVWXYZ[\\]^_`abcdefghijklmnopqrstuvwxyz{|}~"

// wantName: the chapter's words for Name.
func wantName(s string) api.Errno {
	if s == "" || s == "." || s == ".." {
		return api.ErrInvalid
	}
	if len(s) > 14 {
		return api.ErrLong
	}
	for _, b := range []byte(s) {
		if strings.IndexByte(mayStand, b) < 0 {
			return api.ErrInvalid
		}
	}
	return api.OK
}

// P9.1: each byte, at each place of a name of each length.
func TestNameBytes(t *testing.T) {
	for long := 1; long <= 16; long++ {
		for at := range long {
			for v := range 256 {
				b := bytes.Repeat([]byte("k"), long)
				b[at] = byte(v)
				if e, want := dir.Name(string(b)), wantName(string(b)); e != want {
					t.Errorf("Name(%q) = %d, wanted %d", b, e, want)
				}
			}
		}
	}
}

// bytesOf: the chapter's words for an entry's place, by division.
func bytesOf(x api.Entry) [16]byte {
	var b [16]byte
	b[0], b[1] = byte(x.Num%256), byte(x.Num/256)
	for i := range min(len(x.Name), 14) {
		b[2+i] = x.Name[i]
	}
	return b
}

// P9.1: an entry's bytes, and back.
func TestPack(t *testing.T) {
	for _, x := range []struct {
		x api.Entry
		b [16]byte
	}{
		{api.Entry{}, [16]byte{}},
		{api.Entry{Name: "a", Num: 1}, [16]byte{1, 0, 'a'}},
		{api.Entry{Name: "b", Num: 255}, [16]byte{255, 0, 'b'}},
		{api.Entry{Name: "c", Num: 256}, [16]byte{0, 1, 'c'}},
		{api.Entry{Name: "...", Num: 0x0304}, [16]byte{4, 3, '.', '.', '.'}},
		{api.Entry{Name: "~!", Num: 65535}, [16]byte{255, 255, '~', '!'}},
		{api.Entry{Name: "abcdefghijklm", Num: 32768}, [16]byte{0, 128, 'a', 'b', 'c', 'd', 'e', 'f', 'g', 'h', 'i', 'j', 'k', 'l', 'm'}},
		{api.Entry{Name: "abcdefghijklmn", Num: 9}, [16]byte{9, 0, 'a', 'b', 'c', 'd', 'e', 'f', 'g', 'h', 'i', 'j', 'k', 'l', 'm', 'n'}},
	} {
		if b := dir.Pack(x.x); b != x.b {
			t.Errorf("Pack(%v) = %v, wanted %v", x.x, b, x.b)
		}
		if y, ok := dir.Unpack(x.b[:]); y != x.x || !ok {
			t.Errorf("Unpack(%v) = %v, %v, wanted %v", x.b, y, ok, x.x)
		}
	}
}

// P9.1: Pack checks nothing; what there is no room for of the name is left out.
func TestPackWrong(t *testing.T) {
	for _, x := range []struct {
		x api.Entry
		b [16]byte
	}{
		{api.Entry{Num: 7}, [16]byte{7}},
		{api.Entry{Name: "a"}, [16]byte{2: 'a'}},
		{api.Entry{Name: ".", Num: 1}, [16]byte{1, 0, '.'}},
		{api.Entry{Name: "a/@ ", Num: 1}, [16]byte{1, 0, 'a', '/', '@', ' '}},
		{api.Entry{Name: "a\x00b", Num: 1}, [16]byte{1, 0, 'a', 0, 'b'}},
		{api.Entry{Name: "\xff\x80", Num: 1}, [16]byte{1, 0, 255, 128}},
	} {
		if b := dir.Pack(x.x); b != x.b {
			t.Errorf("Pack(%v) = %v, wanted %v", x.x, b, x.b)
		}
		if y, ok := dir.Unpack(x.b[:]); y != (api.Entry{}) || ok {
			t.Errorf("Unpack(%v) = %v, %v", x.b, y, ok)
		}
	}
	for _, more := range []string{"o", "op", "\x00", "/", strings.Repeat("x", 100000)} {
		x := api.Entry{Name: "abcdefghijklmn" + more, Num: 515}
		if b := dir.Pack(x); b != bytesOf(x) || string(b[2:]) != "abcdefghijklmn" {
			t.Errorf("Pack(%.40q) = %v", x.Name, b)
		}
	}
}

// P9.1: of sixteen bytes alone, whatever they are.
func TestUnpackLengths(t *testing.T) {
	entry := bytesOf(api.Entry{Name: "abcdefghijklmn", Num: 513})
	for long := range 70 {
		for _, b := range [][]byte{make([]byte, long), bytes.Repeat([]byte{'a'}, long), slices.Concat(entry[:], make([]byte, 64))[:long], slices.Concat(entry[:], entry[:], entry[:], entry[:], entry[:])[:long]} {
			if x, ok := dir.Unpack(b); ok != (long == 16) || !ok && x != (api.Entry{}) {
				t.Errorf("Unpack(%v) = %v, %v", b, x, ok)
			}
		}
	}
	if x, ok := dir.Unpack(nil); x != (api.Entry{}) || ok {
		t.Errorf("Unpack(nil) = %v, %v", x, ok)
	}
}

// P9.1: what is no entry: each byte of a place in turn, of an entry with each length of name, and of an empty place.
func TestUnpackBytes(t *testing.T) {
	for long := range 15 {
		for at := range 16 {
			for v := range 256 {
				var b [16]byte
				if long > 0 {
					b = bytesOf(api.Entry{Name: strings.Repeat("k", long), Num: 256})
				}
				b[at] = byte(v)
				x, ok := dir.Unpack(b[:])
				want, wantOK := read(b)
				if x != want || ok != wantOK {
					t.Errorf("Unpack(%v) = %v, %v, wanted %v, %v", b, x, ok, want, wantOK)
				}
			}
		}
	}
}

// read: the chapter's words for a place.
func read(b [16]byte) (api.Entry, bool) {
	if b == [16]byte{} {
		return api.Entry{}, true
	}
	num := int(b[0]) + 256*int(b[1])
	name, behind := b[2:], []byte(nil)
	if i := bytes.IndexByte(name, 0); i >= 0 {
		name, behind = name[:i], name[i:]
	}
	if num == 0 || wantName(string(name)) != api.OK || !bytes.Equal(behind, make([]byte, len(behind))) {
		return api.Entry{}, false
	}
	return api.Entry{Name: string(name), Num: uint16(num)}, true
}

// P9.1: of noise: what its bytes say; back, the same bytes.
func TestUnpack(t *testing.T) {
	r := rand.New(rand.NewSource(91))
	seen := map[bool]int{}
	for range 200000 {
		var b [16]byte
		r.Read(b[:2])
		for i := range r.Intn(15) {
			b[2+i] = mayStand[r.Intn(len(mayStand))]
		}
		switch r.Intn(8) {
		case 0:
			b[r.Intn(16)] = 0
		case 1:
			b[r.Intn(16)] = byte(r.Intn(256))
		case 2:
			b[0], b[1] = 0, 0
		case 3:
			clear(b[2:])
		}
		x, ok := dir.Unpack(b[:])
		want, wantOK := read(b)
		if x != want || ok != wantOK {
			t.Fatalf("Unpack(%v) = %v, %v, wanted %v, %v", b, x, ok, want, wantOK)
		}
		if ok && dir.Pack(x) != b {
			t.Fatalf("Pack(Unpack(%v)) = %v", b, dir.Pack(x))
		}
		seen[ok]++
	}
	if seen[true] < 20000 || seen[false] < 20000 {
		t.Errorf("the noise is one-sided: %v", seen)
	}
}

// P2, R6: what is handed in is neither changed nor kept, spare room included; answers are the caller's.
func TestBytesAreNew(t *testing.T) {
	whole := bytes.Repeat([]byte{7}, 48)
	entry := bytesOf(api.Entry{Name: "name", Num: 5})
	copy(whole[16:], entry[:])
	was := slices.Clone(whole)
	x, ok := dir.Unpack(whole[16:32])
	if !ok || !bytes.Equal(whole, was) {
		t.Error("Unpack changes what it is handed")
	}
	clear(whole)
	if x != (api.Entry{Name: "name", Num: 5}) {
		t.Errorf("Unpack's answer became %v", x)
	}
	b := dir.Pack(x)
	clear(b[:])
	if dir.Pack(x) != entry {
		t.Error("Pack keeps its answer")
	}
}
