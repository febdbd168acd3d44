package image_test

import (
	"strings"
	"testing"

	"garrison/api"
	"garrison/conf"
	"garrison/image"
)

// P15.2: without items: Empty's disk.
func TestBuildNothing(t *testing.T) {
	for _, c := range []*conf.Conf{parsed(t, two), parsed(t, four), parsed(t, edges), most(t)} {
		for _, items := range [][]image.Item{nil, {}} {
			d := built(t, c, items...)
			if i := differ(d.Image(), begun(t, c)); i >= 0 {
				t.Errorf("P15.2: block %d isn't as of Empty", i)
			}
		}
	}
}

// P15.2: the example, by hand: what of the groups isn't as it was, and what the log's head says.
func TestBuildByHand(t *testing.T) {
	c := parsed(t, two)
	d := built(t, c, aFile(low, "/a", "hi"), aLink(top, "/l", "/a@low"))
	want := begun(t, c)
	want[32] = api.Block{3}
	want[33][4], want[33][8] = 16, 1
	copy(want[34][32:], []byte{1, 1, 1, 0, 2, 0, 0, 0, 2})
	want[41] = api.Block{4, 0, 'a'}
	want[42] = api.Block{'h', 'i'}
	want[81] = api.Block{3}
	want[82][4], want[82][8] = 16, 2
	copy(want[83][32:], []byte{4, 1, 1, 0, 6, 0, 0, 0, 1})
	want[90] = api.Block{'/', 'a', '@', 'l', 'o', 'w'}
	want[91] = api.Block{4, 0, 'l'}
	for i, b := range d.Image() {
		if (i < 2 || i > 31) && b != want[i] {
			t.Errorf("P15.2: block %d = %v, wanted %v", i, b, want[i])
		}
	}
	reads(t, d, c, low, "/a", "hi")
	reads(t, d, c, top, "/l", "hi")
}

// P15.2: files of all lengths about where a block, a piece, a block of pointers ends, up to the longest; what is written has no more blocks than it takes.
func TestBuildLengths(t *testing.T) {
	c := parsed(t, four)
	for _, size := range []int{0, 1, 2, 63, 64, 65, 127, 128, 129, 191, 192, 193, 255, 256, 257, 384, 385, 1000, 2432, 2433, 4480, 4481, 8000, 16255, 16256, 16257, 16383, 16384} {
		s := text(size, size)
		d := built(t, c, aFile(low, "/f", s), aFile(left, "/f", "other"))
		reads(t, d, c, low, "/f", s)
		reads(t, d, c, left, "/f", "other")
		n := nodeOf(t, d, c, low, 4)
		if n.Kind != api.KFile || int(n.Size) != size || n.Links != 1 || n.Gen != 1 {
			t.Errorf("P15.2: of %d bytes: %v", size, n)
		}
	}
}

// P15.2: 128 bytes at once: so many transactions, each of so many blocks, as pieces of a file take: the bits, the node, its blocks.
func TestBuildPieces(t *testing.T) {
	c := parsed(t, two)
	writes := func(size int) int {
		_, n := built(t, c, aFile(low, "/f", text(1, size))).Counts()
		return n
	}
	none := writes(0)
	for size, blocks := range map[int][]int{1: {3}, 64: {3}, 65: {4}, 127: {4}, 128: {4}, 129: {4, 3}, 192: {4, 3}, 193: {4, 4}, 256: {4, 4}, 257: {4, 4, 3}} {
		want := 0
		for _, n := range blocks {
			want += 2*n + 2
		}
		if n := writes(size) - none; n != want {
			t.Errorf("P15.2: %d bytes take %d writes, wanted %d", size, n, want)
		}
	}
}

// P15.2: bytes are bytes, not runes; noughts, too.
func TestBuildBytes(t *testing.T) {
	c := parsed(t, two)
	var all [256]byte
	for i := range all {
		all[i] = byte(i)
	}
	for _, s := range []string{string(all[:]), "\x00", "\x00\x00\x00", "é€\xff\xfe", strings.Repeat("\x00", 300), strings.Repeat("€", 100)} {
		reads(t, built(t, c, aFile(top, "f", s)), c, top, "f", s)
	}
}

// P15.2: piece by piece of 128 bytes: the errors are those of the piece that has no room. A file may be too long, or its group too small: whatever comes first.
func TestBuildTooLong(t *testing.T) {
	c := parsed(t, four)
	for _, size := range []int{16385, 16386, 16400, 16512, 16513, 20000, 70000} {
		fails(t, c, 1, api.ErrBig, aDir(low, "/d"), aFile(low, "/d/f", text(1, size)))
	}
	// left has 60 blocks: one is the root's; 56 of what is left may be data, as 38 need one more, and the others two.
	for _, size := range []int{0, 3584} {
		built(t, c, aFile(left, "/f", text(1, size)))
	}
	for _, size := range []int{3585, 3600, 16384, 16385, 70000} {
		fails(t, c, 0, api.ErrSpace, aFile(left, "/f", text(1, size)))
	}
	// least has 4: one is the root's.
	small := parsed(t, edges)
	reads(t, built(t, small, aFile(0, "/f", text(2, 192))), small, 0, "/f", text(2, 192))
	fails(t, small, 0, api.ErrSpace, aFile(0, "/f", text(2, 193)))
	fails(t, small, 0, api.ErrSpace, aFile(0, "/f", text(2, 20000)))
	// What one label has not, others have.
	fails(t, small, 2, api.ErrSpace, aFile(1, "/f", text(2, 193)), aFile(2, "/f", text(2, 193)), aFile(0, "/f", text(2, 193)))
	// A label's nodes: least has 4, 3 of them its own.
	fails(t, small, 1, api.ErrSpace, aFile(0, "/f", ""), aFile(0, "/g", ""))
	fails(t, small, 1, api.ErrSpace, aDir(0, "/f"), aLink(0, "/g", "/f"))
	fails(t, small, 4, api.ErrSpace, aFile(3, "/f", ""), aDir(3, "/g"), aFifo(3, "/h"), aFile(2, "/i", ""), aMulti(3, "/i"))
}

// P15.2: of each kind; each item finds what the ones ahead of it left.
func TestBuildKinds(t *testing.T) {
	c := parsed(t, four)
	d := built(t, c,
		aDir(low, "/d"), aFile(low, "/d/f", "one"), aDir(low, "/d/e"), aFile(low, "/d/e/g", "two"),
		aMulti(low, "/tmp"), aFile(low, "/tmp/x", "low's"), aFile(left, "/tmp@low/x", "left's"),
		aLink(left, "/way", "/d@low/e"), aLink(right, "/tmp", "/tmp@low"), aFile(right, "/tmp/x", "right's"),
		aFifo(high, "/p"), aLink(high, "/gone", "/nowhere"), aFile(low, "/e", ""),
		aFile(low, "relative", "three"), aFile(low, "d/e/../h", "four"), aFile(low, "/./../z", "five"),
		aFile(high, "/tmp@low/@low/../w", "six"),
	)
	reads(t, d, c, low, "/d/f", "one")
	reads(t, d, c, high, "/d@low/e/g", "two")
	reads(t, d, c, left, "/way/g", "two")
	reads(t, d, c, low, "/tmp/x", "low's")
	reads(t, d, c, left, "/tmp@low/x", "left's")
	reads(t, d, c, left, "/tmp@low/x@low", "low's")
	reads(t, d, c, right, "/tmp/x", "right's")
	reads(t, d, c, right, "/tmp@low/x", "right's")
	reads(t, d, c, high, "/tmp@low/x@left", "left's")
	reads(t, d, c, low, "/e", "")
	reads(t, d, c, low, "/relative", "three")
	reads(t, d, c, low, "/d/h", "four")
	reads(t, d, c, low, "/z", "five")
	reads(t, d, c, high, "/tmp@low/w", "six")
	for num, want := range map[int]api.Kind{4: api.KDir, 5: api.KFile, 6: api.KDir, 7: api.KFile, 8: api.KMulti, 9: api.KDir, 10: api.KFile, 11: api.KFile} {
		if n := nodeOf(t, d, c, low, num); n.Kind != want || n.Links != 1 || n.Gen != 1 {
			t.Errorf("P15.2: node %d of low is %v", num, n)
		}
	}
	if n := nodeOf(t, d, c, high, 4); n.Kind != api.KFifo || n.Size != 0 {
		t.Errorf("P15.2: the pipe is %v", n)
	}
	if n := nodeOf(t, d, c, high, 5); n.Kind != api.KLink || n.Size != 8 {
		t.Errorf("P15.2: the link is %v", n)
	}
}

// P15.2: ErrRange, if there is no such label: ahead of all other errors of that item, beside its place.
func TestBuildNoLabel(t *testing.T) {
	c := parsed(t, four)
	for _, lab := range []int{-1, -2, 4, 5, 63, 64, 255, 256, 260, 1 << 16, 1 << 32, -1 << 63, 1<<63 - 1} {
		fails(t, c, 0, api.ErrRange, aFile(lab, "/a", "x"))
		fails(t, c, 0, api.ErrRange, image.Item{Lab: lab, Kind: api.KDir, Path: "", Text: "x"})
		fails(t, c, 0, api.ErrRange, aLink(lab, "", strings.Repeat("x", 61)))
		fails(t, c, 2, api.ErrRange, aFile(low, "/a", "x"), aFile(high, "/a", "x"), aDir(lab, "/b"), aFile(lab, "/a", "x"))
	}
	for lab := range labels {
		built(t, c, aFile(lab, "/a", "x"))
	}
}

// P15.2: ErrInvalid, if it has a text, but is of another kind: ahead of what tree says of its path.
func TestBuildTextOfOthers(t *testing.T) {
	c := parsed(t, four)
	for _, k := range []api.Kind{api.KFree, api.KDir, api.KMulti, api.KFifo, 6, 7, 100, 255} {
		for _, path := range []string{"/a", "", "/no/where", "/there", "/", "/a@high"} {
			fails(t, c, 1, api.ErrInvalid, aFile(low, "/there", ""), image.Item{Lab: low, Kind: k, Path: path, Text: "x"})
			fails(t, c, 1, api.ErrInvalid, aFile(low, "/there", ""), image.Item{Lab: low, Kind: k, Path: path, Text: "\x00"})
		}
	}
	for _, k := range []api.Kind{api.KDir, api.KMulti, api.KFifo} {
		built(t, c, image.Item{Lab: low, Kind: k, Path: "/a"})
	}
}

// P15.2: tree.Make's errors.
func TestBuildMakeErrors(t *testing.T) {
	c := parsed(t, four)
	long := strings.Repeat("/a", 60)
	for _, k := range []api.Kind{api.KFile, api.KDir, api.KMulti, api.KFifo} {
		of := func(lab int, path string) image.Item { return image.Item{Lab: lab, Kind: k, Path: path} }
		fails(t, c, 0, api.ErrInvalid, of(low, ""))
		fails(t, c, 0, api.ErrInvalid, of(low, "/\x00"))
		fails(t, c, 0, api.ErrLong, of(low, long+"/"))
		fails(t, c, 0, api.ErrNone, of(low, long))
		fails(t, c, 0, api.ErrLong, of(low, "/123456789012345"))
		built(t, c, of(low, "/12345678901234"))
		fails(t, c, 0, api.ErrExists, of(low, "/"))
		fails(t, c, 0, api.ErrExists, of(low, "."))
		fails(t, c, 0, api.ErrExists, of(low, "/.."))
		fails(t, c, 0, api.ErrExists, of(low, "/@low"))
		fails(t, c, 0, api.ErrPerm, of(low, "/a@high"))
		fails(t, c, 0, api.ErrPerm, of(left, "/a@right"))
		fails(t, c, 0, api.ErrPerm, of(high, "/a@low"))
		fails(t, c, 0, api.ErrNone, of(low, "/a@nobody"))
		fails(t, c, 0, api.ErrNone, of(low, "/no/a"))
		fails(t, c, 1, api.ErrExists, aDir(low, "/a"), of(low, "/a"), of(low, "/b"))
		fails(t, c, 2, api.ErrExists, of(low, "/b"), of(low, "/a"), of(low, "b"))
		fails(t, c, 1, api.ErrNotDir, aFile(low, "/f", "x"), of(low, "/f/a"))
		fails(t, c, 1, api.ErrExists, aLink(low, "/l", "/l"), of(low, "/l"))
		fails(t, c, 1, api.ErrLoop, aLink(low, "/l", "/l"), of(low, "/l/a"))
		fails(t, c, 1, api.ErrPerm, aDir(low, "/d"), of(high, "/d@low/a"))
		fails(t, c, 1, api.ErrAway, aDir(low, "/d"), of(high, "/d@low/a@high"))
	}
	// Kinds that tree makes none of; the path's errors are ahead of that.
	for _, k := range []api.Kind{api.KFree, 6, 7, 255} {
		fails(t, c, 0, api.ErrRange, image.Item{Kind: k, Path: "/a"})
		fails(t, c, 0, api.ErrInvalid, image.Item{Kind: k, Path: ""})
		fails(t, c, 1, api.ErrExists, aDir(low, "/a"), image.Item{Kind: k, Path: "/a"})
	}
}

// P15.2: tree.Symlink's errors, of Text and Path: of the text ahead of the path's.
func TestBuildLinkErrors(t *testing.T) {
	c := parsed(t, four)
	fails(t, c, 0, api.ErrInvalid, aLink(low, "/l", ""))
	fails(t, c, 0, api.ErrInvalid, aLink(low, "/no/l", ""))
	fails(t, c, 0, api.ErrLong, aLink(low, "/l", "/"+strings.Repeat("a/", 30)))
	fails(t, c, 0, api.ErrLong, aLink(low, "", strings.Repeat("x", 61)))
	fails(t, c, 0, api.ErrLong, aLink(low, "/l", "/123456789012345"))
	fails(t, c, 0, api.ErrInvalid, aLink(low, "/l", "/a@"))
	fails(t, c, 0, api.ErrInvalid, aLink(low, "", "/a"))
	fails(t, c, 0, api.ErrNone, aLink(low, "/no/l", "/a"))
	fails(t, c, 0, api.ErrExists, aLink(low, "/", "/a"))
	fails(t, c, 0, api.ErrPerm, aLink(low, "/l@high", "/a"))
	fails(t, c, 1, api.ErrExists, aLink(low, "/l", "/a"), aLink(low, "/l", "/a"))
	d := built(t, c, aLink(low, "/l", strings.Repeat("a/", 30)), aLink(low, "/m", "/l"))
	doesntRead(t, d, c, low, "/l", api.ErrNone)
	if n := nodeOf(t, d, c, low, 4); n.Kind != api.KLink || n.Size != 60 {
		t.Errorf("P15.2: the link is %v", n)
	}
}

// P15.2: the first item that can't be made, whatever is behind it; as many as there are.
func TestBuildPlaces(t *testing.T) {
	c := parsed(t, four)
	var items []image.Item
	for i := range 27 {
		items = append(items, aFile(low, "/f"+string(rune('a'+i)), text(i, i*9)))
	}
	d := built(t, c, items[:26]...)
	for _, it := range items[:26] {
		reads(t, d, c, low, it.Path, it.Text)
	}
	for at := range items[:26] {
		l := append([]image.Item{}, items...)
		l[at].Path = "/f"
		l[at].Kind = api.KLink
		l[at].Text = ""
		fails(t, c, at, api.ErrInvalid, l...)
		l[at].Lab = 9
		fails(t, c, at, api.ErrRange, l...)
	}
	fails(t, c, 27, api.ErrSpace, append(items, aFile(low, "/last", ""))...)
}

// P15.2, R7: Empty's error, beside -1, whatever the items are.
func TestBuildWithout(t *testing.T) {
	for _, items := range [][]image.Item{nil, {{}}, {aFile(low, "/a", "x")}, {aFile(9, "", "")}} {
		fails(t, nil, -1, api.ErrNil, items...)
		if d, at, e := image.Build(&conf.Conf{}, items); d != nil || at != -1 || e == api.OK {
			t.Errorf("P1: Build of no labels = %v, %d, %d", d, at, e)
		}
	}
}
