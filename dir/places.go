package dir

import (
	"garrison/api"
	"garrison/file"
	"garrison/group"
)

// directory is a node's places, as they stood when it was opened: of an empty one the zero entry, which no other is, as all others have a node.
type directory struct {
	group  *group.Group
	num    int
	places []api.Entry
}

// open: of a node that is a directory, and all of whose places are right: what is asked of one of them is answered only if the others could be, too.
func open(g *group.Group, num int) (*directory, api.Errno) {
	n, e := g.Node(num)
	if e != api.OK {
		return nil, e
	}
	if n.Kind == api.KFree {
		return nil, api.ErrStale
	}
	if n.Kind != api.KDir {
		return nil, api.ErrNotDir
	}
	b, e := file.Read(g, num, 0, int(n.Size))
	if e != api.OK {
		return nil, e
	}
	d := directory{group: g, num: num}
	for at := 0; at < len(b); at += api.EntrySize {
		x, ok := Unpack(b[at : at+api.EntrySize])
		if !ok {
			return nil, api.ErrForm
		}
		d.places = append(d.places, x)
	}
	return &d, api.OK
}

// find: in which place the first entry of a name stands. An empty place has no name, were it asked for none.
func (d *directory) find(name string) (int, api.Errno) {
	for i, x := range d.places {
		if !vacant(x) && x.Name == name {
			return i, api.OK
		}
	}
	return 0, api.ErrNone
}

// room: the first empty place; the one behind all, if there is none.
func (d *directory) room() int {
	for i, x := range d.places {
		if vacant(x) {
			return i
		}
	}
	return len(d.places)
}

// used: how many places there are without the empty ones at the end.
func (d *directory) used() int {
	many := len(d.places)
	for many > 0 && vacant(d.places[many-1]) {
		many--
	}
	return many
}

// put: what stands in a place from now on.
func (d *directory) put(i int, x api.Entry) api.Errno {
	b := Pack(x)
	return file.Write(d.group, d.num, i*api.EntrySize, b[:])
}

// vacant: is it what an empty place has?
func vacant(x api.Entry) bool { return x == api.Entry{} }
