package inst

import (
	"garrison/api"
	"garrison/dir"
	"garrison/file"
	"garrison/group"
)

// table is a group's records, as they stood when it was opened: of an empty place the zero one.
type table struct {
	group   *group.Group
	records []Record
}

// open: of a group whose table is right in all its places: what is asked of one of them is answered only if the others could be, too.
func open(g *group.Group) (*table, api.Errno) {
	n, e := g.Node(Table)
	if e != api.OK {
		return nil, e
	}
	b, e := file.Read(g, Table, 0, int(n.Size))
	if e != api.OK {
		return nil, e
	}
	if n.Kind != api.KFile || len(b)%RecordSize != 0 {
		return nil, api.ErrForm
	}
	t := table{group: g}
	for at := 0; at < len(b); at += RecordSize {
		r, ok := Unpack(b[at : at+RecordSize])
		if !ok {
			return nil, api.ErrForm
		}
		t.records = append(t.records, r)
	}
	return &t, api.OK
}

// find: in which place the first record of a node stands. An empty place is of none, were it asked for the root.
func (t *table) find(of api.Ino) (int, bool) {
	for i, r := range t.records {
		if !vacant(r) && r.Of == of {
			return i, true
		}
	}
	return 0, false
}

// room: the first empty place; the one behind all, if there is none.
func (t *table) room() int {
	for i, r := range t.records {
		if vacant(r) {
			return i
		}
	}
	return len(t.records)
}

// put: what stands in a place from now on.
func (t *table) put(i int, r Record) api.Errno {
	b := Pack(r)
	return file.Write(t.group, Table, i*RecordSize, b[:])
}

// drop: the directory that a place tells of is removed, if it is empty; so is the place then.
func (t *table) drop(i int) api.Errno {
	own := int(t.records[i].Own)
	empty, e := dir.Empty(t.group, own)
	if e != api.OK {
		return e
	}
	if !empty {
		return api.ErrNotEmpty
	}
	if e := file.Remove(t.group, own); e != api.OK {
		return e
	}
	return t.put(i, Record{})
}

// add: one more record. What can't be one isn't put, as the whole table would be wrong from then on.
func add(g *group.Group, r Record) api.Errno {
	t, e := open(g)
	if e != api.OK {
		return e
	}
	if !right(r) {
		return api.ErrForm
	}
	return t.put(t.room(), r)
}
