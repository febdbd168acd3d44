package image

import (
	"garrison/api"
	"garrison/conf"
	"garrison/disk"
	"garrison/file"
	"garrison/tree"
	"garrison/walk"
)

// Item is what a disk is to have: of which label, of which kind, its path; a file's bytes, a symbolic link's text.
type Item struct {
	Lab  int
	Kind api.Kind
	Path string
	Text string
}

// none: the place of an item, where it isn't an item that is at fault.
const none = -1

// Build: a disk of a configuration, with items, one behind the other; the first that can't be made (below 0: none of them), and why.
func Build(c *conf.Conf, items []Item) (*disk.Disk, int, api.Errno) {
	d, e := Empty(c)
	if e != api.OK {
		return nil, none, e
	}
	for i, it := range items {
		if e := add(d, c, it); e != api.OK {
			return nil, i, e
		}
	}
	return d, none, api.OK
}

// add: an item more. Each step is committed by itself: a transaction has no room for a long text.
func add(d *disk.Disk, c *conf.Conf, it Item) api.Errno {
	if it.Lab < 0 || it.Lab >= c.Len() {
		return api.ErrRange
	}
	if it.Text != "" && !hasText(it.Kind) {
		return api.ErrInvalid
	}
	v, e := view(d, c)
	if e != api.OK {
		return e
	}
	ino, e := enter(v, it)
	if e != api.OK {
		return e
	}
	if e := v.T.Commit(); e != api.OK || it.Kind != api.KFile {
		return e
	}
	return fill(v, ino, it.Text)
}

// hasText: may there be a text of that kind?
func hasText(k api.Kind) bool { return k == api.KFile || k == api.KLink }

// view: the files of a disk, in a transaction of nothing so far.
func view(d *disk.Disk, c *conf.Conf) (*walk.View, api.Errno) {
	l, e := Open(d)
	if e != api.OK {
		return nil, e
	}
	return &walk.View{T: l.Begin(), C: c}, api.OK
}

// enter: an item's name, and its node: a link with its text, a file still without.
func enter(v *walk.View, it Item) (api.Ino, api.Errno) {
	t := &tree.Tree{View: v, Subject: it.Lab, Cwd: walk.Start()}
	if it.Kind == api.KLink {
		return t.Symlink(it.Text, it.Path)
	}
	return t.Make(it.Path, it.Kind)
}

// fill: a new file's bytes, piece by piece.
func fill(v *walk.View, ino api.Ino, text string) api.Errno {
	g, e := v.Group(int(ino.Lab))
	if e != api.OK {
		return e
	}
	for off := 0; off < len(text); off += api.MaxIO {
		piece := text[off:min(off+api.MaxIO, len(text))]
		if e := file.Write(g, int(ino.Num), off, []byte(piece)); e != api.OK {
			return e
		}
		if e := v.T.Commit(); e != api.OK {
			return e
		}
	}
	return api.OK
}
