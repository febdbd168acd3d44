package image

import (
	"garrison/api"
	"garrison/conf"
	"garrison/disk"
	"garrison/file"
	"garrison/fsck"
	"garrison/walk"
)

// Read: a file's bytes, of a disk, for a subject of a label. The log isn't recovered ahead of it: reading writes nothing.
func Read(d *disk.Disk, c *conf.Conf, subject int, path string) ([]byte, api.Errno) {
	v, e := view(d, c)
	if e != api.OK {
		return nil, e
	}
	f, e := v.Walk(subject, walk.Start(), path, true)
	if e != api.OK {
		return nil, e
	}
	switch f.Kind {
	case api.KFree:
		return nil, api.ErrNone
	case api.KFile:
		return whole(v, f.Node)
	}
	return nil, api.ErrIsDir
}

// whole: all bytes of a file.
func whole(v *walk.View, ino api.Ino) ([]byte, api.Errno) {
	g, e := v.Group(int(ino.Lab))
	if e != api.OK {
		return nil, e
	}
	return file.Read(g, int(ino.Num), 0, api.MaxFile)
}

// Right: is a disk right? Check alone would take one that is too long.
func Right(d *disk.Disk, c *conf.Conf) bool {
	l, e := Open(d)
	if e != api.OK || d.Len() != c.Total() {
		return false
	}
	return len(fsck.Check(l.Begin(), c)) == 0
}
