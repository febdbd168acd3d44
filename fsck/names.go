package fsck

import (
	"garrison/api"
	"garrison/dir"
	"garrison/inst"
)

// checkFixed: a group's own nodes are of their kinds. Each has a name that stands nowhere.
func (l *look) checkFixed() {
	for num := 1; num <= inst.Fixed; num++ {
		if l.node(num).Kind != fixedKind(num) {
			l.fault(num, api.ErrForm)
		}
		l.names[num]++
	}
}

// fixedKind: what a group's own node is.
func fixedKind(num int) api.Kind {
	if num == inst.Root {
		return api.KDir
	}
	return api.KFile
}

// checkRecords: each tells of a directory that is the label's own of what is at or below it, of each just one.
func (l *look) checkRecords() {
	if l.torn[inst.Table] {
		return
	}
	list, e := inst.List(l.group)
	l.check(inst.Table, e)
	seen := map[api.Ino]struct{}{}
	for _, r := range list {
		if _, twice := seen[r.Of]; twice {
			l.fault(inst.Table, api.ErrTwice)
		}
		seen[r.Of] = struct{}{}
		if !l.conf.Leq(int(r.Of.Lab), l.group.Lab()) {
			l.fault(inst.Table, api.ErrPerm)
		}
		l.checkOwn(r)
	}
}

// checkOwn: what a record calls the label's own directory is one. It has a name by that, and is in what it is its own of, if that is still there; what is of another group, that lies below, can't lie in anything of this one.
func (l *look) checkOwn(r inst.Record) {
	own := int(r.Own)
	if l.node(own).Kind != api.KDir {
		l.fault(inst.Table, api.ErrNotDir)
		return
	}
	l.names[own]++
	of := l.node(int(r.Of.Num))
	if int(r.Of.Lab) == l.group.Lab() && of.Kind == api.KMulti && of.Gen == r.Of.Gen {
		l.in[own] = int(r.Of.Num)
	}
}

// checkDirs: directories have entries that are right.
func (l *look) checkDirs() {
	for num, n := range l.nodes {
		if n.Kind == api.KDir && !l.torn[num] {
			l.checkDir(num)
		}
	}
}

// checkDir: each of a directory's entries has another name, and a node that may have one.
func (l *look) checkDir(num int) {
	list, e := dir.List(l.group, num)
	l.check(num, e)
	seen := map[string]struct{}{}
	for _, x := range list {
		if _, twice := seen[x.Name]; twice {
			l.fault(num, api.ErrTwice)
		}
		seen[x.Name] = struct{}{}
		l.check(num, l.enter(num, int(x.Num)))
	}
}

// enter: a directory has a name of a node, that one may have.
func (l *look) enter(in, num int) api.Errno {
	if num <= inst.Fixed {
		return api.ErrBusy
	}
	if l.node(num).Kind == api.KFree {
		return api.ErrStale
	}
	l.names[num]++
	l.in[num] = in
	return api.OK
}

// checkLinks: each node has as many names as it says; a directory one.
func (l *look) checkLinks() {
	for num, n := range l.nodes {
		if l.names[num] != int(n.Links) || isDir(n.Kind) && n.Links != 1 {
			l.fault(num, api.ErrMany)
		}
	}
}

// checkLoops: no directory lies in itself. Each has one name, or has a fault already: there is one way up.
func (l *look) checkLoops() {
	for num := range l.nodes {
		if num > 0 && l.inItself(num) {
			l.fault(num, api.ErrLoop)
		}
	}
}

// inItself: does the way up from a node come back to it? That takes no more steps than there are nodes.
func (l *look) inItself(num int) bool {
	at := num
	for range l.nodes {
		at = l.in[at]
		if at == num {
			return true
		}
	}
	return false
}
