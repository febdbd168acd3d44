package wal

import (
	"slices"

	"garrison/api"
)

// Txn is blocks that are to be written as one.
type Txn struct {
	log    Log
	blocks map[int]api.Block // by where they belong
	failed api.Errno         // what the first Put that failed answered: Commit must not write what lacks a part
}

// Get: a block as it will be.
func (t *Txn) Get(n int) (api.Block, api.Errno) {
	if t == nil {
		return api.Block{}, api.ErrNil
	}
	if b, ok := t.blocks[n]; ok {
		return b, api.OK
	}
	return t.log.disk.Read(n)
}

// Put: a block is to be written.
func (t *Txn) Put(n int, b api.Block) api.Errno {
	if t == nil {
		return api.ErrNil
	}
	if e := t.mayPut(n); e != api.OK {
		if t.failed == api.OK {
			t.failed = e
		}
		return e
	}
	t.blocks[n] = b
	return api.OK
}

func (t *Txn) mayPut(n int) api.Errno {
	if !t.log.outside(n) {
		return api.ErrRange
	}
	if _, again := t.blocks[n]; !again && len(t.blocks) >= api.LogBlocks {
		return api.ErrMany
	}
	return api.OK
}

// Len: how many blocks are to be written.
func (t *Txn) Len() int {
	if t == nil {
		return 0
	}
	return len(t.blocks)
}

// Blocks: which ones, rising.
func (t *Txn) Blocks() []int {
	if t == nil {
		return nil
	}
	places := make([]int, 0, len(t.blocks))
	for n := range t.blocks {
		places = append(places, n)
	}
	slices.Sort(places)
	return places
}

// Drop: nothing is to be written.
func (t *Txn) Drop() {
	if t == nil {
		return
	}
	clear(t.blocks)
	t.failed = api.OK
}

// Commit: all are written, or none; then there is nothing more to be written.
func (t *Txn) Commit() api.Errno {
	if t == nil {
		return api.ErrNil
	}
	if t.failed != api.OK {
		return t.failed
	}
	places := t.Blocks()
	if len(places) == 0 {
		return api.OK
	}
	if e := t.writeLog(places); e != api.OK {
		return e
	}
	// From the head on it is for Recover to bring them to their places, if the disk stops.
	clear(t.blocks)
	return t.log.install(places)
}

// writeLog: the log's blocks, and behind them the head that makes them hold.
func (t *Txn) writeLog(places []int) api.Errno {
	for i, n := range places {
		if e := t.log.disk.Write(t.log.slot(i), t.blocks[n]); e != api.OK {
			return e
		}
	}
	return t.log.point(places)
}
