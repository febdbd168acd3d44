package fsck

import (
	"garrison/api"
	"garrison/conf"
	"garrison/wal"
)

// superBlock: which block says what the disk is.
const superBlock = 0

// magic: what that block begins with.
const magic = 27250

// Where its numbers stand, of four bytes each.
const (
	magicAt = 0
	totalAt = 4
	sumAt   = 8
)

// Super: the block that says what a disk is: that of which configuration.
func Super(c *conf.Conf) api.Block {
	var b api.Block
	if c == nil { // else it would be of some configuration that nobody has
		return b
	}
	putNumber(&b, magicAt, magic)
	putNumber(&b, totalAt, uint32(c.Total()))
	putNumber(&b, sumAt, c.Sum())
	return b
}

// checkSuper: is a disk that of a configuration?
func checkSuper(t *wal.Txn, c *conf.Conf) api.Errno {
	b, e := t.Get(superBlock)
	if e != api.OK {
		return e
	}
	if b != Super(c) {
		return api.ErrImage
	}
	return api.OK
}

// putNumber: four bytes, the lowest first.
func putNumber(b *api.Block, at int, n uint32) {
	for i := range 4 {
		b[at+i] = byte(n >> (8 * i))
	}
}
