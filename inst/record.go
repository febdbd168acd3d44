package inst

import (
	"garrison/api"
)

// RecordSize is how many bytes a record of the table has.
const RecordSize = 8

// Record says which directory (of the table's group) is the label's own of which node.
type Record struct {
	Of  api.Ino
	Own uint16
}

// Where a record's fields stand among its bytes: of what it is, with a mark behind the label; the own directory.
const (
	labAt  = 0
	markAt = 1
	numAt  = 2
	genAt  = 4
	ownAt  = 6
)

// mark tells a record of label 0 from an empty place.
const mark = 1

// Pack: a record as bytes, be it right or not; the zero one is an empty place's.
func Pack(r Record) [RecordSize]byte {
	var b [RecordSize]byte
	if vacant(r) {
		return b
	}
	b[labAt] = r.Of.Lab
	b[markAt] = mark
	putNumber(&b, numAt, r.Of.Num)
	putNumber(&b, genAt, r.Of.Gen)
	putNumber(&b, ownAt, r.Own)
	return b
}

// Unpack: back; of an empty place the zero one; false: it is neither.
func Unpack(b []byte) (Record, bool) {
	if len(b) != RecordSize {
		return Record{}, false
	}
	r := Record{
		Of:  api.Ino{Lab: b[labAt], Num: number(b, numAt), Gen: number(b, genAt)},
		Own: number(b, ownAt),
	}
	if b[markAt] == 0 && vacant(r) {
		return r, true
	}
	if b[markAt] != mark || !right(r) {
		return Record{}, false
	}
	return r, true
}

// vacant: is it what an empty place has?
func vacant(r Record) bool { return r == Record{} }

// right: may it be a record? The root is nobody's number, and no node that is always there is an own directory.
func right(r Record) bool { return r.Of.Num > 0 && r.Own > Fixed }

// putNumber: two bytes, the lowest first.
func putNumber(b *[RecordSize]byte, at int, n uint16) {
	b[at] = byte(n)
	b[at+1] = byte(n >> 8)
}

// number: of two bytes, the lowest first.
func number(b []byte, at int) uint16 {
	return uint16(b[at]) | uint16(b[at+1])<<8
}
