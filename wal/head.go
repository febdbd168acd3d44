package wal

import (
	"garrison/api"
)

// magic: what a head begins with.
const magic = 26529

// Where a head's numbers stand, of two bytes each: magic, how many, the places.
const (
	magicAt  = 0
	countAt  = 2
	placesAt = 4
)

// headOf: the head of a log whose blocks belong there (30 at most).
func headOf(places []int) api.Block {
	var b api.Block
	putNumber(&b, magicAt, magic)
	putNumber(&b, countAt, len(places))
	for i, n := range places {
		putNumber(&b, placesAt+2*i, n)
	}
	return b
}

// placesOf: where a head says that its log's blocks belong; false: it doesn't begin as a head, or tells of too many.
func placesOf(b api.Block) ([]int, bool) {
	many := number(b, countAt)
	if number(b, magicAt) != magic || many > api.LogBlocks {
		return nil, false
	}
	places := make([]int, many)
	for i := range places {
		places[i] = number(b, placesAt+2*i)
	}
	return places, true
}

// putNumber: two bytes, the lowest first.
func putNumber(b *api.Block, at, n int) {
	b[at] = byte(n)
	b[at+1] = byte(n >> 8)
}

func number(b api.Block, at int) int {
	return int(b[at]) | int(b[at+1])<<8
}
