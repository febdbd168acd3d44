package node

import (
	"garrison/api"
)

// Where a node's fields stand among its bytes: the kind, the links, the generation, the length, the pointers; what is behind them.
const (
	kindAt     = 0
	linksAt    = 1
	genAt      = 2
	sizeAt     = 4
	pointersAt = 8
	behindAt   = pointersAt + 2*pointerCount
)

// pointerCount: the direct ones, Single and Double.
const pointerCount = api.Directs + 2

// pointerRow is a node's pointers, all of them, in their bytes' order.
type pointerRow [pointerCount]uint16

// pointersOf: a node's.
func pointersOf(n api.Node) pointerRow {
	var p pointerRow
	copy(p[:], n.Direct[:])
	p[api.Directs] = n.Single
	p[api.Directs+1] = n.Double
	return p
}

// point gives a node these pointers.
func point(n *api.Node, p pointerRow) {
	copy(n.Direct[:], p[:])
	n.Single = p[api.Directs]
	n.Double = p[api.Directs+1]
}

// Encode: a node as bytes, be it right or not.
func Encode(n api.Node) [api.NodeSize]byte {
	var b [api.NodeSize]byte
	b[kindAt] = byte(n.Kind)
	b[linksAt] = n.Links
	putNumber(b[genAt:sizeAt], uint32(n.Gen))
	putNumber(b[sizeAt:pointersAt], n.Size)
	for i, p := range pointersOf(n) {
		at := pointersAt + 2*i
		putNumber(b[at:at+2], uint32(p))
	}
	return b
}

// Decode: back. What stands behind the fields would be lost, so it has to be noughts.
func Decode(b [api.NodeSize]byte) (api.Node, api.Errno) {
	for _, x := range b[behindAt:] {
		if x != 0 {
			return api.Node{}, api.ErrForm
		}
	}
	n := api.Node{
		Kind:  api.Kind(b[kindAt]),
		Links: b[linksAt],
		Gen:   uint16(number(b[genAt:sizeAt])),
		Size:  number(b[sizeAt:pointersAt]),
	}
	var p pointerRow
	for i := range p {
		at := pointersAt + 2*i
		p[i] = uint16(number(b[at : at+2]))
	}
	point(&n, p)
	if e := Check(n); e != api.OK {
		return api.Node{}, e
	}
	return n, api.OK
}

// putNumber: as many bytes of a number as there is room for, the lowest first.
func putNumber(b []byte, n uint32) {
	for i := range b {
		b[i] = byte(n >> (8 * i))
	}
}

// number: of four bytes at most, the lowest first.
func number(b []byte) uint32 {
	var n uint32
	for i, x := range b {
		n |= uint32(x) << (8 * i)
	}
	return n
}
