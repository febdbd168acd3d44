package ops

import (
	"garrison/api"
)

// Pack: an instruction as four bytes.
func Pack(i api.Instr) [4]byte { return [4]byte{byte(i.Op), i.X, i.Y, i.Z} }

// Unpack: back; whatever they are.
func Unpack(b [4]byte) api.Instr {
	return api.Instr{Op: api.Op(b[0]), X: b[1], Y: b[2], Z: b[3]}
}

// Word: four bytes as a number, the lowest first.
func Word(b [4]byte) uint32 {
	var n uint32
	for i, x := range b {
		n |= uint32(x) << (8 * i)
	}
	return n
}

// Bytes: back.
func Bytes(n uint32) [4]byte {
	var b [4]byte
	for i := range b {
		b[i] = byte(n >> (8 * i))
	}
	return b
}

// Wide: an instruction's number of sixteen bits.
func Wide(i api.Instr) uint16 { return uint16(i.Y) | uint16(i.Z)<<8 }

// SetWide: an instruction with another number of sixteen bits.
func SetWide(i api.Instr, n uint16) api.Instr {
	i.Y, i.Z = uint8(n), uint8(n>>8)
	return i
}

// Jump: how many instructions further a jump goes, signed.
func Jump(i api.Instr) int { return int(int16(Wide(i))) }

// Near: an instruction's number of eight bits, signed.
func Near(i api.Instr) int32 { return int32(int8(i.Z)) }
