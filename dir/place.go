package dir

import (
	"strings"

	"garrison/api"
)

// Where an entry's fields stand among its place's bytes: its node's number, and behind that its name.
const (
	numAt  = 0
	nameAt = numAt + 2
)

// Of which bytes a name is, but for / and @, which paths have for themselves.
const (
	leastByte = 33
	mostByte  = 126
)

// Name: may a text be a name in a directory? How long it is, is told ahead of what is in it.
func Name(s string) api.Errno {
	if s == "" || s == "." || s == ".." {
		return api.ErrInvalid
	}
	if len(s) > api.MaxName {
		return api.ErrLong
	}
	for i := range len(s) {
		if !mayStand(s[i]) {
			return api.ErrInvalid
		}
	}
	return api.OK
}

// mayStand: in a name?
func mayStand(b byte) bool {
	return b >= leastByte && b <= mostByte && b != '/' && b != '@'
}

// Pack: an entry as bytes, be it right or not: its node's number, the lowest byte first; as much of its name as there is room for, with noughts behind.
func Pack(x api.Entry) [api.EntrySize]byte {
	var b [api.EntrySize]byte
	b[numAt] = byte(x.Num)
	b[numAt+1] = byte(x.Num >> 8)
	copy(b[nameAt:], x.Name)
	return b
}

// Unpack: back; of an empty place the zero entry; false: it is neither.
func Unpack(b []byte) (api.Entry, bool) {
	if len(b) != api.EntrySize {
		return api.Entry{}, false
	}
	// A nought ahead of other bytes stays in the name, and is refused there.
	x := api.Entry{
		Name: strings.TrimRight(string(b[nameAt:]), "\x00"),
		Num:  uint16(b[numAt]) | uint16(b[numAt+1])<<8,
	}
	if vacant(x) {
		return x, true
	}
	if x.Num == 0 || Name(x.Name) != api.OK {
		return api.Entry{}, false
	}
	return x, true
}
