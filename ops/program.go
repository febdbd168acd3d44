package ops

import (
	"slices"

	"garrison/api"
)

// Program is a program as a file has it: how many pages of noughts behind its code; its code.
type Program struct {
	Extra uint8
	Code  []byte
}

// MaxCode is how many bytes of code a program may have.
const MaxCode = api.MaxPages * api.PageSize

// The bytes ahead of the code: by the first two a file is known as a program; the last is nought.
const (
	firstMark  = 'G'
	secondMark = 'X'
	headSize   = 4
)

// may: may it be a program?
func may(p Program) bool {
	return len(p.Code) > 0 && len(p.Code) <= MaxCode && Pages(p) <= api.MaxPages
}

// Pages: how many pages a program has.
func Pages(p Program) int {
	return (len(p.Code)+api.PageSize-1)/api.PageSize + int(p.Extra)
}

// File: a program as a file's bytes.
func File(p Program) ([]byte, api.Errno) {
	if !may(p) {
		return nil, api.ErrExec
	}
	return slices.Concat([]byte{firstMark, secondMark, p.Extra, 0}, p.Code), api.OK
}

// Load: a file's bytes as a program.
func Load(b []byte) (Program, api.Errno) {
	if len(b) < headSize || b[0] != firstMark || b[1] != secondMark || b[3] != 0 {
		return Program{}, api.ErrExec
	}
	p := Program{Extra: b[2], Code: b[headSize:]}
	if !may(p) {
		return Program{}, api.ErrExec
	}
	p.Code = slices.Clone(p.Code) // an answer shares no memory with what is handed in
	return p, api.OK
}
