package ops_test

import (
	"bytes"
	"slices"
	"testing"

	"garrison/api"
	"garrison/ops"
)

// roomy: these bytes, with spare room behind them; all of their memory.
func roomy(b []byte) ([]byte, []byte) {
	whole := append(slices.Clone(b), bytes.Repeat([]byte{170}, 64)...)
	return whole[:len(b)], whole
}

// spoil writes into bytes, and into their spare room.
func spoil(b []byte) {
	whole := b[:cap(b)]
	for i := range whole {
		whole[i] ^= 0x55
	}
}

// taker: a call that is handed bytes and answers some.
type taker struct {
	name string
	do   func(b []byte) []byte
}

// takers: all calls of that kind.
func takers() []taker {
	return []taker{
		{"File", func(b []byte) []byte {
			out, _ := ops.File(ops.Program{Code: b})
			return out
		}},
		{"Load", func(b []byte) []byte {
			p, _ := ops.Load(b)
			return p.Code
		}},
		{"Load of File", func(b []byte) []byte {
			out, _ := ops.File(ops.Program{Code: b})
			p, _ := ops.Load(out)
			return p.Code
		}},
	}
}

// given: bytes that are a file of a program; as code they are right, too.
func given() [][]byte {
	var out [][]byte
	for _, long := range []int{1, 4, 60, 61, 64, 1000, 1792, 2044} {
		out = append(out, append([]byte("GX\x00\x00"), code(long)...))
	}
	return out
}

// P2, R6: what is handed in isn't changed, spare room included, be it right or not.
func TestArgumentsStay(t *testing.T) {
	for _, x := range takers() {
		for _, g := range append(given(), nil, []byte{}, []byte("GX"), []byte("GY\x00\x00aaaa"), code(2049)) {
			b, whole := roomy(g)
			was := slices.Clone(whole)
			x.do(b)
			ops.Pages(ops.Program{Extra: 3, Code: b})
			if !bytes.Equal(whole, was) {
				t.Errorf("%s of %d bytes changes what it is handed", x.name, len(b))
			}
		}
	}
}

// P2, R6: what is written into an answer, or behind it, doesn't come to the argument, nor to another answer.
func TestAnswersAreNew(t *testing.T) {
	for _, x := range takers() {
		for _, g := range given() {
			b, whole := roomy(g)
			was := slices.Clone(whole)
			one, two := x.do(b), x.do(b)
			want := slices.Clone(two)
			spoil(one)
			_ = append(one, 1, 2, 3, 4)
			if !bytes.Equal(whole, was) {
				t.Errorf("%s of %d bytes answers its argument's memory", x.name, len(b))
			}
			if !bytes.Equal(two, want) || !bytes.Equal(x.do(b), want) {
				t.Errorf("%s of %d bytes answers the memory of another answer", x.name, len(b))
			}
		}
	}
}

// P2, R6: what is handed in isn't kept: what is written into it later doesn't come to the answer.
func TestArgumentsAreNotKept(t *testing.T) {
	for _, x := range takers() {
		for _, g := range given() {
			b, _ := roomy(g)
			out := x.do(b)
			want := slices.Clone(out)
			spoil(b)
			if len(out) == 0 || !bytes.Equal(out, want) {
				t.Errorf("%s of %d bytes keeps what it is handed", x.name, len(b))
			}
		}
	}
}

// P2, R5, R7: no bytes at all, and lists that are empty: an error, and nothing beside it.
func TestNothing(t *testing.T) {
	for _, none := range [][]byte{nil, {}, code(4)[:0]} {
		for _, extra := range []uint8{0, 1, 32, 255} {
			p := ops.Program{Extra: extra, Code: none}
			if b, e := ops.File(p); len(b) != 0 || e != api.ErrExec {
				t.Errorf("File without code = %v, %d", b, e)
			}
			if n := ops.Pages(p); n != int(extra) {
				t.Errorf("Pages(%d, no code) = %d", extra, n)
			}
		}
		if p, e := ops.Load(none); p.Extra != 0 || len(p.Code) != 0 || e != api.ErrExec {
			t.Errorf("Load of nothing = %v, %d", p, e)
		}
	}
}

// P2, R7: the zero value of what is handed in.
func TestZeroes(t *testing.T) {
	var i api.Instr
	if e := ops.Check(i); e != api.ErrCode {
		t.Errorf("Check of the zero instruction = %d", e)
	}
	if f, ok := ops.Of(i.Op); f != ops.FNone || ok {
		t.Errorf("Of(0) = %d, %v", f, ok)
	}
	if ops.Pack(i) != [4]byte{} || ops.Unpack([4]byte{}) != i || ops.Word([4]byte{}) != 0 || ops.Bytes(0) != [4]byte{} {
		t.Error("noughts as bytes, and back")
	}
	if ops.Wide(i) != 0 || ops.SetWide(i, 0) != i || ops.Jump(i) != 0 || ops.Near(i) != 0 {
		t.Error("numbers of the zero instruction")
	}
}

// P2, R6, R8: an instruction and its bytes are values: who asked keeps his, and the same again answers the same.
func TestValuesStay(t *testing.T) {
	i, b := api.Instr{Op: ops.Ldi, X: 3, Y: 4, Z: 5}, [4]byte{1, 2, 3, 4}
	for range 2 {
		if j := ops.SetWide(i, 0x0908); j != (api.Instr{Op: ops.Ldi, X: 3, Y: 8, Z: 9}) {
			t.Errorf("SetWide = %v", j)
		}
		if ops.Pack(i) != [4]byte{2, 3, 4, 5} || ops.Unpack(b) != (api.Instr{Op: 1, X: 2, Y: 3, Z: 4}) || ops.Word(b) != 0x04030201 {
			t.Error("Pack, Unpack, Word")
		}
		out := ops.Bytes(0x04030201)
		out[0] = 99
		if ops.Bytes(0x04030201) != b || i != (api.Instr{Op: ops.Ldi, X: 3, Y: 4, Z: 5}) || b != [4]byte{1, 2, 3, 4} {
			t.Error("what is handed in, or answered again, has changed")
		}
	}
}
