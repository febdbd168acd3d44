package ops_test

import (
	"math"
	"testing"

	"garrison/api"
	"garrison/ops"
)

// The chapter's example, and that of chapter 17.
func TestExamples(t *testing.T) {
	if b := ops.Pack(api.Instr{Op: ops.Addi, X: 1, Y: 2, Z: 255}); b != [4]byte{21, 1, 2, 255} {
		t.Errorf("Pack of addi 1 2 -1 = %v", b)
	}
	i := ops.Unpack([4]byte{32, 1, 254, 255})
	if i != (api.Instr{Op: ops.Jnz, X: 1, Y: 254, Z: 255}) || ops.Jump(i) != -2 || ops.Check(i) != api.OK {
		t.Errorf("jnz r1 a = %v, %d", i, ops.Jump(i))
	}
}

// P16.2: each byte at its place, whatever it is.
func TestPack(t *testing.T) {
	for _, x := range []struct {
		i api.Instr
		b [4]byte
	}{
		{api.Instr{}, [4]byte{}},
		{api.Instr{Op: 1}, [4]byte{1}},
		{api.Instr{X: 1}, [4]byte{1: 1}},
		{api.Instr{Y: 1}, [4]byte{2: 1}},
		{api.Instr{Z: 1}, [4]byte{3: 1}},
		{api.Instr{Op: 1, X: 2, Y: 3, Z: 4}, [4]byte{1, 2, 3, 4}},
		{api.Instr{Op: ops.Sys, Y: 7}, [4]byte{39, 0, 7, 0}},
		{api.Instr{Op: ops.Many, X: 16, Y: 255, Z: 128}, [4]byte{40, 16, 255, 128}},
		{api.Instr{Op: 255, X: 254, Y: 253, Z: 252}, [4]byte{255, 254, 253, 252}},
	} {
		if b := ops.Pack(x.i); b != x.b {
			t.Errorf("Pack(%v) = %v, wanted %v", x.i, b, x.b)
		}
		if i := ops.Unpack(x.b); i != x.i {
			t.Errorf("Unpack(%v) = %v, wanted %v", x.b, i, x.i)
		}
	}
	for at := range 4 {
		for v := range 256 {
			b := [4]byte{11, 12, 13, 14}
			b[at] = byte(v)
			if i := ops.Unpack(b); i != (api.Instr{Op: api.Op(b[0]), X: b[1], Y: b[2], Z: b[3]}) || ops.Pack(i) != b {
				t.Errorf("Unpack(%v) = %v, Pack of it %v", b, i, ops.Pack(i))
			}
		}
	}
}

// P16.2
func TestWord(t *testing.T) {
	for n, b := range map[uint32][4]byte{
		0: {}, 1: {1}, 255: {255}, 256: {0, 1}, 65535: {255, 255}, 65536: {0, 0, 1}, 1 << 24: {0, 0, 0, 1}, 1 << 31: {0, 0, 0, 128}, math.MaxInt32: {255, 255, 255, 127}, math.MaxUint32: {255, 255, 255, 255},
		0x04030201: {1, 2, 3, 4}, 0xfffefdfc: {0xfc, 0xfd, 0xfe, 0xff}, 0x80000001: {1, 0, 0, 128},
	} {
		if w := ops.Word(b); w != n {
			t.Errorf("Word(%v) = %d, wanted %d", b, w, n)
		}
		if w := ops.Bytes(n); w != b {
			t.Errorf("Bytes(%d) = %v, wanted %v", n, w, b)
		}
	}
	for at := range 4 {
		for v := range 256 {
			b := [4]byte{11, 12, 13, 14}
			b[at] = byte(v)
			n := uint32(b[0]) + 256*uint32(b[1]) + 65536*uint32(b[2]) + 16777216*uint32(b[3])
			if ops.Word(b) != n || ops.Bytes(n) != b {
				t.Errorf("Word(%v) = %d, Bytes(%d) = %v", b, ops.Word(b), n, ops.Bytes(n))
			}
		}
	}
}

// P16.2: all numbers of sixteen bits; the op and the register stay, whatever they are.
func TestWide(t *testing.T) {
	for _, was := range []api.Instr{{}, {Op: ops.Ldi, X: 15}, {Op: ops.Ret, X: 1, Y: 2, Z: 3}, {Op: 255, X: 255, Y: 255, Z: 255}} {
		for n := range 1 << 16 {
			i := ops.SetWide(was, uint16(n))
			if want := (api.Instr{Op: was.Op, X: was.X, Y: uint8(n % 256), Z: uint8(n / 256)}); i != want {
				t.Fatalf("SetWide(%v, %d) = %v, wanted %v", was, n, i, want)
			}
			if w := ops.Wide(i); w != uint16(n) {
				t.Fatalf("Wide(%v) = %d, wanted %d", i, w, n)
			}
			want := n
			if n >= 32768 {
				want = n - 65536
			}
			if j := ops.Jump(i); j != want {
				t.Fatalf("Jump(%v) = %d, wanted %d", i, j, want)
			}
		}
	}
}

// P16.2
func TestWideEdges(t *testing.T) {
	for _, x := range []struct {
		y, z uint8
		wide uint16
		jump int
	}{
		{0, 0, 0, 0}, {1, 0, 1, 1}, {255, 0, 255, 255}, {0, 1, 256, 256}, {2, 1, 258, 258}, {255, 127, 32767, 32767}, {0, 128, 32768, -32768}, {254, 255, 65534, -2}, {255, 255, 65535, -1},
	} {
		i := api.Instr{Op: ops.Jmp, X: 9, Y: x.y, Z: x.z}
		if ops.Wide(i) != x.wide || ops.Jump(i) != x.jump {
			t.Errorf("Wide(%v), Jump = %d, %d, wanted %d, %d", i, ops.Wide(i), ops.Jump(i), x.wide, x.jump)
		}
	}
}

// P16.2: of Z alone.
func TestNear(t *testing.T) {
	for z, want := range map[uint8]int32{0: 0, 1: 1, 127: 127, 128: -128, 129: -127, 254: -2, 255: -1} {
		if n := ops.Near(api.Instr{Z: z}); n != want {
			t.Errorf("Near of Z %d = %d, wanted %d", z, n, want)
		}
	}
	for v := range 256 {
		want := int32(v)
		if v >= 128 {
			want = int32(v) - 256
		}
		for _, i := range []api.Instr{{}, {Op: ops.Addi, X: 1, Y: 2}, {Op: 255, X: 255, Y: 255}} {
			i.Z = uint8(v)
			if n := ops.Near(i); n != want {
				t.Errorf("Near(%v) = %d, wanted %d", i, n, want)
			}
		}
	}
}
