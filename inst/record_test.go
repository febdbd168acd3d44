package inst_test

import (
	"math/rand"
	"slices"
	"testing"

	"garrison/api"
	"garrison/inst"
)

// rec: a record.
func rec(lab uint8, num, gen, own uint16) inst.Record {
	return inst.Record{Of: api.Ino{Lab: lab, Num: num, Gen: gen}, Own: own}
}

// bytesOf: the chapter's words for a record's bytes, by division; the zero one is empty.
func bytesOf(r inst.Record) [8]byte {
	if r.Of.Lab == 0 && r.Of.Num == 0 && r.Of.Gen == 0 && r.Own == 0 {
		return [8]byte{}
	}
	return [8]byte{
		r.Of.Lab, 1,
		byte(r.Of.Num % 256), byte(r.Of.Num / 256),
		byte(r.Of.Gen % 256), byte(r.Of.Gen / 256),
		byte(r.Own % 256), byte(r.Own / 256),
	}
}

// wantRecord: the chapter's words for eight bytes.
func wantRecord(b [8]byte) (inst.Record, bool) {
	if b == [8]byte{} {
		return inst.Record{}, true
	}
	two := func(i int) uint16 { return uint16(int(b[i]) + 256*int(b[i+1])) }
	if b[1] != 1 || two(2) == 0 || two(6) < 4 {
		return inst.Record{}, false
	}
	return rec(b[0], two(2), two(4), two(6)), true
}

// The constants are what the chapter says.
func TestConstants(t *testing.T) {
	if inst.Root != 1 || inst.Table != 2 || inst.Audit != 3 || inst.Fixed != 3 || inst.RecordSize != 8 {
		t.Error("a constant is another")
	}
}

// P10.1: a record's bytes, written out, and back.
func TestPack(t *testing.T) {
	for _, x := range []struct {
		r inst.Record
		b [8]byte
	}{
		{rec(0, 4, 1, 5), [8]byte{0, 1, 4, 0, 1, 0, 5, 0}},
		{rec(0, 1, 0, 4), [8]byte{0, 1, 1, 0, 0, 0, 4, 0}},
		{rec(63, 128, 65535, 128), [8]byte{63, 1, 128, 0, 255, 255, 128, 0}},
		{rec(255, 65535, 65535, 65535), [8]byte{255, 1, 255, 255, 255, 255, 255, 255}},
		{rec(2, 0x1234, 0x5678, 0x9abc), [8]byte{2, 1, 0x34, 0x12, 0x78, 0x56, 0xbc, 0x9a}},
		{rec(0, 256, 256, 256), [8]byte{0, 1, 0, 1, 0, 1, 0, 1}},
		{rec(1, 65280, 0, 255), [8]byte{1, 1, 0, 255, 0, 0, 255, 0}},
		{inst.Record{}, [8]byte{}},
	} {
		if b := inst.Pack(x.r); b != x.b {
			t.Errorf("Pack(%v) = %v, wanted %v", x.r, b, x.b)
		}
		if r, ok := inst.Unpack(x.b[:]); r != x.r || !ok {
			t.Errorf("Unpack(%v) = %v, %v, wanted %v", x.b, r, ok, x.r)
		}
	}
}

// P10.1: what can't be a record has bytes all the same; it doesn't come back.
func TestPackWrong(t *testing.T) {
	for _, x := range []struct {
		r inst.Record
		b [8]byte
	}{
		{rec(0, 0, 0, 4), [8]byte{0, 1, 0, 0, 0, 0, 4, 0}},
		{rec(0, 0, 7, 0), [8]byte{0, 1, 0, 0, 7, 0, 0, 0}},
		{rec(1, 0, 0, 0), [8]byte{1, 1}},
		{rec(0, 5, 0, 0), [8]byte{0, 1, 5}},
		{rec(0, 5, 6, 1), [8]byte{0, 1, 5, 0, 6, 0, 1, 0}},
		{rec(0, 5, 6, 2), [8]byte{0, 1, 5, 0, 6, 0, 2, 0}},
		{rec(9, 5, 6, 3), [8]byte{9, 1, 5, 0, 6, 0, 3, 0}},
	} {
		if b := inst.Pack(x.r); b != x.b {
			t.Errorf("Pack(%v) = %v, wanted %v", x.r, b, x.b)
		}
		if r, ok := inst.Unpack(x.b[:]); r != (inst.Record{}) || ok {
			t.Errorf("Unpack(%v) = %v, %v", x.b, r, ok)
		}
	}
}

// P10.1: bytes that are neither a record nor empty.
func TestUnpackWrong(t *testing.T) {
	for _, b := range [][]byte{
		{0, 1, 0, 0, 0, 0, 0, 0}, {1, 0, 0, 0, 0, 0, 0, 0}, {0, 0, 4, 0, 1, 0, 5, 0}, {0, 2, 4, 0, 1, 0, 5, 0}, {0, 255, 4, 0, 1, 0, 5, 0}, {1, 0, 4, 0, 1, 0, 5, 0},
		{0, 1, 0, 0, 1, 0, 5, 0}, {0, 1, 4, 0, 1, 0, 0, 0}, {0, 1, 4, 0, 1, 0, 1, 0}, {0, 1, 4, 0, 1, 0, 2, 0}, {0, 1, 4, 0, 1, 0, 3, 0},
		{0, 0, 0, 0, 0, 0, 0, 1}, {0, 0, 0, 0, 0, 0, 5, 0}, {0, 0, 1, 0, 0, 0, 0, 0}, {0, 0, 0, 0, 1, 0, 0, 0},
	} {
		if r, ok := inst.Unpack(b); r != (inst.Record{}) || ok {
			t.Errorf("Unpack(%v) = %v, %v", b, r, ok)
		}
	}
}

// P10.1, P1: eight bytes, no fewer, no more; right ones, noughts, none at all.
func TestUnpackLengths(t *testing.T) {
	long := make([]byte, 0, 1000)
	for range 125 {
		long = append(long, 0, 1, 4, 0, 1, 0, 5, 0)
	}
	for n := range len(long) + 1 {
		if r, ok := inst.Unpack(long[:n]); ok != (n == 8) || !ok && r != (inst.Record{}) {
			t.Errorf("Unpack of %d bytes = %v, %v", n, r, ok)
		}
		if r, ok := inst.Unpack(make([]byte, n)); ok != (n == 8) || r != (inst.Record{}) {
			t.Errorf("Unpack of %d noughts = %v, %v", n, r, ok)
		}
	}
	if r, ok := inst.Unpack(nil); ok || r != (inst.Record{}) {
		t.Errorf("Unpack(nil) = %v, %v", r, ok)
	}
}

// P10.1: each byte at each place, in records, in noughts, and in bytes of chance, against the chapter's words; what is a record has those bytes again.
func TestUnpackBytes(t *testing.T) {
	r := rand.New(rand.NewSource(101))
	bases := [][8]byte{{}, {0, 1, 4, 0, 1, 0, 5, 0}, {3, 1, 0, 1, 0, 0, 0, 1}, {0, 1, 0, 0, 0, 0, 4, 0}, {0, 1, 1, 0, 0, 0, 0, 0}}
	for range 300 {
		var b [8]byte
		r.Read(b[:])
		b[1] = byte(r.Intn(3))
		if r.Intn(2) == 0 {
			b[7], b[6] = 0, byte(r.Intn(6))
		}
		bases = append(bases, b)
	}
	for _, base := range bases {
		for at := range 8 {
			for v := range 256 {
				b := base
				b[at] = byte(v)
				want, is := wantRecord(b)
				got, ok := inst.Unpack(b[:])
				if got != want || ok != is {
					t.Fatalf("Unpack(%v) = %v, %v, wanted %v, %v", b, got, ok, want, is)
				}
				if ok && inst.Pack(got) != b {
					t.Fatalf("Pack(Unpack(%v)) = %v", b, inst.Pack(got))
				}
			}
		}
	}
}

// P10.1: all values of each number.
func TestPackNumbers(t *testing.T) {
	for v := range 65536 {
		n := uint16(v)
		for _, r := range []inst.Record{rec(byte(v), n, 1, 5), rec(byte(v), 4, n, 5), rec(byte(v), 4, 1, n), rec(0, n, n, n)} {
			b := inst.Pack(r)
			if b != bytesOf(r) {
				t.Fatalf("Pack(%v) = %v", r, b)
			}
			want, is := wantRecord(b)
			if got, ok := inst.Unpack(b[:]); got != want || ok != is {
				t.Fatalf("Unpack(%v) = %v, %v", b, got, ok)
			}
		}
	}
}

// P2, R6: the bytes that are handed in stay, and those behind them.
func TestUnpackKeeps(t *testing.T) {
	b := []byte{1, 1, 4, 0, 1, 0, 5, 0, 9, 9}
	was := slices.Clone(b)
	r, _ := inst.Unpack(b[:8])
	if !slices.Equal(b, was) {
		t.Errorf("it changed what it was given: %v", b)
	}
	clear(b)
	if r != rec(1, 4, 1, 5) {
		t.Errorf("it kept what it was given: %v", r)
	}
}
