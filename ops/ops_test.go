package ops_test

import (
	"slices"
	"strings"
	"testing"

	"garrison/api"
	"garrison/ops"
)

// order: the ops' names, from 1 on, as the chapter lists them.
func order() []string {
	return strings.Fields("mov ldi lds lui add sub mul div rem divs and or xor shl shr sar rot slt slu equ addi lb lbs lh lhs lw sb sh sw jmp jz jnz call ret jr ext clz pop sys")
}

// span: the names from one to another one of that order.
func span(from, to string) []string {
	l := order()
	return l[slices.Index(l, from) : slices.Index(l, to)+1]
}

// wantForm: the chapter's table of forms; false: there is no such op.
func wantForm(o int) (ops.Form, bool) {
	if o < 1 || o > len(order()) {
		return 0, false
	}
	name := order()[o-1]
	for f, of := range [][]string{
		{"ret"},
		{"jr"},
		{"mov", "clz", "pop"},
		span("add", "equ"),
		append([]string{"addi"}, span("lb", "sw")...),
		{"ldi", "lds", "lui", "jz", "jnz"},
		{"jmp", "call"},
		{"ext"},
		{"sys"},
	} {
		if slices.Contains(of, name) {
			return ops.Form(f), true
		}
	}
	panic("the chapter has no form of " + name)
}

// wantCheck: the chapter's words for Check, byte by byte: r is a register, 0 a nought, n any number, w 8 or 16.
func wantCheck(i api.Instr) api.Errno {
	f, ok := wantForm(int(i.Op))
	if !ok {
		return api.ErrCode
	}
	kinds := []string{"000", "r00", "rr0", "rrr", "rrn", "rnn", "0nn", "rrw", "0n0"}[f]
	for at, b := range []uint8{i.X, i.Y, i.Z} {
		right := true
		switch kinds[at] {
		case '0':
			right = b == 0
		case 'r':
			right = b <= 15
		case 'w':
			right = b == 8 || b == 16
		}
		if !right {
			return api.ErrForm
		}
	}
	return api.OK
}

func holdCheck(t *testing.T, i api.Instr) {
	t.Helper()
	if e, want := ops.Check(i), wantCheck(i); e != want {
		t.Errorf("Check(%v) = %d, wanted %d", i, e, want)
	}
}

// The chapter's words: the ops' numbers.
func TestNumbers(t *testing.T) {
	consts := []api.Op{
		ops.Bad, ops.Mov, ops.Ldi, ops.Lds, ops.Lui, ops.Add, ops.Sub, ops.Mul, ops.Div, ops.Rem, ops.Divs, ops.And, ops.Or, ops.Xor, ops.Shl, ops.Shr, ops.Sar, ops.Rot, ops.Slt, ops.Slu, ops.Equ,
		ops.Addi, ops.Lb, ops.Lbs, ops.Lh, ops.Lhs, ops.Lw, ops.Sb, ops.Sh, ops.Sw, ops.Jmp, ops.Jz, ops.Jnz, ops.Call, ops.Ret, ops.Jr, ops.Ext, ops.Clz, ops.Pop, ops.Sys, ops.Many,
	}
	if len(consts) != len(order())+2 {
		t.Fatalf("%d constants, %d names", len(consts), len(order()))
	}
	for n, o := range consts {
		if o != api.Op(n) {
			t.Errorf("constant %d is %d", n, o)
		}
	}
	forms := []ops.Form{ops.FNone, ops.FX, ops.FXY, ops.FXYZ, ops.FXYN, ops.FXN, ops.FN, ops.FXYW, ops.FCall}
	for n, f := range forms {
		if f != ops.Form(n) {
			t.Errorf("form %d is %d", n, f)
		}
	}
	if ops.Many != 40 || ops.Sys != 39 || ops.MaxCode != 2048 {
		t.Errorf("Many, Sys, MaxCode = %d, %d, %d", ops.Many, ops.Sys, ops.MaxCode)
	}
}

// P16.1: each op's form.
func TestOf(t *testing.T) {
	for o, want := range map[api.Op]ops.Form{
		ops.Ret: ops.FNone, ops.Jr: ops.FX, ops.Mov: ops.FXY, ops.Clz: ops.FXY, ops.Pop: ops.FXY, ops.Add: ops.FXYZ, ops.Divs: ops.FXYZ, ops.And: ops.FXYZ, ops.Rot: ops.FXYZ, ops.Equ: ops.FXYZ,
		ops.Addi: ops.FXYN, ops.Lb: ops.FXYN, ops.Lhs: ops.FXYN, ops.Sw: ops.FXYN, ops.Ldi: ops.FXN, ops.Lds: ops.FXN, ops.Lui: ops.FXN, ops.Jz: ops.FXN, ops.Jnz: ops.FXN,
		ops.Jmp: ops.FN, ops.Call: ops.FN, ops.Ext: ops.FXYW, ops.Sys: ops.FCall,
	} {
		if f, ok := ops.Of(o); f != want || !ok {
			t.Errorf("Of(%d) = %d, %v, wanted %d", o, f, ok, want)
		}
	}
	for o := range 256 {
		want, wantOk := wantForm(o)
		if f, ok := ops.Of(api.Op(o)); f != want || ok != wantOk {
			t.Errorf("Of(%d) = %d, %v, wanted %d, %v", o, f, ok, want, wantOk)
		}
	}
}

// P16.1, P2 (R3): what is no op: false, and FNone.
func TestOfNone(t *testing.T) {
	for _, o := range []api.Op{ops.Bad, ops.Many, ops.Many + 1, 127, 128, 255} {
		if f, ok := ops.Of(o); f != ops.FNone || ok {
			t.Errorf("Of(%d) = %d, %v", o, f, ok)
		}
	}
}

// P16.1
func TestCheck(t *testing.T) {
	for i, want := range map[api.Instr]api.Errno{
		{Op: ops.Ret}: api.OK, {Op: ops.Ret, X: 1}: api.ErrForm, {Op: ops.Ret, Y: 1}: api.ErrForm, {Op: ops.Ret, Z: 1}: api.ErrForm,
		{Op: ops.Jr}: api.OK, {Op: ops.Jr, X: 15}: api.OK, {Op: ops.Jr, X: 16}: api.ErrForm, {Op: ops.Jr, X: 3, Y: 1}: api.ErrForm, {Op: ops.Jr, X: 3, Z: 1}: api.ErrForm,
		{Op: ops.Mov, X: 15, Y: 15}: api.OK, {Op: ops.Mov, X: 16}: api.ErrForm, {Op: ops.Mov, Y: 16}: api.ErrForm, {Op: ops.Mov, X: 1, Y: 2, Z: 1}: api.ErrForm,
		{Op: ops.Clz, X: 1, Y: 2}: api.OK, {Op: ops.Clz, X: 1, Y: 2, Z: 3}: api.ErrForm, {Op: ops.Pop, X: 1, Y: 2}: api.OK, {Op: ops.Pop, X: 1, Y: 255}: api.ErrForm,
		{Op: ops.Add, X: 15, Y: 15, Z: 15}: api.OK, {Op: ops.Add, X: 16}: api.ErrForm, {Op: ops.Add, Y: 16}: api.ErrForm, {Op: ops.Equ, Z: 16}: api.ErrForm, {Op: ops.Equ, X: 15, Z: 15}: api.OK,
		{Op: ops.Addi, X: 1, Y: 2, Z: 255}: api.OK, {Op: ops.Addi, X: 16, Z: 1}: api.ErrForm, {Op: ops.Addi, Y: 16, Z: 1}: api.ErrForm, {Op: ops.Sw, X: 15, Y: 15, Z: 128}: api.OK, {Op: ops.Lw, Y: 128}: api.ErrForm,
		{Op: ops.Ldi, X: 15, Y: 255, Z: 255}: api.OK, {Op: ops.Ldi, X: 16}: api.ErrForm, {Op: ops.Jnz, X: 1, Y: 254, Z: 255}: api.OK, {Op: ops.Jz, X: 255}: api.ErrForm,
		{Op: ops.Jmp, Y: 255, Z: 255}: api.OK, {Op: ops.Jmp, X: 1}: api.ErrForm, {Op: ops.Call, Z: 128}: api.OK, {Op: ops.Call, X: 15}: api.ErrForm,
		{Op: ops.Ext, X: 15, Y: 15, Z: 8}: api.OK, {Op: ops.Ext, Z: 16}: api.OK, {Op: ops.Ext}: api.ErrForm, {Op: ops.Ext, Z: 7}: api.ErrForm, {Op: ops.Ext, Z: 9}: api.ErrForm, {Op: ops.Ext, Z: 12}: api.ErrForm, {Op: ops.Ext, Z: 24}: api.ErrForm, {Op: ops.Ext, Z: 32}: api.ErrForm, {Op: ops.Ext, X: 16, Z: 8}: api.ErrForm, {Op: ops.Ext, Y: 16, Z: 16}: api.ErrForm,
		{Op: ops.Sys}: api.OK, {Op: ops.Sys, Y: 255}: api.OK, {Op: ops.Sys, X: 1}: api.ErrForm, {Op: ops.Sys, Y: 1, Z: 1}: api.ErrForm,
		{}: api.ErrCode, {Op: ops.Many}: api.ErrCode, {Op: 255}: api.ErrCode, {X: 16, Y: 16, Z: 16}: api.ErrCode, {Op: ops.Many, X: 255, Y: 255, Z: 255}: api.ErrCode,
	} {
		if e := ops.Check(i); e != want {
			t.Errorf("Check(%v) = %d, wanted %d", i, e, want)
		}
	}
}

// P1, P16.1: each op there may be, with all bytes that matter together, and with each byte at each place.
func TestCheckAll(t *testing.T) {
	edges := []uint8{0, 1, 7, 8, 9, 15, 16, 17, 24, 32, 127, 128, 255}
	for o := range 256 {
		for _, x := range edges {
			for _, y := range edges {
				for _, z := range edges {
					holdCheck(t, api.Instr{Op: api.Op(o), X: x, Y: y, Z: z})
				}
			}
		}
		for b := range 256 {
			for _, z := range []uint8{0, 8, 16} {
				holdCheck(t, api.Instr{Op: api.Op(o), X: uint8(b), Z: z})
				holdCheck(t, api.Instr{Op: api.Op(o), Y: uint8(b), Z: z})
			}
			holdCheck(t, api.Instr{Op: api.Op(o), Z: uint8(b)})
		}
	}
}
