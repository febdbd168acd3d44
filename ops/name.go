package ops

import (
	"garrison/api"
)

// names: of the instructions, by their numbers; Bad has none.
var names = [Many]string{
	Mov: "mov", Ldi: "ldi", Lds: "lds", Lui: "lui",
	Add: "add", Sub: "sub", Mul: "mul", Div: "div", Rem: "rem", Divs: "divs",
	And: "and", Or: "or", Xor: "xor", Shl: "shl", Shr: "shr", Sar: "sar", Rot: "rot",
	Slt: "slt", Slu: "slu", Equ: "equ", Addi: "addi",
	Lb: "lb", Lbs: "lbs", Lh: "lh", Lhs: "lhs", Lw: "lw", Sb: "sb", Sh: "sh", Sw: "sw",
	Jmp: "jmp", Jz: "jz", Jnz: "jnz", Call: "call", Ret: "ret", Jr: "jr",
	Ext: "ext", Clz: "clz", Pop: "pop", Sys: "sys",
}

// Name: an instruction's name; none: there is none.
func Name(o api.Op) string {
	if o >= Many {
		return ""
	}
	return names[o]
}

// Named: which instruction has a name; false: none has.
func Named(s string) (api.Op, bool) {
	for o := Mov; o < Many; o++ { // not from Bad on: no name at all is none
		if names[o] == s {
			return o, true
		}
	}
	return Bad, false
}
