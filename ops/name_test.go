package ops_test

import (
	"strings"
	"testing"

	"garrison/api"
	"garrison/ops"
)

// P16.1: the names, in the chapter's order, and back.
func TestNames(t *testing.T) {
	for n, name := range order() {
		o := api.Op(n + 1)
		if s := ops.Name(o); s != name {
			t.Errorf("Name(%d) = %q, wanted %q", o, s, name)
		}
		if got, ok := ops.Named(name); got != o || !ok {
			t.Errorf("Named(%q) = %d, %v, wanted %d", name, got, ok, o)
		}
	}
	for o, want := range map[api.Op]string{ops.Mov: "mov", ops.Divs: "divs", ops.Xor: "xor", ops.Addi: "addi", ops.Lhs: "lhs", ops.Jnz: "jnz", ops.Call: "call", ops.Ext: "ext", ops.Sys: "sys"} {
		if s := ops.Name(o); s != want {
			t.Errorf("Name(%d) = %q, wanted %q", o, s, want)
		}
	}
}

// P1, P16.1: what is no op has no name.
func TestNameNone(t *testing.T) {
	if s := ops.Name(ops.Bad); s != "" {
		t.Errorf("Name(Bad) = %q", s)
	}
	for o := int(ops.Many); o < 256; o++ {
		if s := ops.Name(api.Op(o)); s != "" {
			t.Errorf("Name(%d) = %q", o, s)
		}
	}
}

// wantNamed: the chapter's words for Named.
func wantNamed(s string) (api.Op, bool) {
	for n, name := range order() {
		if name == s {
			return api.Op(n + 1), true
		}
	}
	return 0, false
}

func holdNamed(t *testing.T, s string) {
	t.Helper()
	o, ok := ops.Named(s)
	if want, wantOk := wantNamed(s); o != want || ok != wantOk {
		t.Errorf("Named(%.40q) = %d, %v, wanted %d, %v", s, o, ok, want, wantOk)
	}
}

// P16.1, P2 (R3): of what is no name: false, and 0; nothing at all is no name, though Bad has none.
func TestNamedNone(t *testing.T) {
	for _, s := range []string{"", " ", "bad", "many", "none", "nop", "extra", "byte", "word", "text", "Mov", "MOV", "mov ", " mov", "mo", "movv", "ad", "add ", "addi1", "div s", "jmp\n", "jmp\x00", "\x00", "ſys", "sys\xff", "r1", "1", strings.Repeat("mov", 1<<20)} {
		if o, ok := ops.Named(s); o != 0 || ok {
			t.Errorf("Named(%.40q) = %d, %v", s, o, ok)
		}
	}
}

// P16.1: each name with a byte changed, left out, or one more.
func TestNamedNear(t *testing.T) {
	for _, name := range order() {
		for at := range len(name) {
			holdNamed(t, name[:at])
			holdNamed(t, name[at:])
			holdNamed(t, name[:at]+name[at+1:])
			for v := range 256 {
				b := []byte(name)
				b[at] = byte(v)
				holdNamed(t, string(b))
				holdNamed(t, name[:at]+string([]byte{byte(v)})+name[at:])
				holdNamed(t, name+string([]byte{byte(v)}))
			}
		}
	}
}

// P1, P16.1: any text at all.
func FuzzNamed(f *testing.F) {
	for _, s := range []string{"", "mov", "sys", "Mov", "add i", "\xff"} {
		f.Add(s)
	}
	f.Fuzz(holdNamed)
}
