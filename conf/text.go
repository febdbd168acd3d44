package conf

import (
	"strconv"
	"strings"

	"garrison/api"
	"garrison/label"
)

// keys: the words ahead of a label's numbers, in their order.
var keys = [...]string{"blocks", "nodes", "frames", "procs", "opens"}

// The words of a label's line: label, name, label; a key and a number each; clear, name.
const (
	keysAt  = 3
	clearAt = 13
	inLabel = 15
)

// text is what a configuration's lines say: names that they mention are found when all of them are read.
type text struct {
	regs   []api.Reg
	clears []string
	trusts []trustLine
}

type trustLine struct {
	line         int
	name, number string
}

// Parse: a configuration's text; the line at which it isn't right (0: none of them).
func Parse(s string) (*Conf, int, api.Errno) {
	if len(s) > api.MaxText {
		return nil, 0, api.ErrLong
	}
	var t text
	for i, l := range strings.Split(s, "\n") {
		said, _, _ := strings.Cut(l, "#")
		if e := t.read(i+1, strings.FieldsFunc(said, isBlank)); e != api.OK {
			return nil, i + 1, e
		}
	}
	names := t.names()
	if e := t.findClears(names); e != api.OK {
		return nil, 0, e
	}
	marks, line, e := t.findMarks(names)
	if e != api.OK {
		return nil, line, e
	}
	c, e := New(t.regs, marks)
	return c, 0, e
}

// isBlank: of bytes alone, where the library would take more for blanks.
func isBlank(r rune) bool { return r == ' ' || r >= 9 && r <= 13 }

// read takes one line's words.
func (t *text) read(line int, words []string) api.Errno {
	switch {
	case len(words) == 0:
		return api.OK
	case words[0] == "label":
		return t.readLabel(words)
	case words[0] == "trust" && len(words) == 3:
		t.trusts = append(t.trusts, trustLine{line, words[1], words[2]})
		return api.OK
	}
	return api.ErrForm
}

func (t *text) readLabel(words []string) api.Errno {
	if len(words) != inLabel || words[clearAt] != "clear" {
		return api.ErrForm
	}
	l, e := label.Parse(words[2])
	if e != api.OK {
		return e
	}
	var n [5]int
	for i := range n {
		m, ok := number(words[keysAt+2*i+1])
		if words[keysAt+2*i] != keys[i] || !ok {
			return api.ErrForm
		}
		n[i] = m
	}
	t.regs = append(t.regs, api.Reg{Name: words[1], Label: l, Blocks: n[0], Nodes: n[1], Frames: n[2], Procs: n[3], Opens: n[4]})
	t.clears = append(t.clears, words[clearAt+1])
	return api.OK
}

// number: one to four digits, without noughts ahead. (strconv would take signs and longer texts too.)
func number(s string) (int, bool) {
	if len(s) < 1 || len(s) > 4 || len(s) > 1 && s[0] == '0' {
		return 0, false
	}
	n := 0
	for i := range len(s) {
		if s[i] < '0' || s[i] > '9' {
			return 0, false
		}
		n = n*10 + int(s[i]-'0')
	}
	return n, true
}

// names: which label a name means: of several the first.
func (t *text) names() map[string]int {
	names := map[string]int{}
	for i, r := range t.regs {
		if _, ok := names[r.Name]; !ok {
			names[r.Name] = i
		}
	}
	return names
}

// findClears gives each label the place of the one that its clear names.
func (t *text) findClears(names map[string]int) api.Errno {
	for i, name := range t.clears {
		at, ok := names[name]
		if !ok {
			return api.ErrNone
		}
		t.regs[i].Clear = at
	}
	return api.OK
}

// findMarks: the marks of the lines of trust; the line that isn't right.
func (t *text) findMarks(names map[string]int) ([]api.Mark, int, api.Errno) {
	var marks []api.Mark
	for _, x := range t.trusts {
		at, ok := names[x.name]
		if !ok {
			return nil, x.line, api.ErrNone
		}
		n, ok := number(x.number)
		if !ok {
			return nil, x.line, api.ErrForm
		}
		// A place that a byte doesn't hold is of more labels than New takes.
		marks = append(marks, api.Mark{Lab: uint8(at), Num: uint16(n)})
	}
	return marks, 0, api.OK
}

// Text: a configuration as a text.
func (c *Conf) Text() string {
	if c == nil {
		return ""
	}
	var b strings.Builder
	for _, r := range c.regs {
		b.WriteString("label " + r.Name + " " + label.Text(r.Label))
		for i, n := range [...]int{r.Blocks, r.Nodes, r.Frames, r.Procs, r.Opens} {
			b.WriteString(" " + keys[i] + " " + strconv.Itoa(n))
		}
		b.WriteString(" clear " + c.regs[r.Clear].Name + "\n")
	}
	for _, m := range c.marks {
		b.WriteString("trust " + c.regs[m.Lab].Name + " " + strconv.Itoa(int(m.Num)) + "\n")
	}
	return b.String()
}
