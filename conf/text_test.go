package conf_test

import (
	"math/rand"
	"regexp"
	"slices"
	"strconv"
	"strings"
	"testing"

	"garrison/api"
	"garrison/conf"
	"garrison/label"
)

const (
	low   = "label low 0 blocks 40 nodes 16 frames 8 procs 3 opens 4 clear low"
	top   = "label top 3:0,1 blocks 512 nodes 128 frames 256 procs 16 opens 32 clear top"
	named = "label NAME 1 blocks 40 nodes 16 frames 8 procs 3 opens 4 clear low"
)

var (
	numberForm = regexp.MustCompile(`^(0|[1-9][0-9]{0,3})$`)
	blanks     = regexp.MustCompile(`[ \t-\r]+`)
)

// parsed: the chapter's words for Parse, as regs and marks that New takes.
func parsed(s string) ([]api.Reg, []api.Mark, int, api.Errno) {
	if len(s) > 65536 {
		return nil, nil, 0, api.ErrLong
	}
	var regs []api.Reg
	var marks []api.Mark
	var clears []string
	trusts := map[int][]string{}
	lines := strings.Split(s, "\n")
	for i, l := range lines {
		l = regexp.MustCompile(`(?s)#.*`).ReplaceAllString(l, "")
		words := slices.DeleteFunc(blanks.Split(l, -1), func(w string) bool { return w == "" })
		if len(words) == 0 {
			continue
		}
		if len(words) == 3 && words[0] == "trust" {
			trusts[i] = words
			continue
		}
		if len(words) != 15 || words[0] != "label" || words[13] != "clear" {
			return nil, nil, i + 1, api.ErrForm
		}
		at, e := label.Parse(words[2])
		if e != api.OK {
			return nil, nil, i + 1, e
		}
		var n [5]int
		for k, key := range strings.Fields("blocks nodes frames procs opens") {
			if words[3+2*k] != key || !numberForm.MatchString(words[4+2*k]) {
				return nil, nil, i + 1, api.ErrForm
			}
			n[k], _ = strconv.Atoi(words[4+2*k])
		}
		regs = append(regs, api.Reg{Name: words[1], Label: at, Blocks: n[0], Nodes: n[1], Frames: n[2], Procs: n[3], Opens: n[4]})
		clears = append(clears, words[14])
	}
	place := func(name string) int {
		return slices.IndexFunc(regs, func(r api.Reg) bool { return r.Name == name })
	}
	for i, name := range clears {
		if regs[i].Clear = place(name); regs[i].Clear < 0 {
			return nil, nil, 0, api.ErrNone
		}
	}
	for i := range lines {
		if words := trusts[i]; words != nil {
			if place(words[1]) < 0 {
				return nil, nil, i + 1, api.ErrNone
			}
			if !numberForm.MatchString(words[2]) {
				return nil, nil, i + 1, api.ErrForm
			}
			n, _ := strconv.Atoi(words[2])
			marks = append(marks, api.Mark{Lab: uint8(place(words[1])), Num: uint16(n)})
		}
	}
	return regs, marks, 0, api.OK
}

func holdParse(t *testing.T, s string) {
	t.Helper()
	c, line, e := conf.Parse(s)
	regs, marks, wantLine, want := parsed(s)
	var wanted *conf.Conf
	if want == api.OK {
		wanted, want = conf.New(regs, marks)
	}
	if line != wantLine || e != want || (c == nil) != (wanted == nil) || c.Text() != wanted.Text() || c.Sum() != wanted.Sum() {
		t.Fatalf("Parse(%.200q) = %q, %d, %d; wanted %q, %d, %d", s, c.Text(), line, e, wanted.Text(), wantLine, want)
	}
}

// P2.3
func TestParse(t *testing.T) {
	for _, x := range []struct {
		s     string
		regs  []api.Reg
		marks []api.Mark
	}{
		{low, []api.Reg{reg("low", 0, 0, 0)}, nil},
		{low + "\n", []api.Reg{reg("low", 0, 0, 0)}, nil},
		{"\n\n# nothing\n \t\v\f\r\n" + low + " # label x\n\n", []api.Reg{reg("low", 0, 0, 0)}, nil},
		{low + "#\r\n##\r\n", []api.Reg{reg("low", 0, 0, 0)}, nil},
		{"\t" + strings.ReplaceAll(low, " ", "\v \f\t\r") + " \r", []api.Reg{reg("low", 0, 0, 0)}, nil},
		{"trust low 5\n" + low + "\ntrust low 16\ntrust\tlow  1#5", []api.Reg{reg("low", 0, 0, 0)}, []api.Mark{{Num: 5}, {Num: 16}, {Num: 1}}},
		{strings.Replace(low, "clear low", "clear high", 1) + "\n" + strings.NewReplacer("low 0", "high 2:15", "clear low", "clear high").Replace(low), []api.Reg{reg("low", 0, 0, 1), reg("high", 2, 0x8000, 1)}, nil},
	} {
		c, line, e := conf.Parse(x.s)
		if line != 0 || e != api.OK || c.Text() != made(t, x.regs, x.marks...).Text() {
			t.Errorf("Parse(%q) = %q, %d, %d", x.s, c.Text(), line, e)
		}
	}
	// A clear, and a trust, may name what stands behind them.
	c, line, e := conf.Parse("trust top 128\n" + strings.Replace(low, "clear low", "clear top", 1) + "\n" + top)
	if r, _ := c.Reg(0); line != 0 || e != api.OK || r.Clear != 1 || !c.Trusted(api.Mark{Lab: 1, Num: 128}) || !c.Leq(0, 1) {
		t.Errorf("Parse = %q, %d, %d", c.Text(), line, e)
	}
}

// P2.3: each error, beside its line, and which of several comes first.
func TestParseErrors(t *testing.T) {
	swap := func(from, to string) string { return strings.Replace(low, from, to, 1) }
	big := low + "\n#" + strings.Repeat("x", 65536-len(low)-2)
	for _, x := range []struct {
		s    string
		line int
		want api.Errno
	}{
		{big + "x", 0, api.ErrLong},
		{"x\n" + big, 0, api.ErrLong},
		{strings.Repeat("\n", 65537), 0, api.ErrLong},
		{"", 0, api.ErrMany},
		{strings.Repeat("\n", 65536), 0, api.ErrMany},
		{" # " + low, 0, api.ErrMany},
		{"x", 1, api.ErrForm},
		{"\n\nx\n", 3, api.ErrForm},
		{low + "\n\n" + "labels", 3, api.ErrForm},
		{low + "\nLabel" + low[5:], 2, api.ErrForm},
		{low + "\ntrust", 2, api.ErrForm},
		{low + "\ntrust low", 2, api.ErrForm},
		{low + "\ntrust low 5 6", 2, api.ErrForm},
		{low + "\ntrust low #5", 2, api.ErrForm},
		{low + "\ntrusts low 5", 2, api.ErrForm},
		{low + "\nlabel low 5", 2, api.ErrForm},
		{"label", 1, api.ErrForm},
		{low + " x", 1, api.ErrForm},
		{swap(" clear low", ""), 1, api.ErrForm},
		{swap("clear low", "clear"), 1, api.ErrForm},
		{swap(" low", ""), 1, api.ErrForm},
		{swap("clear", "Clear"), 1, api.ErrForm},
		{swap("clear", "clears"), 1, api.ErrForm},
		{swap("low 0", "low 16"), 1, api.ErrRange},
		{swap("low 0", "low 0:16"), 1, api.ErrRange},
		{swap("low 0", "low 00"), 1, api.ErrForm},
		{swap("low 0", "low 3:2,1"), 1, api.ErrForm},
		{strings.Replace(swap("low 0", "low 16"), "clear", "x", 1), 1, api.ErrForm}, // ahead of the label
		{strings.Replace(swap("low 0", "low 16"), "blocks", "x", 1), 1, api.ErrRange},
		{strings.Replace(swap("low 0", "low 16"), "40", "x", 1), 1, api.ErrRange},
		{swap("low 0", "low 16") + " x", 1, api.ErrForm},
		{"\n" + swap("low 0", "low 16") + "\nx", 2, api.ErrRange},
		{"x\n" + swap("low 0", "low 16"), 1, api.ErrForm},
		{swap("blocks", "nodes"), 1, api.ErrForm},
		{swap("nodes", "Nodes"), 1, api.ErrForm},
		{swap("frames", "frame"), 1, api.ErrForm},
		{swap("procs", "procss"), 1, api.ErrForm},
		{swap("opens", "clear"), 1, api.ErrForm},
		{swap("blocks 40 nodes 16", "nodes 16 blocks 40"), 1, api.ErrForm},
		{swap("40", "040"), 1, api.ErrForm},
		{swap("40", "+40"), 1, api.ErrForm},
		{swap("40", "-40"), 1, api.ErrForm},
		{swap("40", "40x"), 1, api.ErrForm},
		{swap("40", "x"), 1, api.ErrForm},
		{swap("40", "00"), 1, api.ErrForm},
		{swap("40", "4_0"), 1, api.ErrForm},
		{swap("40", "4:"), 1, api.ErrForm},
		{swap("40", "4/"), 1, api.ErrForm},
		{swap("40", "10000"), 1, api.ErrForm},
		{swap("40", strings.Repeat("9", 1000)), 1, api.ErrForm},
		{swap("16", "x"), 1, api.ErrForm},
		{swap("8", "x"), 1, api.ErrForm},
		{swap("3", "x"), 1, api.ErrForm},
		{swap("4 clear", "x clear"), 1, api.ErrForm},
		{swap("4 clear", "04 clear"), 1, api.ErrForm},
		{strings.ReplaceAll(low, " ", "\u00a0"), 1, api.ErrForm}, // no blank
		{strings.ReplaceAll(low, " ", "\u0085"), 1, api.ErrForm},
		{strings.ReplaceAll(low, " ", "\u2003"), 1, api.ErrForm},
		{strings.ReplaceAll(low, " ", "\x1c"), 1, api.ErrForm},
		{strings.ReplaceAll(low, " ", "\x0e"), 1, api.ErrForm},
		{strings.ReplaceAll(low, " ", "\x08"), 1, api.ErrForm},
		{strings.ReplaceAll(low, " ", "\x00"), 1, api.ErrForm},
		{swap("clear low", "clear lo"), 0, api.ErrNone},
		{swap("clear low", "clear lo") + "\nx", 2, api.ErrForm},
		{swap("clear low", "clear lo") + "\ntrust x 5", 0, api.ErrNone},
		{swap("clear low", "clear lo") + "\ntrust low x", 0, api.ErrNone},
		{"\ntrust low 5", 2, api.ErrNone},
		{low + "\ntrust lo 5", 2, api.ErrNone},
		{low + "\ntrust lo x", 2, api.ErrNone},
		{low + "\ntrust low x", 2, api.ErrForm},
		{low + "\ntrust low x\ntrust lo 5", 2, api.ErrForm},
		{low + "\ntrust low 5\ntrust lo 5\ntrust low x", 3, api.ErrNone},
		{low + "\ntrust low 05", 2, api.ErrForm},
		{low + "\ntrust low 10000", 2, api.ErrForm},
		{low + "\ntrust low -5", 2, api.ErrForm},
		{low + "\ntrust low x\nx", 3, api.ErrForm},
		{swap("low 0", "low 1") + "\ntrust low x", 2, api.ErrForm}, // ahead of New
		{low + "\ntrust low 0", 0, api.ErrRange},
		{low + "\ntrust low 17", 0, api.ErrRange},
		{low + "\ntrust low 9999", 0, api.ErrRange},
		{low + "\ntrust low 5\ntrust low 5", 0, api.ErrTwice},
		{swap("low 0", "low 1"), 0, api.ErrConf},
		{swap("40", "0"), 0, api.ErrRange},
		{swap("40", "513"), 0, api.ErrRange},
		{swap("40", "9999"), 0, api.ErrRange},
		{swap("16", "15"), 0, api.ErrRange},
		{swap("8", "257"), 0, api.ErrRange},
		{swap("3", "17"), 0, api.ErrRange},
		{swap("4 clear", "33 clear"), 0, api.ErrRange},
		{strings.ReplaceAll(low, "low", "Low"), 0, api.ErrWord},
		{strings.ReplaceAll(low, "low", "abcdefghi"), 0, api.ErrWord},
		{strings.ReplaceAll(low, "low", "\xff"), 0, api.ErrWord},
		{low + "\n" + low, 0, api.ErrTwice},
		{low + "\n" + strings.Replace(named, "NAME", "low", 1), 0, api.ErrTwice},
		{low + "\n" + strings.Replace(named, "NAME", "high", 1), 0, api.ErrPerm},
		{strings.Repeat(low+"\n", 300) + "trust low 5", 0, api.ErrMany},
	} {
		holdParse(t, x.s)
		if c, line, e := conf.Parse(x.s); c != nil || line != x.line || e != x.want {
			t.Errorf("Parse(%.99q) = %q, %d, %d; wanted %d, %d", x.s, c.Text(), line, e, x.line, x.want)
		}
	}
	if _, line, e := conf.Parse(big); line != 0 || e != api.OK {
		t.Errorf("Parse: %d bytes: %d, %d", len(big), line, e)
	}
}

// P2.3: of several labels of one name the first is meant: of a trust and a clear, of more labels than a byte counts too.
func TestParseMany(t *testing.T) {
	var b strings.Builder
	for i := range 400 {
		b.WriteString(strings.Replace(named, "NAME", "n"+strconv.Itoa(i), 1) + "\n")
	}
	holdParse(t, low+"\n"+b.String()+"trust n399 5\n")
	if _, line, e := conf.Parse(low + "\n" + b.String() + "trust n399 5\n"); line != 0 || e != api.ErrMany {
		t.Errorf("Parse: %d, %d", line, e)
	}
	// The second low would be right as its own clear; the first one isn't above it.
	holdParse(t, low+"\n"+strings.Replace(low, "low 0", "low 16", 1))
}

// P2.3: Text.
func TestText(t *testing.T) {
	want := `label low 0 blocks 40 nodes 16 frames 8 procs 3 opens 4 clear top
label left 1:0 blocks 512 nodes 128 frames 256 procs 16 opens 32 clear left
label right 1:1 blocks 4 nodes 4 frames 1 procs 1 opens 1 clear top
label top 3:0,1 blocks 40 nodes 16 frames 8 procs 3 opens 4 clear top
trust right 4
trust low 16
trust left 128
trust low 1
`
	marks := []api.Mark{{Lab: 2, Num: 4}, {Num: 16}, {Lab: 1, Num: 128}, {Num: 1}}
	c := made(t, lattice(), marks...)
	if got := c.Text(); got != want {
		t.Errorf("Text() = %q", got)
	}
	if made(t, lattice()).Text() != want[:strings.Index(want, "trust")] {
		t.Error("Text: without marks")
	}
	for _, c := range []*conf.Conf{c, made(t, lattice()), made(t, many(64), api.Mark{Lab: 63, Num: 16}, marks[1])} {
		d, line, e := conf.Parse(c.Text())
		if line != 0 || e != api.OK || d.Text() != c.Text() || d.Sum() != c.Sum() || d.Len() != c.Len() {
			t.Fatalf("Parse(%q) = %d, %d", c.Text(), line, e)
		}
		for i := range c.Len() {
			a, _ := c.Reg(i)
			if b, _ := d.Reg(i); a != b {
				t.Errorf("Reg(%d) = %v, was %v", i, b, a)
			}
		}
		for _, m := range append(marks, api.Mark{Lab: 63, Num: 16}) {
			if d.Trusted(m) != c.Trusted(m) {
				t.Errorf("Trusted(%v)", m)
			}
		}
	}
}

// P2.3, P1: texts of lines and words put together at random.
func TestParseRandom(t *testing.T) {
	r := rand.New(rand.NewSource(3))
	words := strings.Fields("label trust low top clear blocks nodes 0 1 5 16 40 05 9999 10000 0:1 16 x # 3:0,1")
	lines := []string{low, top, named, "trust low 5", "trust top 4", "trust x 1", "trust low x", "", "#", "trust low 5 #"}
	seps := []string{" ", "\t", "\n", "\r\n", "#", "\v", "\x0e", ""}
	for range 20000 {
		var b strings.Builder
		if r.Intn(4) > 0 {
			b.WriteString(low + "\n")
		}
		for range r.Intn(5) {
			ws := strings.Split(lines[r.Intn(len(lines))], " ")
			if r.Intn(3) == 0 {
				ws[r.Intn(len(ws))] = words[r.Intn(len(words))]
			}
			for _, w := range ws {
				b.WriteString(w)
				if r.Intn(30) == 0 {
					b.WriteString(seps[r.Intn(len(seps))])
				}
				b.WriteString(" ")
			}
			b.WriteString("\n")
		}
		holdParse(t, b.String())
	}
}

// P1, P2.3: any text at all.
func FuzzParse(f *testing.F) {
	for _, s := range []string{"", low, low + "\n" + top + "\ntrust top 5\n", "trust low 5", "label\x00\xff#\n\r"} {
		f.Add(s)
	}
	f.Fuzz(func(t *testing.T, s string) { holdParse(t, s) })
}
