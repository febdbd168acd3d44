package label_test

import (
	"regexp"
	"slices"
	"strconv"
	"strings"
	"testing"

	"garrison/api"
	"garrison/label"
)

var form = regexp.MustCompile(`^(0|[1-9][0-9]?)(:(0|[1-9][0-9]?)(,(0|[1-9][0-9]?))*)?$`)

// parsed: the chapter's words for Parse.
func parsed(s string) (api.Label, api.Errno) {
	if !form.MatchString(s) {
		return api.Label{}, api.ErrForm
	}
	var numbers []int
	for _, w := range strings.FieldsFunc(s, func(r rune) bool { return r == ':' || r == ',' }) {
		n, _ := strconv.Atoi(w)
		numbers = append(numbers, n)
	}
	for i := 2; i < len(numbers); i++ {
		if numbers[i-1] >= numbers[i] {
			return api.Label{}, api.ErrForm
		}
	}
	if slices.Max(numbers) > 15 {
		return api.Label{}, api.ErrRange
	}
	return lab(uint8(numbers[0]), numbers[1:]...), api.OK
}

func holdParse(t *testing.T, s string) {
	t.Helper()
	l, e := label.Parse(s)
	if wl, we := parsed(s); l != wl || e != we {
		t.Errorf("Parse(%q) = %v, %d; wanted %v, %d", s, l, e, wl, we)
	}
}

// P1.2
func TestCats(t *testing.T) {
	for _, x := range []struct {
		l    api.Label
		want []int
	}{
		{lab(0), nil},
		{lab(255), nil},
		{lab(3, 0, 12), []int{0, 12}},
		{lab(3, 15), []int{15}},
		{label.Top(), []int{0, 1, 2, 3, 4, 5, 6, 7, 8, 9, 10, 11, 12, 13, 14, 15}},
	} {
		if got := label.Cats(x.l); !slices.Equal(got, x.want) {
			t.Errorf("Cats(%v) = %v", x.l, got)
		}
	}
}

// P1.2
func TestText(t *testing.T) {
	for _, x := range []struct {
		l    api.Label
		want string
	}{
		{lab(0), "0"},
		{lab(15), "15"},
		{lab(3, 0, 12), "3:0,12"},
		{lab(0, 0), "0:0"},
		{lab(10, 15), "10:15"},
		{label.Top(), "15:0,1,2,3,4,5,6,7,8,9,10,11,12,13,14,15"},
		{lab(16), "16"},
		{lab(255, 7), "255:7"},
	} {
		if got := label.Text(x.l); got != x.want {
			t.Errorf("Text(%v) = %q", x.l, got)
		}
	}
}

// P1.2
func TestParse(t *testing.T) {
	for _, x := range []struct {
		s    string
		want api.Label
	}{
		{"0", lab(0)},
		{"9", lab(9)},
		{"10", lab(10)},
		{"15", lab(15)},
		{"3:0,12", lab(3, 0, 12)},
		{"0:0", lab(0, 0)},
		{"15:15", lab(15, 15)},
		{"15:0,1,2,3,4,5,6,7,8,9,10,11,12,13,14,15", label.Top()},
	} {
		if l, e := label.Parse(x.s); l != x.want || e != api.OK {
			t.Errorf("Parse(%q) = %v, %d", x.s, l, e)
		}
	}
}

// P1.2
func TestParseWrong(t *testing.T) {
	for _, x := range []struct {
		s    string
		want api.Errno
	}{
		{"", api.ErrForm},
		{":", api.ErrForm},
		{":1", api.ErrForm},
		{"3:", api.ErrForm},
		{"3:,", api.ErrForm},
		{"3:1,", api.ErrForm},
		{"3:,1", api.ErrForm},
		{"3:1,,2", api.ErrForm},
		{"3,1", api.ErrForm},
		{"3:1:2", api.ErrForm},
		{"3:12,0", api.ErrForm},
		{"3:1,1", api.ErrForm},
		{"3:1,2,2", api.ErrForm},
		{"00", api.ErrForm},
		{"03", api.ErrForm},
		{"3:00", api.ErrForm},
		{"3:0,01", api.ErrForm},
		{"100", api.ErrForm},
		{"3:100", api.ErrForm},
		{"015", api.ErrForm},
		{"+3", api.ErrForm},
		{"-3", api.ErrForm},
		{"-0", api.ErrForm},
		{"3:+1", api.ErrForm},
		{"1_", api.ErrForm},
		{"1a", api.ErrForm},
		{"a", api.ErrForm},
		{"0x", api.ErrForm},
		{" 3", api.ErrForm},
		{"3 ", api.ErrForm},
		{"3\n", api.ErrForm},
		{"3: 1", api.ErrForm},
		{"3:1, 2", api.ErrForm},
		{"3:1\x00", api.ErrForm},
		{"3/", api.ErrForm},
		{"\u0663", api.ErrForm},
		{"\xff", api.ErrForm},
		{"16", api.ErrRange},
		{"99", api.ErrRange},
		{"16:1", api.ErrRange},
		{"3:16", api.ErrRange},
		{"3:99", api.ErrRange},
		{"3:1,16,17", api.ErrRange},
		{"99:3,2", api.ErrForm}, // the form is looked at ahead of the range
		{"99:", api.ErrForm},
		{"3:16,x", api.ErrForm},
		{"3:20,19", api.ErrForm},
		{strings.Repeat("1", 1<<20), api.ErrForm},
		{"3:" + strings.Repeat("1,", 1<<20) + "1", api.ErrForm},
	} {
		if l, e := label.Parse(x.s); l != (api.Label{}) || e != x.want {
			t.Errorf("Parse(%.40q) = %v, %d; wanted %d", x.s, l, e, x.want)
		}
	}
}

// P1.2: what Text prints comes back.
func TestTextParse(t *testing.T) {
	for level := range 16 {
		for cats := range 1 << 16 {
			l := api.Label{Level: uint8(level), Cats: uint16(cats)}
			if got, e := label.Parse(label.Text(l)); got != l || e != api.OK {
				t.Fatalf("Parse(%q) = %v, %d", label.Text(l), got, e)
			}
		}
	}
	for level := 16; level < 256; level++ {
		want := api.ErrRange
		if level > 99 {
			want = api.ErrForm
		}
		if l, e := label.Parse(label.Text(lab(uint8(level), 2))); l != (api.Label{}) || e != want {
			t.Errorf("level %d: %v, %d", level, l, e)
		}
	}
}

// P1.2: all short texts of the bytes that matter.
func TestParseAllShort(t *testing.T) {
	const bytes = "0159:,x- "
	var grow func(s string, left int)
	grow = func(s string, left int) {
		holdParse(t, s)
		if left == 0 || t.Failed() {
			return
		}
		for i := range len(bytes) {
			grow(s+bytes[i:i+1], left-1)
		}
	}
	grow("", 5)
	for _, head := range []string{"3:", "3:1,", "15:0,1,", "16:"} {
		grow(head, 4)
	}
}

// P1, P1.2: any text at all.
func FuzzParse(f *testing.F) {
	for _, s := range []string{"", "3:0,12", "16", "3:1,1", "0:99,100", "\xff:,"} {
		f.Add(s)
	}
	f.Fuzz(func(t *testing.T, s string) { holdParse(t, s) })
}
