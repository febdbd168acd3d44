package walk_test

import (
	"fmt"
	"math/rand"
	"slices"
	"testing"

	"garrison/api"
	"garrison/walk"
)

// noise: the groups of labels that aren't at or below one are of chance.
func (w world) noise(t *testing.T, lab int, seed int64) world {
	t.Helper()
	r := rand.New(rand.NewSource(seed))
	bs := w.d.Image()
	for other := range labels {
		if w.c.Leq(other, lab) {
			continue
		}
		for i := range w.part(bs, other) {
			b := &w.part(bs, other)[i]
			switch seed % 3 {
			case 0:
				r.Read(b[:])
			case 1:
				*b = api.Block{}
			case 2:
				for j := range b {
					b[j] = 255
				}
			}
		}
	}
	return onto(t, bs, w.things)
}

// tell: what a subject's ways come to, each from where the one ahead came to.
func (w world) tell(subject int, texts []string) string {
	out, at, v := "", walk.Start(), w.view()
	for i, s := range texts {
		f, e := v.Walk(subject, at, s, i%2 == 0)
		out += fmt.Sprintln(s, f, int(e))
		if l, e := v.Dir(subject, at, s); e == api.OK && i%5 > 0 {
			at = l
		} else {
			at = nil
		}
	}
	for lab := range labels {
		if w.c.Leq(lab, subject) {
			i, ok, e := v.Own(root, lab)
			out += fmt.Sprintln("Own", i, ok, int(e))
		}
	}
	return out
}

// P3: what a subject's ways come to hangs on the groups at or below it alone, whatever stands in the others.
func TestNothingFlowsDown(t *testing.T) {
	for seed := range int64(6) {
		r := rand.New(rand.NewSource(seed))
		base := random(t, r)
		var texts []string
		for range 300 {
			texts = append(texts, text(r, 4))
		}
		for subject := range labels {
			want := base.tell(subject, texts)
			for noise := range int64(3) {
				if got := base.noise(t, subject, noise).tell(subject, texts); got != want {
					t.Errorf("seed %d, of %d, other groups are noise %d: it says\n%s, wanted\n%s", seed, subject, noise, got, want)
				}
			}
		}
	}
}

// P3: of a label that isn't at or below, one hears the same, be there something or not.
func TestNotHeard(t *testing.T) {
	w := planted(t)
	for _, s := range []string{"/a@high", "/z@high", "/a@high/x", "/z@high/x", "/@high", "/n@high/x", "/m@low/i@high", "/m@low/z@high", "/a@right", "/@right/z"} {
		w.fails(t, left, nil, s, api.ErrPerm)
		w.fails(t, low, nil, s, api.ErrPerm)
	}
}

// P3: each way from the root, of all that there are: its directories are of labels at or below who goes it.
func TestLabels(t *testing.T) {
	w := planted(t)
	names := []string{"a", "d", "m", "n", "x", "i", "@low", "@left", "@right", "@high", "a@low", "m@low", "n@high", "i@high", "a@left"}
	for subject := range labels {
		reach := [][]api.Ino{walk.Start()}
		for round := 0; round < 3; round++ {
			for _, at := range slices.Clone(reach) {
				for _, s := range names {
					f, _ := w.view().Walk(subject, at, s, true)
					l, e := w.view().Dir(subject, at, s)
					w.below(t, subject, s, f, l)
					if e == api.OK && len(reach) < 200 {
						reach = append(reach, l)
					}
				}
			}
		}
		if len(reach) < 4 {
			t.Errorf("%d comes nowhere", subject)
		}
	}
}
