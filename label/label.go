// Package label is layer 1: levels, categories, and their order: see shared/doc/01-label.md.
package label

import (
	"math/bits"
	"strconv"

	"garrison/api"
)

// Make: a label of a level and categories.
func Make(level int, cats ...int) (api.Label, api.Errno) {
	if level < 0 || level > api.MaxLevel {
		return api.Label{}, api.ErrRange
	}
	l := api.Label{Level: uint8(level)}
	for _, c := range cats {
		if c < 0 || c >= api.CatCount {
			return api.Label{}, api.ErrRange
		}
		l.Cats |= 1 << c
	}
	return l, api.OK
}

// Valid: may it be a label?
func Valid(l api.Label) bool { return l.Level <= api.MaxLevel }

// Leq: is a label at or below another one?
func Leq(a, b api.Label) bool { return a.Level <= b.Level && a.Cats&^b.Cats == 0 }

// Join: the least label above all.
func Join(l ...api.Label) api.Label {
	var j api.Label
	for _, x := range l {
		j.Level = max(j.Level, x.Level)
		j.Cats |= x.Cats
	}
	return j
}

// Top: above all.
func Top() api.Label { return api.Label{Level: api.MaxLevel, Cats: 1<<api.CatCount - 1} }

// Meet: the greatest label below all.
func Meet(l ...api.Label) api.Label {
	m := Top()
	for _, x := range l {
		m.Level = min(m.Level, x.Level)
		m.Cats &= x.Cats
	}
	return m
}

// Cats: a label's categories, rising.
func Cats(l api.Label) []int {
	var cats []int
	for c := range api.CatCount {
		if l.Cats>>c&1 != 0 {
			cats = append(cats, c)
		}
	}
	return cats
}

// Chain: are labels a chain: each at or below the next?
func Chain(l []api.Label) bool {
	for i := 1; i < len(l); i++ {
		if !Leq(l[i-1], l[i]) {
			return false
		}
	}
	return true
}

// Below: which of labels are at or below one: their places.
func Below(list []api.Label, l api.Label) []int {
	var places []int
	for i, x := range list {
		if Leq(x, l) {
			places = append(places, i)
		}
	}
	return places
}

// Rank: how many levels and categories a label has in all: what is above another one, and isn't it, has more.
func Rank(l api.Label) int { return int(l.Level) + bits.OnesCount16(l.Cats) }

// Text: a label as a text.
func Text(l api.Label) string {
	s := strconv.Itoa(int(l.Level))
	mark := ":"
	for _, c := range Cats(l) {
		s += mark + strconv.Itoa(c)
		mark = ","
	}
	return s
}
