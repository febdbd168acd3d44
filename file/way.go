package file

import (
	"garrison/api"
)

// mostBlocks: how many data blocks the longest file has.
const mostBlocks = api.MaxFile / api.BlockSize

// Which of a node's own pointers a way begins with: from 1 on a direct one, behind these Single and Double.
const (
	singleStep = api.Directs + 1
	doubleStep = api.Directs + 2
)

// mostSteps: how many pointers are followed at most, from a node to a data block.
const mostSteps = 3

// way says which pointers are followed from a node to one of its blocks, be it of data or of pointers: which of the node's own, then which of each block of pointers; from 1 on, noughts behind. Two ways that are equal lead to the same block; the way of no steps leads to none.
type way [mostSteps]int

// wayTo: to data block i; of no steps, if no file has one of that number.
func wayTo(i int) way {
	if i < 0 || i >= mostBlocks {
		return way{}
	}
	if i < api.Directs {
		return way{i + 1}
	}
	i -= api.Directs
	if i < api.Pointers {
		return way{singleStep, i + 1}
	}
	i -= api.Pointers
	return way{doubleStep, i/api.Pointers + 1, i%api.Pointers + 1}
}

// steps: how many it has.
func (w way) steps() int {
	many := 0
	for many < mostSteps && w[many] > 0 {
		many++
	}
	return many
}

// first: its first steps, so many at most.
func (w way) first(many int) way {
	var f way
	copy(f[:many], w[:])
	return f
}

// up: to the block of pointers that tells the last step; of no steps, if that is the node itself.
func (w way) up() way { return w.first(w.steps() - 1) }

// passes: is the block that q leads to come to on this way? The node itself always is.
func (w way) passes(q way) bool { return w.first(q.steps()) == q }
