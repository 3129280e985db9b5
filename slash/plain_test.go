package slash_test

import (
	"math"
	"slices"
	"testing"

	"marigold/api"
	"marigold/slash"
)

const top = 1<<64 - 1

// pairOf says the same as P12.1, word by word.
func pairOf(a, b api.Link) bool {
	if a.From != b.From {
		return false
	}
	same := a.Src.Epoch == b.Src.Epoch && a.Src.Root == b.Src.Root && a.Tgt.Epoch == b.Tgt.Epoch && a.Tgt.Root == b.Tgt.Root
	if !same && a.Tgt.Epoch == b.Tgt.Epoch {
		return true
	}
	return spansOf(a, b) || spansOf(b, a)
}

// spansOf says the same as the chapter's word TO SPAN.
func spansOf(a, b api.Link) bool {
	return a.Src.Epoch < b.Src.Epoch && a.Tgt.Epoch > b.Tgt.Epoch
}

// guiltyOf says the same as P12.2, holding each link against each other one.
func guiltyOf(v []api.Link) []int {
	var who []int
	for i, a := range v {
		for _, b := range v[:i] {
			if pairOf(a, b) && !slices.Contains(who, a.From) {
				who = append(who, a.From)
			}
		}
	}
	slices.Sort(who)
	return who
}

// checkPair holds Pair against what is written out, whichever of both comes first. Of a test only the first fault is told.
func checkPair(t *testing.T, a, b api.Link, want bool) {
	t.Helper()
	if got := slash.Pair(a, b); got != want && !t.Failed() {
		t.Errorf("that %v and %v are a pair is %t", a, b, got)
	}
	if got := slash.Pair(b, a); got != want && !t.Failed() {
		t.Errorf("that %v and %v are a pair is %t", b, a, got)
	}
}

// checkGuilty holds Guilty against what is written out. Of a test only the first fault is told.
func checkGuilty(t *testing.T, v []api.Link, want ...int) {
	t.Helper()
	if got := slash.Guilty(v); !slices.Equal(got, want) && !t.Failed() {
		t.Errorf("%v: guilty are %v, not %v", v, got, want)
	}
}

// link is one of the beginning and of a block of that number.
func link(who, src, tgt int, id uint64) api.Link {
	return api.Link{From: who, Src: api.Check{Epoch: src}, Tgt: api.Check{Epoch: tgt, Root: api.ID{id, id}}}
}

// numbers are edges: of epochs, of validators, and of whole numbers.
func numbers() []int {
	return []int{math.MinInt, math.MinInt + 1, -1 << 62, -1 << 32, -2, -1, 0, 1, 2, 11, 12, 1 << 20, 1<<20 + 1, 1 << 31, 1 << 32, 1 << 62, math.MaxInt - 1, math.MaxInt}
}

// ids are noughts, the greatest words, and such as differ from another one in one word, or in one bit of it.
func ids() []api.ID {
	return []api.ID{{}, {0, 1}, {1, 0}, {1, 1}, {1, 2}, {2, 1}, {0, 1 << 63}, {1 << 63, 0}, {0, top}, {top, 0}, {top, top}, {top, top - 1}, {top - 1, top}}
}

// small are all links of some from one epoch to another one, below an end, also such as go back, of two roots.
func small(who, end int) []api.Link {
	var all []api.Link
	for from := range who {
		for src := range end {
			for tgt := range end {
				for root := range uint64(2) {
					all = append(all, link(from, src, tgt, root))
				}
			}
		}
	}
	return all
}

// crowd has links of several, up one branch and on several, in no order: of 2 there is one that spans three others, 7 has two targets in one epoch, 4 has two sources, and -3, 9 and 0 have no pair.
func crowd() []api.Link {
	return []api.Link{
		link(9, 0, 1, 1), link(7, 0, 1, 1), link(2, 1, 2, 2), link(0, 0, 1, 1), link(4, 1, 3, 3),
		link(9, 1, 2, 2), link(2, 3, 4, 4), link(-3, 0, 1, 1), link(7, 1, 2, 2), link(2, 0, 5, 5),
		link(9, 2, 4, 4), link(9, 1, 2, 2), link(4, 2, 3, 3), link(7, 1, 2, 6), link(0, 1, 4, 4),
		link(2, 2, 3, 3), link(-3, 0, 5, 5), link(9, 2, 5, 6), link(4, 0, 1, 1), link(0, 4, 5, 5),
	}
}
