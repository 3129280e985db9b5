package slash_test

import (
	"math"
	"testing"

	"marigold/api"
	"marigold/slash"
)

// P12.1: the chapter's example, and that of the whole.
func TestExample(t *testing.T) {
	long, short := link(3, 0, 3, 1), link(3, 1, 2, 2)
	checkPair(t, long, short, true)
	checkGuilty(t, []api.Link{long, short}, 3)
	checkGuilty(t, []api.Link{short, long}, 3)
}

// P12.1: pairs, and such as are none, written out, whichever of both comes first, up one branch and on several.
func TestPairWritten(t *testing.T) {
	for _, x := range []struct {
		why  string
		a, b api.Link
		want bool
	}{
		{"the same", link(1, 0, 2, 5), link(1, 0, 2, 5), false},
		{"noughts", api.Link{}, api.Link{}, false},
		{"one target's epoch, two sources' epochs", link(1, 0, 2, 5), link(1, 1, 2, 5), true},
		{"one target's epoch, two targets", link(1, 0, 2, 5), link(1, 0, 2, 6), true},
		{"one target's epoch, both two", link(1, 0, 2, 5), link(1, 1, 2, 6), true},
		{"one epoch of each, another source", api.Link{Tgt: api.Check{Epoch: 2}}, api.Link{Src: api.Check{Root: api.ID{7, 7}}, Tgt: api.Check{Epoch: 2}}, true},
		{"it spans", link(1, 0, 3, 5), link(1, 1, 2, 5), true},
		{"it spans another branch", link(1, 0, 3, 5), link(1, 1, 2, 6), true},
		{"it spans far", link(1, 0, 1<<20, 5), link(1, 500, 501, 5), true},
		{"it spans by one at both ends", link(1, 4, 8, 5), link(1, 5, 7, 6), true},
		{"from one epoch, the one goes further", link(1, 0, 3, 5), link(1, 0, 2, 5), false},
		{"from one epoch, the one goes further, on another branch", link(1, 0, 3, 5), link(1, 0, 2, 6), false},
		{"one epoch later each", link(1, 1, 3, 5), link(1, 0, 2, 5), false},
		{"one epoch later each, on another branch", link(1, 1, 3, 5), link(1, 0, 2, 6), false},
		{"they cross", link(1, 0, 4, 5), link(1, 2, 6, 6), false},
		{"the one begins where the other one ends", link(1, 0, 3, 5), link(1, 3, 4, 5), false},
		{"the one begins where the other one ends, of another block", link(1, 0, 3, 5), link(1, 3, 4, 6), false},
		{"the one begins behind the other one", link(1, 0, 1, 5), link(1, 2, 3, 5), false},
	} {
		t.Run(x.why, func(t *testing.T) {
			checkPair(t, x.a, x.b, x.want)
			other := x.b
			other.From = 2
			checkPair(t, x.a, other, false)
		})
	}
}

// P12.1: of two Froms nothing is a pair, of one From, whoever that is, all is that would be.
func TestPairFrom(t *testing.T) {
	for _, a := range numbers() {
		for _, b := range numbers() {
			checkPair(t, link(a, 0, 3, 1), link(b, 1, 2, 1), a == b)
			checkPair(t, link(a, 0, 3, 1), link(b, 0, 3, 2), a == b)
			checkPair(t, link(a, 0, 3, 1), link(b, 1, 3, 1), a == b)
			checkPair(t, link(a, 0, 3, 1), link(b, 0, 3, 1), false)
		}
	}
}

// P12.1: links of the same epochs are a pair just if they differ in a root, also where that is in one word, or in one bit, alone.
func TestPairRoots(t *testing.T) {
	all := ids()
	for i := range 64 {
		all = append(all, api.ID{3 ^ 1<<i, 3}, api.ID{3, 3 ^ 1<<i})
	}
	for i, a := range all {
		for k, b := range all {
			for _, root := range ids() {
				low, high := api.Check{Epoch: 4, Root: root}, api.Check{Epoch: 6, Root: root}
				checkPair(t, api.Link{Src: api.Check{Epoch: 4, Root: a}, Tgt: high}, api.Link{Src: api.Check{Epoch: 4, Root: b}, Tgt: high}, i != k)
				checkPair(t, api.Link{Src: low, Tgt: api.Check{Epoch: 6, Root: a}}, api.Link{Src: low, Tgt: api.Check{Epoch: 6, Root: b}}, i != k)
			}
		}
	}
}

// P12.1: where the targets' epochs are not the same, roots do not matter.
func TestPairRootsBeside(t *testing.T) {
	for _, a := range ids() {
		for _, b := range ids() {
			for _, x := range []struct {
				src, tgt int
				want     bool
			}{{3, 7, false}, {4, 7, false}, {5, 7, false}, {3, 5, false}, {5, 5, true}, {3, 4, false}, {6, 7, false}, {3, 8, false}, {5, 8, false}, {4, 5, true}, {2, 7, true}, {2, 9, true}} {
				y := api.Link{From: 1, Src: api.Check{Epoch: 3, Root: a}, Tgt: api.Check{Epoch: 6, Root: b}}
				checkPair(t, y, api.Link{From: 1, Src: api.Check{Epoch: x.src, Root: b}, Tgt: api.Check{Epoch: x.tgt, Root: a}}, x.want)
				checkPair(t, y, api.Link{From: 1, Src: api.Check{Epoch: x.src, Root: a}, Tgt: api.Check{Epoch: x.tgt, Root: b}}, x.want)
			}
		}
	}
}

// P12.1: epochs that no other chapter would let be, written out: below 0, of a target not behind its source, and the least and the greatest whole numbers.
func TestPairStrange(t *testing.T) {
	const least, most = math.MinInt, math.MaxInt
	for _, x := range []struct {
		a, b api.Link
		want bool
	}{
		{link(1, least, most, 1), link(1, least+1, most-1, 1), true},
		{link(1, least, most, 1), link(1, 0, 0, 1), true},
		{link(1, least, most, 1), link(1, most, least, 1), true},
		{link(1, least, most, 1), link(1, least, most-1, 1), false},
		{link(1, least, most, 1), link(1, least+1, most, 1), true},
		{link(1, least, least, 1), link(1, most, most, 1), false},
		{link(1, least, least, 1), link(1, most, least, 1), true},
		{link(1, most, most, 1), link(1, least, most, 1), true},
		{link(1, most, least, 1), link(1, most, least, 2), true},
		{link(1, most, least, 1), link(1, most, least, 1), false},
		{link(1, most-1, least+1, 1), link(1, most, least, 1), true},
		{link(1, least, 0, 1), link(1, most, -1, 1), true},
		{link(1, least, 0, 1), link(1, most, 1, 1), false},
		{link(1, -3, -1, 1), link(1, -2, -1, 1), true},
		{link(1, -4, -1, 1), link(1, -3, -2, 1), true},
		{link(1, -1, 2, 1), link(1, 0, 1, 1), true},
		{link(1, -1, 0, 1), link(1, 0, 1, 1), false},
		{link(1, 5, 5, 1), link(1, 6, 4, 1), true},
		{link(1, 5, 5, 1), link(1, 6, 6, 1), false},
		{link(1, 5, 5, 1), link(1, 4, 6, 1), true},
		{link(1, 5, 5, 1), link(1, 4, 4, 1), false},
		{link(1, 9, 3, 1), link(1, 10, 2, 1), true},
		{link(1, 9, 3, 1), link(1, 9, 2, 1), false},
	} {
		checkPair(t, x.a, x.b, x.want)
	}
	checkPair(t, link(least, 0, 3, 1), link(least, 1, 2, 1), true)
	checkPair(t, link(-1, 0, 3, 1), link(1, 1, 2, 1), false)
}

// P12.1: all epochs at all edges, beside each other.
func TestPairEdges(t *testing.T) {
	for _, src := range numbers() {
		for _, tgt := range numbers() {
			a := link(1, src, tgt, 1)
			for _, s := range numbers() {
				for _, g := range numbers() {
					b := link(1, s, g, 1)
					checkPair(t, a, b, pairOf(a, b))
				}
			}
		}
	}
}

// P12.1: all pairs of links of few epochs, and that none is a pair with itself.
func TestPairSmall(t *testing.T) {
	for _, a := range small(2, 5) {
		for _, b := range small(2, 5) {
			checkPair(t, a, b, pairOf(a, b))
		}
		if slash.Pair(a, a) {
			t.Errorf("%v is a pair with itself", a)
		}
	}
}
