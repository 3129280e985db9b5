package view_test

import (
	"math"
	"slices"
	"testing"

	"marigold/api"
	"marigold/duty"
	"marigold/tree"
	"marigold/view"
)

// duties are who proposes, and who votes, in a slot of five.
type duties struct {
	slot, proposes int
	vote           []int
}

// written was worked out by another program, by the words of the chapters alone.
func written() []duties {
	return []duties{
		{1, 1, []int{0, 2}},
		{2, 0, []int{0, 1, 4}},
		{3, 0, []int{2, 3}},
		{4, 1, []int{1, 3, 4}},
		{5, 4, []int{0, 2}},
		{last - 1, 0, []int{1, 2}},
		{last, 0, []int{0, 2, 4}},
	}
}

// P16.1: who proposes in the slot may have made a block, and nobody else, whatever it stands on, and whatever its salt is; who votes in it may have cast a vote, for whatever head.
func TestComeWritten(t *testing.T) {
	c := five()
	ids := append(unknown(bush(c)), append(names(bush(c)), beginning)...)
	for _, x := range written() {
		for i, id := range ids {
			for _, who := range append(strangers(5), 0, 1, 2, 3, 4) {
				b := api.Block{Slot: x.slot, From: who, Parent: id, Salt: uint64(i) * top}
				checkBlock(t, c, b, who == x.proposes)
				checkVote(t, c, api.Vote{From: who, Slot: x.slot, Head: id}, slices.Contains(x.vote, who))
			}
		}
	}
}

// P16.1: what is of no slot may not come, of nobody, and so not of whom duty names there.
func TestComeSlots(t *testing.T) {
	for _, c := range []api.Conf{five(), twelve(), alone()} {
		for _, slot := range append(wrongSlots(), numbers()...) {
			for _, who := range append(strangers(len(c.W)), 0, 1, 2, 3, 4, 11) {
				is := 1 <= slot && slot <= last
				checkBlock(t, c, api.Block{Slot: slot, From: who}, is && who == duty.Proposer(c, slot))
				checkVote(t, c, api.Vote{From: who, Slot: slot}, is && slices.Contains(members(c, slot), who))
			}
		}
	}
	checkBlock(t, five(), api.Block{From: -1}, false)
	checkBlock(t, five(), api.Block{Slot: last + 1, From: -1}, false)
	checkBlock(t, alone(), api.Block{Slot: 1}, true)
	checkBlock(t, alone(), api.Block{Slot: last}, true)
	checkVote(t, alone(), api.Vote{Slot: 1}, true)
	checkVote(t, alone(), api.Vote{Slot: last}, true)
}

// P16.1: by a conf that may not be nothing may come.
func TestComeWrongConfs(t *testing.T) {
	for why, c := range wrongConfs() {
		if duty.May(c) {
			t.Fatalf("%s may be", why)
		}
		for _, slot := range []int{-1, 0, 1, 2, 3, 4, 5, last, last + 1} {
			for _, who := range append(strangers(5), 0, 1, 2, 3, 4, 11) {
				checkBlock(t, c, api.Block{Slot: slot, From: who}, false)
				checkVote(t, c, api.Vote{From: who, Slot: slot}, false)
			}
		}
	}
}

// P16.1: in each slot of each conf just one validator proposes, and each votes in one slot of an epoch.
func TestComeEach(t *testing.T) {
	for n := 1; n <= 12; n++ {
		for epoch := 1; epoch <= 8; epoch++ {
			c := conf(n, uint64(n*epoch), epoch)
			for slot := range 3 * epoch {
				blocks := 0
				for who := -1; who <= n; who++ {
					checkBlock(t, c, api.Block{Slot: slot, From: who}, blockMay(c, api.Block{Slot: slot, From: who}))
					checkVote(t, c, api.Vote{From: who, Slot: slot}, voteMay(c, api.Vote{From: who, Slot: slot}))
					if view.Block(c, api.Block{Slot: slot, From: who}) {
						blocks++
					}
				}
				if blocks != min(slot, 1) {
					t.Errorf("%v: of slot %d may come those of %d", c, slot, blocks)
				}
			}
			for who := range n {
				votes := 0
				for slot := epoch; slot < 2*epoch; slot++ {
					if view.Vote(c, api.Vote{From: who, Slot: slot}) {
						votes++
					}
				}
				if votes != 1 {
					t.Errorf("%v: %d may cast %d votes of an epoch", c, who, votes)
				}
			}
		}
	}
}

// P16.1: a block whose name is the beginning's may not come, though all else of it may; one that differs from it in one word may.
func TestNameless(t *testing.T) {
	b := nameless()
	if tree.Name(b) != beginning {
		t.Fatalf("its name is %x", tree.Name(b))
	}
	for _, c := range []api.Conf{five(), alone()} {
		checkBlock(t, c, b, false)
		for _, change := range []func(b *api.Block){
			func(b *api.Block) { b.Salt++ },
			func(b *api.Block) { b.Parent[0]++ },
			func(b *api.Block) { b.Parent[1]++ },
			func(b *api.Block) { b.Slot-- },
		} {
			other := b
			change(&other)
			checkBlock(t, c, other, true)
		}
		checkMay(t, c, of(b), false)
		checkOnly(t, c, of(b, block(c, 1, beginning, 0), b), of(block(c, 1, beginning, 0)))
		asked{c, api.View{}, of(b), last}.checkTake(t, taken{})
	}
}

// P16.1: two blocks that have one name may both come.
func TestTwinsCome(t *testing.T) {
	x := twins()
	if x[0] == x[1] || tree.Name(x[0]) != tree.Name(x[1]) {
		t.Fatalf("their names are %x", names(x))
	}
	for _, b := range append(parentsOfTwins(), x...) {
		checkBlock(t, five(), b, true)
		checkBlock(t, alone(), b, true)
	}
	checkOnly(t, five(), of(x...), of(x...))
}

// P16.1: of what came all that may come is left, in order, whatever it stands on or is for, and as often as it is there; of the rest nothing.
func TestOnlyWritten(t *testing.T) {
	c := five()
	l := bush(c)
	on := api.Block{Slot: 5, From: 4, Parent: stranger}
	high := api.Block{Slot: last, From: 0, Parent: tree.Name(l[9]), Salt: top}
	in := api.View{
		B: []api.Block{l[9], {Slot: 1}, l[0], {}, l[9], on, {Slot: 5, From: 3, Parent: stranger}, {From: -1}, high, {Slot: last + 1, From: -1}, l[0], {Slot: -4, From: 1}, on},
		V: []api.Vote{{From: 2, Slot: 5, Head: stranger}, {From: 2, Slot: 6}, {}, {From: 0, Slot: 1, Head: tree.Name(l[9])}, {From: 2, Slot: 5, Head: stranger}, {From: 5, Slot: 1}, {From: 1, Slot: 1}, {From: 4, Slot: last}, {From: 2, Slot: last + 1}, {From: -1, Slot: 1}, {From: 0, Slot: 1}},
	}
	want := api.View{
		B: []api.Block{l[9], l[0], l[9], on, high, l[0], on},
		V: []api.Vote{{From: 2, Slot: 5, Head: stranger}, {From: 0, Slot: 1, Head: tree.Name(l[9])}, {From: 2, Slot: 5, Head: stranger}, {From: 4, Slot: last}, {From: 0, Slot: 1}},
	}
	checkOnly(t, c, in, want)
	checkOnly(t, c, want, want)
	checkOnly(t, c, api.View{B: in.B}, api.View{B: want.B})
	checkOnly(t, c, api.View{V: in.V}, api.View{V: want.V})
	checkOnly(t, c, both(in, in), both(want, want))
	checkOnly(t, c, api.View{}, api.View{})
	checkOnly(t, c, api.View{B: []api.Block{}, V: []api.Vote{}}, api.View{})
	for why, wrong := range wrongConfs() {
		if got := view.Only(wrong, in); !same(got, api.View{}) {
			t.Errorf("%s: %v", why, got)
		}
	}
}

// P16.1: of more than a view may hold all is left.
func TestOnlyMany(t *testing.T) {
	for seed := range uint64(50) {
		c := someConf(seed)
		in := someView(c, seed)
		checkOnly(t, c, in, onlyOf(c, in))
		many := both(both(in, in), both(in, in))
		checkOnly(t, c, many, onlyOf(c, many))
	}
	l, v := star(twelve(), 1000), cheers(3000)
	checkOnly(t, twelve(), api.View{B: l, V: v}, api.View{B: l, V: v})
}

// P16.1: with one what is there alone is left, at all edges of numbers.
func TestOnlyEdges(t *testing.T) {
	for _, c := range []api.Conf{five(), alone(), {}, {W: []int{1}, Epoch: 1, Den: 1, Num: math.MinInt}} {
		for _, slot := range numbers() {
			for _, who := range numbers() {
				b, v := api.Block{Slot: slot, From: who}, api.Vote{Slot: slot, From: who}
				in := api.View{B: []api.Block{b}, V: []api.Vote{v}}
				got := view.Only(c, in)
				if (len(got.B) == 1) != blockMay(c, b) || (len(got.V) == 1) != voteMay(c, v) {
					t.Errorf("%v: of %v may come %v", c, in, got)
				}
			}
		}
	}
}
