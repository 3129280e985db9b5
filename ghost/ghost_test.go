package ghost_test

import (
	"math"
	"slices"
	"strconv"
	"sync"
	"testing"

	"marigold/api"
	"marigold/duty"
	"marigold/ghost"
	"marigold/mix"
	"marigold/tree"
	"marigold/weigh"
)

const (
	top   = 1<<64 - 1
	heavy = 1 << 40
)

// beginning is spelt out here once more, as the document has it.
var beginning = api.ID{0, 0}

// greater holds IDs against each other word by word, the first one first.
func greater(a, b api.ID) bool {
	return slices.Compare(a[:], b[:]) > 0
}

// weights says what is on each ID at once: what a validator weighs is on the chains of all heads that it has votes for.
func weights(c api.Conf, l []api.Block, v []api.Vote) map[api.ID]int {
	on := map[api.ID]int{}
	if !duty.May(c) || !tree.May(l) {
		return on
	}
	for who, w := range c.W {
		reached := map[api.ID]bool{}
		for _, x := range v {
			if x.From == who {
				for _, id := range tree.Chain(l, x.Head) {
					reached[id] = true
				}
			}
		}
		for id := range reached {
			on[id] += w
		}
	}
	return on
}

// bestOf says the same as P9.1: the one that no other one is ahead of.
func bestOf(on map[api.ID]int, l []api.Block, id api.ID) (api.ID, bool) {
	var kids []api.ID
	for _, b := range l {
		if b.Parent == id && tree.May(l) {
			kids = append(kids, tree.Name(b))
		}
	}
	for _, kid := range kids {
		ahead := func(other api.ID) bool {
			return on[other] > on[kid] || on[other] == on[kid] && greater(other, kid)
		}
		if !slices.ContainsFunc(kids, ahead) {
			return kid, true
		}
	}
	return beginning, false
}

// headOf says the same as P9.2.
func headOf(on map[api.ID]int, l []api.Block) api.ID {
	id, next, is := beginning, beginning, true
	for is {
		id = next
		next, is = bestOf(on, l, id)
	}
	return id
}

// check holds both calls against a plain going through validators, votes and blocks, Best at each of the IDs.
func check(t *testing.T, c api.Conf, l []api.Block, v []api.Vote, asked []api.ID) {
	t.Helper()
	on := weights(c, l, v)
	for _, id := range asked {
		wanted, there := bestOf(on, l, id)
		if got, is := ghost.Best(c, l, v, id); got != wanted || is != there {
			t.Errorf("%v, %v, %v: the best on %x is %x, %t, not %x, %t", c, l, v, id, got, is, wanted, there)
		}
	}
	if got, want := ghost.Head(c, l, v), headOf(on, l); got != want {
		t.Errorf("%v, %v, %v: the head is %x, not %x", c, l, v, got, want)
	}
}

// checkNone holds that nothing is best on id.
func checkNone(t *testing.T, c api.Conf, l []api.Block, v []api.Vote, id api.ID) {
	t.Helper()
	if got, is := ghost.Best(c, l, v, id); got != beginning || is {
		t.Errorf("%v, %v, %v: the best on %x is %x, %t", c, l, v, id, got, is)
	}
}

// conf has n weights, so that no two sets of validators weigh the same.
func conf(n int) api.Conf {
	c := api.Conf{Seed: 7, Epoch: 2, Num: 1, Den: 4}
	for i := range n {
		c.W = append(c.W, 1<<i)
	}
	return c
}

// even has n weights that are the same.
func even(n, w int) api.Conf {
	c := conf(n)
	c.W = slices.Repeat([]int{w}, n)
	return c
}

// salted makes blocks by where their parents are (-1: on the beginning), of slots that rise, and of salts from one on.
func salted(salt uint64, parents ...int) []api.Block {
	var l []api.Block
	for i, p := range parents {
		b := api.Block{Slot: i + 1, From: i % 12, Salt: salt + uint64(i)}
		if p >= 0 {
			b.Parent = tree.Name(l[p])
		}
		l = append(l, b)
	}
	return l
}

func grow(parents ...int) []api.Block {
	return salted(0, parents...)
}

// bush has forks at several heights, and three blocks on the beginning; nothing stands on 3, 4, 5, 7, 8 and 9.
func bush() []api.Block {
	return grow(-1, 0, -1, 0, 1, 2, 1, -1, 6, 0)
}

// shape makes n blocks by where the parent of each is.
func shape(n int, parent func(i int) int) []api.Block {
	parents := make([]int, n)
	for i := range parents {
		parents[i] = parent(i)
	}
	return grow(parents...)
}

// line is n blocks, each on the one ahead of it.
func line(n int) []api.Block {
	return shape(n, func(i int) int { return i - 1 })
}

// star is n blocks on the beginning.
func star(n int) []api.Block {
	return shape(n, func(int) int { return -1 })
}

// ladder is n blocks, two at each height, of which the first one is gone on from.
func ladder(n int) []api.Block {
	return shape(n, func(i int) int { return max(i/2*2-2, -1) })
}

// names are those of all blocks, in order.
func names(l []api.Block) []api.ID {
	var all []api.ID
	for _, b := range l {
		all = append(all, tree.Name(b))
	}
	return all
}

// known are the beginning and all names.
func known(l []api.Block) []api.ID {
	return append([]api.ID{beginning}, names(l)...)
}

// unknown are neither the beginning nor a name of any block here; the last ones differ from these in a word or a bit.
func unknown(l []api.Block) []api.ID {
	all := []api.ID{{0, 1}, {1, 0}, {7, 7}, {0, top}, {top, 0}, {top, top}, {1 << 63, 1 << 63}, tree.Name(api.Block{Slot: 999, From: 999})}
	for _, x := range names(l) {
		all = append(all, api.ID{x[1], x[0]}, api.ID{x[0], 0}, api.ID{0, x[1]}, api.ID{x[0], x[1] ^ 1}, api.ID{x[0] ^ 1<<63, x[1]})
	}
	return all
}

func ids(l []api.Block) []api.ID {
	return append(known(l), unknown(l)...)
}

// greatest is the greatest ID of all.
func greatest(all []api.ID) api.ID {
	return slices.MaxFunc(all, func(a, b api.ID) int { return slices.Compare(a[:], b[:]) })
}

// least is the least ID of all.
func least(all []api.ID) api.ID {
	return slices.MinFunc(all, func(a, b api.ID) int { return slices.Compare(a[:], b[:]) })
}

// strangers are no validators of n; some would be, as a remainder by n, or cut to four bytes or to one.
func strangers(n int) []int {
	return []int{-1, -2, -n, -n - 1, -12, -256, n, n + 1, 2*n - 1, 2 * n, 256, 1000, 1 << 31, 1 << 32, 1<<32 + n - 1, -1 << 32,
		math.MinInt, math.MinInt + 1, math.MaxInt - 1, math.MaxInt}
}

// spread is a vote of each of twelve: of 0 to 9 for the blocks of the bush, of 10 for the beginning, of 11 for what is not known.
func spread() []api.Vote {
	var v []api.Vote
	for i, id := range append(names(bush()), beginning, api.ID{7, 7}) {
		v = append(v, api.Vote{From: i, Slot: i, Head: id})
	}
	return v
}

// crowd has votes of some for several heads, on one branch and on several ones, some of them twice, some for what is not known, and some of who is no validator.
func crowd() []api.Vote {
	n := names(bush())
	return []api.Vote{
		{From: 3, Slot: 9, Head: n[8]}, {From: 0, Slot: 2, Head: n[0]}, {From: 1, Slot: 3, Head: n[4]}, {From: 3, Slot: 9, Head: n[6]},
		{From: 2, Slot: 4, Head: n[5]}, {From: 1, Slot: 3, Head: n[4]}, {From: 2, Slot: 5, Head: n[9]}, {From: 4, Slot: 1},
		{From: -1, Slot: 3, Head: n[8]}, {From: 4, Slot: 1, Head: api.ID{7, 7}}, {From: 5, Slot: 1, Head: api.ID{7, 7}}, {From: 12, Slot: 3, Head: n[1]},
		{From: 0, Slot: 2, Head: n[7]}, {From: 6, Slot: 8, Head: n[3]}, {From: 6, Slot: 9}, {From: 3, Slot: 3, Head: n[2]},
	}
}

// ballots is a vote of each for each of the heads, in turn from the validator 0 on.
func ballots(heads ...api.ID) []api.Vote {
	var v []api.Vote
	for who, head := range heads {
		v = append(v, api.Vote{From: who, Slot: 20, Head: head})
	}
	return v
}

// alike are n blocks on parent whose names have the same in one of their two words, and differ in the other one alone: the salt undoes in that word what From does to it.
func alike(word, slot, n int, parent api.ID) []api.Block {
	turn := [2]uint64{0, top}[word]
	mixed := func(from int) uint64 {
		h := uint64(word + 1)
		for _, x := range []uint64{1, uint64(slot), uint64(from), parent[0], parent[1]} {
			h = mix.Step(h, x^turn)
		}
		return h
	}
	var l []api.Block
	for from := range n {
		l = append(l, api.Block{Slot: slot, From: from, Parent: parent, Salt: mixed(0) ^ mixed(from)})
	}
	return l
}

// orders are all lists of the numbers below n, each once.
func orders(n int) [][]int {
	all := [][]int{nil}
	for i := range n {
		var more [][]int
		for _, order := range all {
			for at := range i + 1 {
				more = append(more, slices.Insert(slices.Clone(order), at, i))
			}
		}
		all = more
	}
	return all
}

func inOrder(l []api.Block, order []int) []api.Block {
	var m []api.Block
	for _, i := range order {
		m = append(m, l[i])
	}
	return m
}

// shuffled is l in another order, in which each block is still behind its parent.
func shuffled(l []api.Block, seed uint64) []api.Block {
	var m []api.Block
	left := slices.Clone(l)
	for turn := uint64(0); len(left) > 0; turn++ {
		i := int(mix.Step(seed, turn) % uint64(len(left)))
		if tree.May(append(slices.Clone(m), left[i])) {
			m = append(m, left[i])
			left = slices.Delete(left, i, i+1)
		}
	}
	return m
}

// P9.1, P9.2: the chapter's example, and that of the document: without votes the one of the greater name, and with one for the other that.
func TestExample(t *testing.T) {
	c := conf(1)
	for salt := range uint64(50) {
		x, y := api.Block{Slot: 1, Salt: salt}, api.Block{Slot: 1, Salt: salt + 1}
		if greater(tree.Name(x), tree.Name(y)) {
			x, y = y, x
		}
		lesser, more := tree.Name(x), tree.Name(y)
		for _, l := range [][]api.Block{{x, y}, {y, x}} {
			if got := ghost.Head(c, l, nil); got != more {
				t.Errorf("%v: without votes the head is %x", l, got)
			}
			if got, is := ghost.Best(c, l, nil, beginning); got != more || !is {
				t.Errorf("%v: without votes the best is %x, %t", l, got, is)
			}
			if got := ghost.Head(c, l, ballots(lesser)); got != lesser {
				t.Errorf("%v: with a vote for the lesser one the head is %x", l, got)
			}
			if got, is := ghost.Best(c, l, ballots(lesser), beginning); got != lesser || !is {
				t.Errorf("%v: with a vote for the lesser one the best is %x, %t", l, got, is)
			}
		}
	}
}

// P9.1, P9.2: votes for blocks at each height, for the beginning and for what is not known, and votes of some for several heads, written out.
func TestWritten(t *testing.T) {
	l := bush()
	n := names(l)
	const none = -1
	for _, x := range []struct {
		c     api.Conf
		v     []api.Vote
		first int
		best  []int
		head  int
	}{
		{conf(12), spread(), 0, []int{9, 6, 5, none, none, none, 8, none, none, none}, 9},
		{conf(9), spread(), 0, []int{1, 6, 5, none, none, none, 8, none, none, none}, 8},
		{conf(8), spread()[:8], 7, []int{1, 6, 5, none, none, none, 8, none, none, none}, 7},
		{conf(7), spread(), 0, []int{1, 6, 5, none, none, none, 8, none, none, none}, 8},
		{conf(6), spread(), 2, []int{1, 4, 5, none, none, none, 8, none, none, none}, 5},
		{conf(5), spread(), 0, []int{1, 4, 5, none, none, none, 8, none, none, none}, 4},
		{conf(7), crowd(), 0, []int{3, 6, 5, none, none, none, 8, none, none, none}, 3},
	} {
		if got, is := ghost.Best(x.c, l, x.v, beginning); got != n[x.first] || !is {
			t.Errorf("of %d: the best on the beginning is %x, %t", len(x.c.W), got, is)
		}
		for i, best := range x.best {
			if best == none {
				checkNone(t, x.c, l, x.v, n[i])
			} else if got, is := ghost.Best(x.c, l, x.v, n[i]); got != n[best] || !is {
				t.Errorf("of %d: the best on %d is %x, %t", len(x.c.W), i, got, is)
			}
		}
		if got := ghost.Head(x.c, l, x.v); got != n[x.head] {
			t.Errorf("of %d: the head is %x", len(x.c.W), got)
		}
		check(t, x.c, l, x.v, ids(l))
	}
}

// P9.2: one vote for a block brings the head to what stands on it, at each height.
func TestEachHeight(t *testing.T) {
	for salt := range uint64(20) {
		l := salted(salt*100, -1, 0, -1, 0, 1, 2, 1, -1, 6, 0)
		for who := range 12 {
			for _, id := range names(l) {
				v := []api.Vote{{From: who, Slot: 3, Head: id}}
				head := ghost.Head(conf(12), l, v)
				if !tree.Under(l, id, head) {
					t.Errorf("a vote of %d for %x, and the head is %x", who, id, head)
				}
				if len(tree.Kids(l, id)) == 0 && head != id {
					t.Errorf("a vote of %d for the top %x, and the head is %x", who, id, head)
				}
			}
		}
	}
}

// P9.1, P9.2: without blocks nothing is best, and the head is the beginning, whatever is voted for.
func TestNoBlocks(t *testing.T) {
	for _, l := range [][]api.Block{nil, {}} {
		for _, v := range [][]api.Vote{nil, {}, spread(), crowd(), ballots(beginning)} {
			for _, c := range []api.Conf{{}, conf(1), conf(12)} {
				for _, id := range ids(bush()) {
					checkNone(t, c, l, v, id)
				}
				if got := ghost.Head(c, l, v); got != beginning {
					t.Errorf("%v: the head is %x", v, got)
				}
			}
		}
	}
}

// P9.1, P9.2: one block on the beginning is best and the head, with and without votes, whatever they are for.
func TestOneBlock(t *testing.T) {
	for _, b := range []api.Block{{Slot: 1}, {Slot: 1 << 20, From: 11, Salt: top}, {Slot: math.MaxInt, From: -1}} {
		l, name := []api.Block{b}, tree.Name(b)
		for _, v := range [][]api.Vote{nil, {}, ballots(name), ballots(beginning), ballots(api.ID{7, 7}), ballots(name, beginning, api.ID{7, 7})} {
			for _, c := range []api.Conf{{}, conf(1), conf(12), even(3, 0)} {
				if got, is := ghost.Best(c, l, v, beginning); got != name || !is {
					t.Errorf("%v, %v: the best is %x, %t", b, v, got, is)
				}
				checkNone(t, c, l, v, name)
				if got := ghost.Head(c, l, v); got != name {
					t.Errorf("%v, %v: the head is %x", b, v, got)
				}
			}
		}
	}
}

// P9.1, P9.2: without votes the greatest name is best, at each fork.
func TestNoVotes(t *testing.T) {
	for salt := range uint64(20) {
		l := salted(salt*100, -1, 0, -1, 0, 1, 2, 1, -1, 6, 0)
		for _, v := range [][]api.Vote{nil, {}} {
			for _, id := range known(l) {
				if kids := tree.Kids(l, id); len(kids) > 0 {
					if got, is := ghost.Best(conf(12), l, v, id); got != greatest(kids) || !is {
						t.Errorf("of %x the best is %x, %t", kids, got, is)
					}
				}
			}
			check(t, conf(12), l, v, ids(l))
		}
	}
}

// P9.1: noughts and false of an ID on which nothing stands, and of one that is of no block, also where votes are for just that.
func TestNothingStandsOn(t *testing.T) {
	for _, l := range [][]api.Block{line(1), line(4), bush()} {
		var tops []api.ID
		for _, id := range names(l) {
			if len(tree.Kids(l, id)) == 0 {
				tops = append(tops, id)
			}
		}
		for _, id := range append(tops, unknown(l)...) {
			for _, v := range [][]api.Vote{nil, spread(), crowd(), ballots(id), ballots(slices.Repeat([]api.ID{id}, 12)...)} {
				checkNone(t, conf(12), l, v, id)
			}
		}
	}
}

// P9.1, P9.2: blocks that are left out stand on nothing, and take no weight off others, nor a fork from them.
func TestBlocksLeftOut(t *testing.T) {
	whole := bush()
	for n := range whole {
		l := whole[:n]
		for _, v := range [][]api.Vote{nil, spread(), crowd()} {
			check(t, conf(12), l, v, known(whole))
			for _, id := range names(whole)[n:] {
				checkNone(t, conf(12), l, v, id)
			}
		}
	}
}

// checkGreatest holds that of kids, which weigh the same and on which nothing stands, the one of the greatest name is best on id and the head, in all orders. What is below them is given ahead of them.
func checkGreatest(t *testing.T, c api.Conf, below, kids []api.Block, v []api.Vote, id api.ID) {
	t.Helper()
	want := greatest(names(kids))
	for _, order := range orders(len(kids)) {
		l := append(slices.Clone(below), inOrder(kids, order)...)
		if !tree.May(l) {
			t.Fatalf("%v may not be", l)
		}
		if got, is := ghost.Best(c, l, v, id); got != want || !is {
			t.Errorf("%v, %v: the best is %x, %t, not %x", l, v, got, is, want)
		}
		if got := ghost.Head(c, l, v); got != want {
			t.Errorf("%v, %v: the head is %x, not %x", l, v, got, want)
		}
	}
}

// kidSets are blocks on parent, side by side: with names of any kind, with such as differ in the second word alone, and in the first word alone.
func kidSets(slot int, parent api.ID) [][]api.Block {
	var all [][]api.Block
	for n := 2; n <= 5; n++ {
		for salt := range uint64(5) {
			var l []api.Block
			for i := range n {
				l = append(l, api.Block{Slot: slot, From: i, Parent: parent, Salt: salt})
			}
			all = append(all, l)
		}
		all = append(all, alike(0, slot, n, parent), alike(1, slot, n, parent))
	}
	return all
}

// P9.1: that names differ in one word alone is so, and the order in the list, and of the other word, tells nothing of it.
func TestAlike(t *testing.T) {
	for word := range 2 {
		n := names(alike(word, 3, 12, api.ID{5, 9}))
		for i, a := range n {
			for _, b := range n[:i] {
				if a[word] != b[word] || a[1-word] == b[1-word] {
					t.Errorf("in the word %d: %x and %x", word, a, b)
				}
			}
		}
		if slices.IsSortedFunc(n, func(a, b api.ID) int { return slices.Compare(a[:], b[:]) }) {
			t.Errorf("in the word %d: they rise", word)
		}
	}
}

// P9.1, P9.2: of two, three and more that weigh the same the one of the greatest name, in whatever order they stand, on the beginning and on a block.
func TestGreatestName(t *testing.T) {
	base := line(3)
	for _, x := range []struct {
		below []api.Block
		id    api.ID
	}{{nil, beginning}, {base[:1], tree.Name(base[0])}, {base, tree.Name(base[2])}} {
		for _, kids := range kidSets(9, x.id) {
			n := names(kids)
			each := ballots(n...)
			twice := slices.Concat(each, each)
			lower := ballots(slices.Repeat([]api.ID{x.id}, 5)...)
			checkGreatest(t, conf(5), x.below, kids, nil, x.id)
			checkGreatest(t, conf(5), x.below, kids, lower, x.id)
			checkGreatest(t, even(5, 1), x.below, kids, each, x.id)
			checkGreatest(t, even(5, heavy), x.below, kids, twice, x.id)
			checkGreatest(t, even(5, 0), x.below, kids, each, x.id)
			var all []api.Vote
			for _, id := range n {
				all = append(all, ballots(slices.Repeat([]api.ID{id}, 5)...)...)
			}
			checkGreatest(t, conf(5), x.below, kids, all, x.id)
		}
	}
}

// P9.1, P9.2: of several best ones the greatest name, of those alone, though a lighter one's is greater.
func TestGreatestOfTheBest(t *testing.T) {
	for _, kids := range kidSets(9, beginning) {
		n := names(kids)
		for set := 1; set < 1<<len(kids); set++ {
			var some []api.ID
			for i, id := range n {
				if set>>i&1 == 1 {
					some = append(some, id)
				}
			}
			v := ballots(some...)
			back := slices.Clone(kids)
			slices.Reverse(back)
			for _, l := range [][]api.Block{kids, back} {
				if got, is := ghost.Best(even(5, 3), l, v, beginning); got != greatest(some) || !is {
					t.Errorf("%v: of %x the best is %x, %t", l, some, got, is)
				}
				if got := ghost.Head(even(5, 3), l, v); got != greatest(some) {
					t.Errorf("%v: of %x the head is %x", l, some, got)
				}
			}
		}
	}
}

// P9.1: names above and below 2^63 in either word stand in order as what they are.
func TestHighNames(t *testing.T) {
	seen := map[[4]bool]int{}
	for salt := range uint64(300) {
		l := []api.Block{{Slot: 1, Salt: 2 * salt}, {Slot: 1, Salt: 2*salt + 1}}
		n := names(l)
		seen[[4]bool{n[0][0]>>63 == 1, n[0][1]>>63 == 1, n[1][0]>>63 == 1, n[1][1]>>63 == 1}]++
		checkGreatest(t, conf(2), nil, l, nil, beginning)
		for word := range 2 {
			checkGreatest(t, conf(2), nil, alike(word, int(salt)+1, 2, beginning), nil, beginning)
		}
	}
	if len(seen) != 16 {
		t.Errorf("only %d kinds of names were held", len(seen))
	}
}

// P9.1, P9.2: one unit more is enough, also for the least name, and also of the greatest weights.
func TestOneUnitMore(t *testing.T) {
	for _, kids := range kidSets(9, beginning) {
		n := names(kids)
		for _, w := range []int{1, 2, heavy} {
			for i, id := range n {
				c := even(5, w-1)
				c.W[i] = w
				if got, is := ghost.Best(c, kids, ballots(n...), beginning); got != id || !is {
					t.Errorf("%v: the best of %x is %x, %t, not %x", c.W, n, got, is, id)
				}
				if got := ghost.Head(c, kids, ballots(n...)); got != id {
					t.Errorf("%v: the head of %x is %x, not %x", c.W, n, got, id)
				}
			}
		}
		low := least(n)
		many := append(slices.Repeat([]api.ID{greatest(n)}, 2), slices.Repeat([]api.ID{low}, 3)...)
		if got := ghost.Head(even(5, 1), kids, ballots(many...)); got != low {
			t.Errorf("three of five: the head is %x, not %x", got, low)
		}
	}
}

// P9.1, P9.2: what is on a branch counts where the branch begins, though the branch's blocks are each lighter than one that stands alone.
func TestBranchCounts(t *testing.T) {
	for salt := range uint64(20) {
		l := salted(salt*100, -1, -1, 0, 0, 0)
		n := names(l)
		v := ballots(n[2], n[3], n[4], n[1], n[1])
		if got, is := ghost.Best(even(5, 1), l, v, beginning); got != n[0] || !is {
			t.Errorf("the best on the beginning is %x, %t", got, is)
		}
		if got := ghost.Head(even(5, 1), l, v); got != greatest(n[2:]) {
			t.Errorf("the head is %x, not the greatest of %x", got, n[2:])
		}
	}
}

// P9.1, P9.2: a block that is heavy itself draws the head to what stands on it, though nothing is for that.
func TestWeightBelow(t *testing.T) {
	for salt := range uint64(20) {
		l := salted(salt*100, -1, -1, 0, 2, 3)
		n := names(l)
		if got := ghost.Head(conf(3), l, ballots(n[1], n[1], n[0])); got != n[4] {
			t.Errorf("the head is %x", got)
		}
		if got := ghost.Head(conf(3), l, ballots(n[4], n[3], n[1])); got != n[1] {
			t.Errorf("the head is %x", got)
		}
	}
}

// P9.1, P9.2: votes for heads that are not known, and votes of who is no validator, change nothing; nor does what is there twice, nor the order of votes, nor their slots.
func TestVotesThatChangeNothing(t *testing.T) {
	c, l := conf(12), bush()
	for _, base := range [][]api.Vote{nil, spread(), crowd()} {
		far, others := slices.Clone(base), slices.Clone(base)
		for i, head := range unknown(l) {
			far = slices.Insert(far, i%(len(far)+1), api.Vote{From: i % 12, Slot: i, Head: head})
		}
		for i, who := range strangers(12) {
			for _, head := range known(l) {
				others = slices.Insert(others, i%(len(others)+1), api.Vote{From: who, Slot: i, Head: head})
			}
		}
		back, slots := slices.Clone(base), slices.Clone(base)
		slices.Reverse(back)
		for i := range slots {
			slots[i].Slot = []int{math.MinInt, -1, 0, math.MaxInt}[i%4]
		}
		on := weights(c, l, base)
		for why, v := range map[string][]api.Vote{"unknown heads": far, "no validators": others, "twice": slices.Concat(base, base), "turned": back, "slots": slots} {
			for _, id := range ids(l) {
				want, there := bestOf(on, l, id)
				if got, is := ghost.Best(c, l, v, id); got != want || is != there {
					t.Errorf("%s: the best on %x is %x, %t, not %x", why, id, got, is, want)
				}
			}
			if got, want := ghost.Head(c, l, v), headOf(on, l); got != want {
				t.Errorf("%s: the head is %x, not %x", why, got, want)
			}
		}
	}
}

// P9.1, P9.2: a vote of who is no validator, or for what is not known, does not outweigh the greatest name.
func TestVainVotes(t *testing.T) {
	l := grow(-1, -1, -1)
	low, high := least(names(l)), greatest(names(l))
	for n := 1; n <= 12; n++ {
		for _, who := range strangers(n) {
			v := []api.Vote{{From: who, Slot: 1, Head: low}}
			if got := ghost.Head(conf(n), l, v); got != high {
				t.Errorf("of %d: with a vote of %d the head is %x", n, who, got)
			}
			if got, is := ghost.Best(conf(n), l, v, beginning); got != high || !is {
				t.Errorf("of %d: with a vote of %d the best is %x, %t", n, who, got, is)
			}
		}
	}
	for _, id := range append(unknown(l), beginning) {
		if got := ghost.Head(conf(3), l, ballots(id, id, id)); got != high {
			t.Errorf("with votes for %x the head is %x", id, got)
		}
	}
}

// P9.1, P9.2: who has votes for several heads is for each of them once.
func TestSeveralHeads(t *testing.T) {
	for salt := range uint64(20) {
		l := salted(salt*100, -1, -1, -1)
		n := names(l)
		both := []api.Vote{{From: 0, Slot: 4, Head: n[0]}, {From: 0, Slot: 4, Head: n[1]}}
		if got := ghost.Head(conf(2), l, both); got != greatest(n[:2]) {
			t.Errorf("with votes for two of %x the head is %x", n, got)
		}
		more := append(both, api.Vote{From: 1, Slot: 4, Head: n[2]})
		if got := ghost.Head(conf(2), l, more); got != n[2] {
			t.Errorf("with a heavier one for the third of %x the head is %x", n, got)
		}
		often := append(slices.Repeat(both, 5), more...)
		if got := ghost.Head(conf(2), l, often); got != n[2] {
			t.Errorf("with votes there many times the head of %x is %x", n, got)
		}
	}
}

// wrongConfs are such as are beyond just one edge, by why they may not be.
func wrongConfs() map[string]api.Conf {
	all := map[string]api.Conf{"noughts": {}}
	add := func(why string, x int, change func(c *api.Conf)) {
		c := conf(5)
		change(&c)
		all[why+" "+strconv.Itoa(x)] = c
	}
	add("weights, nil", 0, func(c *api.Conf) { c.W = nil })
	for _, n := range []int{0, 13, 1000} {
		add("weights", n, func(c *api.Conf) { c.W = slices.Repeat([]int{1}, n) })
	}
	for _, w := range []int{-1, math.MinInt, heavy + 1, math.MaxInt} {
		for i := range 5 {
			add("the weight of "+strconv.Itoa(i), w, func(c *api.Conf) { c.W[i] = w })
		}
	}
	for _, x := range []int{0, -1, 9, math.MinInt, math.MaxInt} {
		add("Epoch", x, func(c *api.Conf) { c.Epoch = x })
	}
	for _, x := range []int{-1, 5, math.MinInt, math.MaxInt} {
		add("Num", x, func(c *api.Conf) { c.Num = x })
	}
	for _, x := range []int{0, -1, 1001, math.MinInt, math.MaxInt} {
		add("Num of 0, and Den", x, func(c *api.Conf) { c.Num, c.Den = 0, x })
	}
	return all
}

// wrongBlocks are such as may not be, by why; two of them were searched for: one block whose name is the beginning's, and two of one name.
func wrongBlocks() map[string][]api.Block {
	l := bush()
	child := api.Block{Slot: 2, Parent: tree.Name(l[0])}
	nameless := api.Block{Slot: 4386925562764349927, From: -6943071948554506534, Salt: 13775616248727150990}
	twins := []api.Block{{Slot: 3101226054416760429, From: 1}, {Slot: 4619033793057862324, Salt: 6655185758041175899}}
	return map[string][]api.Block{
		"a parent that is left out":  l[1:],
		"a parent behind":            append([]api.Block{l[1]}, l...),
		"turned round":               {child, l[0]},
		"one twice":                  append(bush(), l[3]),
		"one alone twice":            {l[0], l[0]},
		"a slot of 0":                append(bush(), api.Block{}),
		"a slot of 0 alone":          {{}},
		"a slot below 0":             append(bush(), api.Block{Slot: -1}),
		"a slot that does not rise":  append(bush(), api.Block{Slot: 1, Parent: tree.Name(l[0])}),
		"a slot that falls":          append(bush(), api.Block{Slot: 1, Parent: tree.Name(l[1])}),
		"a parent that is not known": append(bush(), api.Block{Slot: 50, Parent: api.ID{7, 7}}),
		"the beginning's name":       append(bush(), nameless),
		"the beginning's name alone": {nameless},
		"two of one name":            append(bush(), twins...),
		"two of one name alone":      twins,
	}
}

// P9.1, P9.2: of a conf that may not be nothing weighs, so that the greatest name is best at each fork.
func TestWrongConfs(t *testing.T) {
	l := bush()
	for why, c := range wrongConfs() {
		if duty.May(c) {
			t.Fatalf("%s may be", why)
		}
		for _, v := range [][]api.Vote{nil, spread(), crowd()} {
			for _, id := range known(l) {
				if kids := tree.Kids(l, id); len(kids) == 0 {
					checkNone(t, c, l, v, id)
				} else if got, is := ghost.Best(c, l, v, id); got != greatest(kids) || !is {
					t.Errorf("%s: of %x the best is %x, %t", why, kids, got, is)
				}
			}
			if got, want := ghost.Head(c, l, v), headOf(nil, l); got != want {
				t.Errorf("%s: the head is %x, not %x", why, got, want)
			}
		}
	}
}

// P9.1, P9.2, and P1: of blocks that may not be nothing is best, and the head is the beginning, with any conf.
func TestWrongBlocks(t *testing.T) {
	confs := wrongConfs()
	confs["right"] = conf(12)
	for why, l := range wrongBlocks() {
		if tree.May(l) {
			t.Fatalf("%s may be", why)
		}
		for conf, c := range confs {
			for _, v := range [][]api.Vote{nil, spread(), ballots(names(l)...)} {
				for _, id := range known(l) {
					checkNone(t, c, l, v, id)
				}
				if got := ghost.Head(c, l, v); got != beginning {
					t.Errorf("%s, %s: the head is %x", why, conf, got)
				}
			}
		}
		for _, id := range unknown(l) {
			checkNone(t, conf(12), l, spread(), id)
		}
	}
}

// P9.1, P9.2: confs on every edge of what may be; neither seed, epoch nor beta matters.
func TestRightConfs(t *testing.T) {
	l := bush()
	for _, seed := range []uint64{0, 1, 1 << 63, top} {
		for _, epoch := range []int{1, 2, 7, 8} {
			for _, beta := range [][2]int{{0, 1}, {1, 1}, {0, 1000}, {1000, 1000}, {1, 4}} {
				c := conf(12)
				c.Seed, c.Epoch, c.Num, c.Den = seed, epoch, beta[0], beta[1]
				check(t, c, l, spread(), known(l))
				if got, want := ghost.Head(c, l, spread()), names(l)[9]; got != want {
					t.Errorf("%v: the head is %x, not %x", c, got, want)
				}
			}
		}
	}
}

// P9.1, P9.2: weights of 0 add nothing: who has none does not outweigh a name, and who has one unit does.
func TestWeightsOfNought(t *testing.T) {
	for salt := range uint64(20) {
		l := salted(salt*100, -1, -1, 0, 0, 1, 1)
		n := names(l)
		for _, id := range n {
			v := ballots(slices.Repeat([]api.ID{id}, 12)...)
			if got, want := ghost.Head(even(12, 0), l, v), headOf(nil, l); got != want {
				t.Errorf("twelve noughts for %x: the head is %x, not %x", id, got, want)
			}
			c := even(12, 0)
			c.W[7] = 1
			if got := ghost.Head(c, l, v); !tree.Under(l, id, got) {
				t.Errorf("one unit for %x: the head is %x", id, got)
			}
		}
	}
}

// P9.1, P9.2: all trees of up to four blocks, of several names, with all lists of up to two votes.
func TestSmall(t *testing.T) {
	trees := [][]int{{}, {-1}}
	for p := range 2 {
		trees = append(trees, []int{-1, p - 1})
		for q := range 3 {
			trees = append(trees, []int{-1, p - 1, q - 1})
			for r := range 4 {
				trees = append(trees, []int{-1, p - 1, q - 1, r - 1})
			}
		}
	}
	for _, parents := range trees {
		for salt := range uint64(3) {
			l := salted(salt*10, parents...)
			asked := append(known(l), api.ID{7, 7})
			var v []api.Vote
			for who := range 3 {
				for _, head := range asked {
					v = append(v, api.Vote{From: who, Slot: 4, Head: head})
				}
			}
			check(t, even(2, 1), l, nil, asked)
			for i, x := range v {
				check(t, even(2, 1), l, []api.Vote{x}, asked)
				for _, y := range v[:i+1] {
					check(t, even(2, 1), l, []api.Vote{x, y}, asked)
					check(t, conf(2), l, []api.Vote{y, x}, asked)
				}
			}
		}
	}
}

// P9.1, P9.2: blocks that differ in their salt alone are told from each other.
func TestSaltAlone(t *testing.T) {
	var l []api.Block
	for i := range 12 {
		l = append(l, api.Block{Slot: 1, Salt: uint64(i)})
	}
	for i, id := range names(l) {
		if got := ghost.Head(conf(12), l, []api.Vote{{From: i, Slot: 1, Head: id}}); got != id {
			t.Errorf("with a vote for %x the head is %x", id, got)
		}
	}
}

// P9.1, P9.2: in whatever order blocks stand that may be, the same ones are best, at each fork, with ties and without.
func TestOrderOfBlocks(t *testing.T) {
	for _, l := range [][]api.Block{bush(), ladder(12), grow(-1, -1, -1, 0, 0, 0, 1, 1, 1, 2, 2, 2), append(grow(-1, 0, 0), alike(0, 9, 5, tree.Name(grow(-1)[0]))...)} {
		n := names(l)
		for _, v := range [][]api.Vote{nil, spread(), crowd(), ballots(n[2], n[3], n[1]), ballots(n...)} {
			for _, c := range []api.Conf{conf(12), even(12, 1)} {
				on := weights(c, l, v)
				for seed := range uint64(20) {
					m := shuffled(l, seed)
					for _, id := range known(l) {
						want, there := bestOf(on, l, id)
						if got, is := ghost.Best(c, m, v, id); got != want || is != there {
							t.Errorf("%v, %v: the best on %x is %x, %t, not %x", m, v, id, got, is, want)
						}
					}
					if got, want := ghost.Head(c, m, v), headOf(on, l); got != want {
						t.Errorf("%v, %v: the head is %x, not %x", m, v, got, want)
					}
				}
			}
		}
	}
}

// P9.2: the head is come to by Best, from the beginning on.
func TestHeadByBest(t *testing.T) {
	for salt := range uint64(20) {
		l := salted(salt*100, -1, 0, -1, 0, 1, 2, 1, -1, 6, 0)
		for i := range l {
			for _, c := range []api.Conf{{}, conf(12), even(12, 1)} {
				v := ballots(names(l)[i:]...)
				want := beginning
				for range l {
					if next, is := ghost.Best(c, l, v, want); is {
						want = next
					}
				}
				if got := ghost.Head(c, l, v); got != want {
					t.Errorf("%v, %v: the head is %x, but by Best %x", l, v, got, want)
				}
			}
		}
	}
}

// P9.1, P9.2: as many blocks and votes as the limits let be, in a line, side by side, and in forks.
func TestFullView(t *testing.T) {
	fork := shape(api.MaxBlocks, func(i int) int { return (i+1)/2 - 1 })
	for _, l := range [][]api.Block{line(api.MaxBlocks), star(api.MaxBlocks), ladder(api.MaxBlocks), fork} {
		n := known(l)
		for turn := range 2 {
			var v []api.Vote
			for i := range api.MaxVotes {
				v = append(v, api.Vote{From: (i*5 + turn) % 14, Slot: i, Head: n[(i*i+turn*i)%len(n)]})
			}
			for _, c := range []api.Conf{conf(12), even(12, heavy), even(12, 1)} {
				check(t, c, l, v, n)
				check(t, c, l, v[:12], n)
				check(t, c, l, nil, n)
			}
		}
	}
}

// P9.1, P9.2, and P1: a long line, and two of them on the beginning, are gone along in good time.
func TestLongLines(t *testing.T) {
	const high = 1 << 14
	l := line(high)
	n := names(l)
	for _, v := range [][]api.Vote{nil, ballots(n[5], n[high-1], n[high/2])} {
		if got := ghost.Head(conf(3), l, v); got != n[high-1] {
			t.Errorf("the head of a line is %x", got)
		}
		for _, i := range []int{0, 1, high / 2, high - 2} {
			if got, is := ghost.Best(conf(3), l, v, n[i]); got != n[i+1] || !is {
				t.Errorf("the best on %d is %x, %t", i, got, is)
			}
		}
		checkNone(t, conf(3), l, v, n[high-1])
	}
	l = shape(high, func(i int) int { return max(i-2, -1) })
	n = names(l)
	ends := map[api.ID]api.ID{n[0]: n[high-2], n[1]: n[high-1]}
	if got := ghost.Head(conf(3), l, nil); got != ends[greatest(n[:2])] {
		t.Errorf("without votes the head of two lines is %x", got)
	}
	for i := range 2 {
		for _, at := range []int{i, i + high/2, i + high - 2} {
			if got := ghost.Head(conf(3), l, ballots(n[1-i], n[1-i], n[at])); got != n[high-2+i] {
				t.Errorf("with the heaviest vote at %d the head is %x", at, got)
			}
		}
	}
}

// P9.1, P9.2, and P1: far more blocks side by side, and far more votes, than a view may have.
func TestFarMore(t *testing.T) {
	const wide, many = 500, 1 << 16
	l := star(wide)
	n := names(l)
	if got := ghost.Head(conf(12), l, nil); got != greatest(n) {
		t.Errorf("without votes the head is %x", got)
	}
	if got, is := ghost.Best(conf(12), l, ballots(n[:12]...), beginning); got != n[11] || !is {
		t.Errorf("with twelve votes the best is %x, %t", got, is)
	}
	var v []api.Vote
	for i := range many {
		v = append(v, api.Vote{From: 12 + i, Slot: i, Head: n[i%10]}, api.Vote{From: i % 12, Slot: i, Head: n[i%12]})
	}
	if got := ghost.Head(conf(12), l[:20], v); got != n[11] {
		t.Errorf("with %d votes the head is %x", len(v), got)
	}
}

// oneEach calls f with each way in which three validators may have one vote each, or none, for the bush, the beginning, or what is not known.
func oneEach(l []api.Block, f func(v []api.Vote)) {
	heads := append(known(l), api.ID{7, 7})
	for i := range len(heads) * len(heads) * len(heads) {
		v := ballots(heads[i%len(heads)], heads[i/len(heads)%len(heads)], heads[i/len(heads)/len(heads)])
		f(v)
		if i%5 == 0 {
			f(v[:2])
		}
	}
}

// threes are confs of three: of weights that are the same, that differ, that two outweigh, and that are noughts.
func threes() []api.Conf {
	var all []api.Conf
	for _, w := range [][]int{{1, 1, 1}, {1, 2, 4}, {5, 3, 3}, {heavy, heavy, heavy - 1}, {0, 0, 1}, {0, 0, 0}} {
		c := conf(3)
		c.W = w
		all = append(all, c)
	}
	return all
}

// P9.3: the head is a block that nothing stands on; without blocks, or with such as may not be, the beginning.
func TestHeadIsATop(t *testing.T) {
	l := bush()
	for _, c := range append(threes(), api.Conf{}) {
		oneEach(l, func(v []api.Vote) {
			head := ghost.Head(c, l, v)
			if i := tree.Find(l, head); i < 0 || slices.ContainsFunc(l, func(b api.Block) bool { return b.Parent == head }) {
				t.Fatalf("%v: the head is %x, at %d", v, head, i)
			}
			checkNone(t, c, l, v, head)
		})
	}
}

// P9.3, P2: where each has one vote, a block that more than a half of all that votes weigh is on is under the head.
func TestMoreThanHalf(t *testing.T) {
	l := bush()
	held := 0
	holds := func(c api.Conf, v []api.Vote) {
		head, all := ghost.Head(c, l, v), weigh.All(c, l, v)
		for _, id := range names(l) {
			if 2*weigh.On(c, l, v, id) > all {
				held++
				if !tree.Under(l, id, head) {
					t.Errorf("%v, %v: more than a half is on %x, but the head is %x", c.W, v, id, head)
				}
			}
		}
	}
	for _, c := range threes() {
		oneEach(l, func(v []api.Vote) { holds(c, v) })
	}
	for n := 1; n <= 12; n++ {
		holds(conf(n), spread())
		holds(even(n, heavy), spread())
	}
	if held < 5000 {
		t.Errorf("only %d were held", held)
	}
}

// P9.3: a half is not enough, and of who has several votes more than a half may be on two branches, of which the head is just one.
func TestNoMoreThanHalf(t *testing.T) {
	for salt := range uint64(20) {
		l := salted(salt*100, -1, -1)
		n := names(l)
		for _, v := range [][]api.Vote{ballots(n...), {{From: 0, Slot: 4, Head: n[0]}, {From: 0, Slot: 4, Head: n[1]}}} {
			if got := ghost.Head(even(2, 1), l, v); got != greatest(n) {
				t.Errorf("%v: the head is %x", v, got)
			}
		}
	}
}

// P9.3: one more block on the head is the head, wherever it stands behind that, whatever it is, and also if votes were for it already.
func TestOneMoreBlock(t *testing.T) {
	for salt := range uint64(5) {
		l := salted(salt*100, -1, 0, -1, 0, 1, 2, 1, -1, 6, 0)
		n := names(l)
		for _, c := range []api.Conf{{}, conf(12), even(12, 1), even(12, 0)} {
			for _, v := range [][]api.Vote{nil, spread(), crowd(), ballots(n[2:]...), ballots(n[7], n[4], n[5], n[5])} {
				head := ghost.Head(c, l, v)
				for more := range uint64(4) {
					b := api.Block{Slot: 50 + int(more), From: 3, Parent: head, Salt: more}
					name := tree.Name(b)
					for at := tree.Find(l, head) + 1; at <= len(l); at++ {
						m := slices.Insert(slices.Clone(l), at, b)
						for _, x := range [][]api.Vote{v, append(slices.Clone(v), api.Vote{From: 2, Slot: 60, Head: name})} {
							if got := ghost.Head(c, m, x); got != name {
								t.Errorf("%v, %v: on the head %x stands %x, but the head is %x", m, x, head, name, got)
							}
						}
						if got, is := ghost.Best(c, m, v, head); got != name || !is {
							t.Errorf("%v: on the head the best is %x, %t", m, got, is)
						}
					}
				}
			}
		}
	}
	b := api.Block{Slot: 1, Salt: 9}
	if got := ghost.Head(conf(3), []api.Block{b}, nil); got != tree.Name(b) {
		t.Errorf("on the beginning alone the head is %x", got)
	}
}

// R3: what is handed in stays as it was, also behind the end of a list.
func TestHandedInStays(t *testing.T) {
	c, l, v := conf(12), bush(), crowd()
	for n := range len(v) + 1 {
		for m := range len(l) + 1 {
			short := c
			short.W = c.W[:m+1]
			for _, id := range known(l) {
				ghost.Best(short, l[:m], v[:n], id)
			}
			ghost.Head(short, l[:m], v[:n])
		}
	}
	for _, wrong := range wrongBlocks() {
		kept := slices.Clone(wrong)
		ghost.Best(c, wrong, v, beginning)
		ghost.Head(c, wrong, v)
		if !slices.Equal(wrong, kept) {
			t.Errorf("%v became %v", kept, wrong)
		}
	}
	if !slices.Equal(c.W, conf(12).W) || !slices.Equal(l, bush()) || !slices.Equal(v, crowd()) {
		t.Errorf("they became %v, %v, %v", c, l, v)
	}
}

// R5: nothing hangs on what was asked before, or by whom at the same time.
func TestManyAsk(t *testing.T) {
	c, l, v := conf(7), bush(), crowd()
	var all sync.WaitGroup
	for i := range 8 {
		all.Go(func() {
			for k := range 20 {
				check(t, c, l[:len(l)-(i+k)%3], v[(i*k)%len(v):], known(l))
			}
		})
	}
	all.Wait()
}
