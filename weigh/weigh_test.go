package weigh_test

import (
	"math"
	"slices"
	"strconv"
	"sync"
	"testing"

	"marigold/api"
	"marigold/duty"
	"marigold/tree"
	"marigold/weigh"
)

const (
	top   = 1<<64 - 1
	heavy = 1 << 40
)

// beginning is spelt out here once more, as the document has it.
var beginning = api.ID{0, 0}

// onOf says the same as P8.1, validator by validator and vote by vote.
func onOf(c api.Conf, l []api.Block, v []api.Vote, id api.ID) int {
	if !duty.May(c) || !tree.May(l) {
		return 0
	}
	sum := 0
	for who, w := range c.W {
		if slices.ContainsFunc(v, func(x api.Vote) bool { return x.From == who && tree.Under(l, id, x.Head) }) {
			sum += w
		}
	}
	return sum
}

// check holds both calls against a plain going through validators and votes, at each of the IDs.
func check(t *testing.T, c api.Conf, l []api.Block, v []api.Vote, asked []api.ID) {
	t.Helper()
	for _, id := range asked {
		if got, want := weigh.On(c, l, v, id), onOf(c, l, v, id); got != want {
			t.Errorf("%v, %v, %v: on %x is %d, not %d", c, l, v, id, got, want)
		}
	}
	if got, want := weigh.All(c, l, v), onOf(c, l, v, beginning); got != want {
		t.Errorf("%v, %v, %v: all is %d, not %d", c, l, v, got, want)
	}
}

// conf has n weights, so that no two sets of validators weigh the same.
func conf(n int) api.Conf {
	c := api.Conf{Seed: 7, Epoch: 2, Num: 1, Den: 4}
	for i := range n {
		c.W = append(c.W, 1<<i)
	}
	return c
}

// grow makes blocks by where their parents are (-1: on the beginning), of slots that rise.
func grow(parents ...int) []api.Block {
	var l []api.Block
	for i, p := range parents {
		b := api.Block{Slot: i + 1, From: i % 12, Salt: uint64(i)}
		if p >= 0 {
			b.Parent = tree.Name(l[p])
		}
		l = append(l, b)
	}
	return l
}

// bush has forks at several heights, and three blocks on the beginning.
func bush() []api.Block {
	return grow(-1, 0, -1, 0, 1, 2, 1, -1, 6, 0)
}

// line is n blocks, each on the one ahead of it.
func line(n int) []api.Block {
	parents := make([]int, n)
	for i := range parents {
		parents[i] = i - 1
	}
	return grow(parents...)
}

// names are those of all blocks, in order.
func names(l []api.Block) []api.ID {
	var all []api.ID
	for _, b := range l {
		all = append(all, tree.Name(b))
	}
	return all
}

// known are the beginning and all names.
func known(l []api.Block) []api.ID {
	return append([]api.ID{beginning}, names(l)...)
}

// unknown are neither the beginning nor a name of any block here; the last ones differ from these in a word or a bit.
func unknown(l []api.Block) []api.ID {
	all := []api.ID{{0, 1}, {1, 0}, {7, 7}, {0, top}, {top, 0}, {top, top}, {1 << 63, 1 << 63}, tree.Name(api.Block{Slot: 999, From: 999})}
	for _, x := range names(l) {
		all = append(all, api.ID{x[1], x[0]}, api.ID{x[0], 0}, api.ID{0, x[1]}, api.ID{x[0], x[1] ^ 1}, api.ID{x[0] ^ 1<<63, x[1]})
	}
	return all
}

func ids(l []api.Block) []api.ID {
	return append(known(l), unknown(l)...)
}

// strangers are no validators of n; some would be, as a remainder by n, or cut to four bytes or to one.
func strangers(n int) []int {
	return []int{-1, -2, -n, -n - 1, -12, -256, n, n + 1, 2*n - 1, 2 * n, 256, 1000, 1 << 31, 1 << 32, 1<<32 + n - 1, -1 << 32,
		math.MinInt, math.MinInt + 1, math.MaxInt - 1, math.MaxInt}
}

// numbers are edges: of slots, and of whole numbers.
func numbers() []int {
	return []int{math.MinInt, -1 << 32, -1, 0, 1, 2, 12, 1 << 20, 1<<20 + 1, 1 << 32, 1 << 62, math.MaxInt - 1, math.MaxInt}
}

// spread is a vote of each of twelve: of 0 to 9 for the blocks of the bush, of 10 for the beginning, of 11 for what is not known.
func spread() []api.Vote {
	var v []api.Vote
	for i, id := range append(names(bush()), beginning, api.ID{7, 7}) {
		v = append(v, api.Vote{From: i, Slot: i, Head: id})
	}
	return v
}

// crowd has votes of some for several heads, on one branch and on several ones, some of them twice, some for what is not known, and some of who is no validator.
func crowd() []api.Vote {
	n := names(bush())
	return []api.Vote{
		{From: 3, Slot: 9, Head: n[8]}, {From: 0, Slot: 2, Head: n[0]}, {From: 1, Slot: 3, Head: n[4]}, {From: 3, Slot: 9, Head: n[6]},
		{From: 2, Slot: 4, Head: n[5]}, {From: 1, Slot: 3, Head: n[4]}, {From: 2, Slot: 5, Head: n[9]}, {From: 4, Slot: 1},
		{From: -1, Slot: 3, Head: n[8]}, {From: 4, Slot: 1, Head: api.ID{7, 7}}, {From: 5, Slot: 1, Head: api.ID{7, 7}}, {From: 12, Slot: 3, Head: n[1]},
		{From: 0, Slot: 2, Head: n[7]}, {From: 6, Slot: 8, Head: n[3]}, {From: 6, Slot: 9}, {From: 3, Slot: 3, Head: n[2]},
	}
}

// P8.1: the chapter's example.
func TestExample(t *testing.T) {
	c := api.Conf{W: []int{1, 2, 4}, Epoch: 1, Den: 1}
	l := line(2)
	n := names(l)
	v := []api.Vote{{From: 1, Slot: 3, Head: n[0]}, {From: 2, Slot: 3, Head: n[1]}}
	if got := weigh.On(c, l, v, n[0]); got != 6 {
		t.Errorf("on the block is %d", got)
	}
	if got := weigh.On(c, l, v, n[1]); got != 4 {
		t.Errorf("on its child is %d", got)
	}
	if got := weigh.All(c, l, v); got != 6 {
		t.Errorf("all is %d", got)
	}
}

// P8.1: votes for blocks at each height, for the beginning and for what is not known, written out.
func TestEachHeight(t *testing.T) {
	c, l, v := conf(12), bush(), spread()
	n := names(l)
	for i, want := range []int{1 + 338 + 8 + 512, 2 + 16 + 320, 4 + 32, 8, 16, 32, 64 + 256, 128, 256, 512} {
		if got := weigh.On(c, l, v, n[i]); got != want {
			t.Errorf("on block %d is %d, not %d", i, got, want)
		}
	}
	if got := weigh.On(c, l, v, beginning); got != 2047 {
		t.Errorf("on the beginning is %d", got)
	}
	if got := weigh.All(c, l, v); got != 2047 {
		t.Errorf("all is %d", got)
	}
	check(t, c, l, v, ids(l))
}

// P8.1: some with votes for several heads, and wrong ones among them, written out.
func TestCrowd(t *testing.T) {
	c, l, v := conf(7), bush(), crowd()
	n := names(l)
	for i, want := range []int{1 + 2 + 4 + 8 + 64, 2 + 8, 4 + 8, 64, 2, 4, 8, 1, 8, 4} {
		if got := weigh.On(c, l, v, n[i]); got != want {
			t.Errorf("on block %d is %d, not %d", i, got, want)
		}
	}
	if got := weigh.All(c, l, v); got != 127-32 {
		t.Errorf("all is %d", got)
	}
	check(t, c, l, v, ids(l))
}

// P8.1: without blocks there is the beginning, and what is for it counts.
func TestNoBlocks(t *testing.T) {
	c := conf(4)
	v := []api.Vote{{From: 1, Slot: 1}, {From: 3, Slot: 2}, {From: 0, Slot: 1, Head: api.ID{7, 7}}, {From: 2, Slot: 1, Head: tree.Name(api.Block{Slot: 1})}}
	for _, l := range [][]api.Block{nil, {}} {
		if got := weigh.On(c, l, v, beginning); got != 10 {
			t.Errorf("on the beginning is %d", got)
		}
		if got := weigh.All(c, l, v); got != 10 {
			t.Errorf("all is %d", got)
		}
		for _, id := range append(unknown(nil), v[3].Head) {
			if got := weigh.On(c, l, v, id); got != 0 {
				t.Errorf("on %x is %d", id, got)
			}
		}
		for _, none := range [][]api.Vote{nil, {}} {
			if got := weigh.All(c, l, none); got != 0 {
				t.Errorf("without votes all is %d", got)
			}
		}
	}
}

// P8.1: without votes nothing is on any block.
func TestNoVotes(t *testing.T) {
	for _, v := range [][]api.Vote{nil, {}} {
		for _, l := range [][]api.Block{line(1), line(5), bush()} {
			for _, id := range ids(l) {
				if got := weigh.On(conf(12), l, v, id); got != 0 {
					t.Errorf("on %x is %d", id, got)
				}
			}
			if got := weigh.All(conf(12), l, v); got != 0 {
				t.Errorf("all is %d", got)
			}
		}
	}
}

// P8.1: one block and one vote, of all that may be for and asked.
func TestOneOfEach(t *testing.T) {
	l := line(1)
	name := tree.Name(l[0])
	for n := 1; n <= 12; n++ {
		c := conf(n)
		for who := range n {
			w := 1 << who
			for _, x := range []struct {
				head                   api.ID
				on, beginning, unknown int
			}{{name, w, w, 0}, {beginning, 0, w, 0}, {api.ID{7, 7}, 0, 0, 0}} {
				v := []api.Vote{{From: who, Slot: 1, Head: x.head}}
				if got := weigh.On(c, l, v, name); got != x.on {
					t.Errorf("of %d, %v: on the block is %d, not %d", n, v, got, x.on)
				}
				if got, all := weigh.On(c, l, v, beginning), weigh.All(c, l, v); got != x.beginning || all != x.beginning {
					t.Errorf("of %d, %v: on the beginning is %d, and all is %d, not %d", n, v, got, all, x.beginning)
				}
				if got := weigh.On(c, l, v, api.ID{7, 7}); got != x.unknown {
					t.Errorf("of %d, %v: on what is not known is %d", n, v, got)
				}
			}
		}
	}
}

// P8.1: nothing is on an ID that is of no block, also where votes are for just that.
func TestUnknownID(t *testing.T) {
	for _, l := range [][]api.Block{nil, line(1), line(4), bush()} {
		v := spread()
		for who, id := range unknown(l) {
			v = append(v, api.Vote{From: who % 12, Slot: 1, Head: id})
		}
		for _, id := range unknown(l) {
			for _, x := range [][]api.Vote{spread(), v, {{From: 1, Slot: 1, Head: id}}} {
				if got := weigh.On(conf(12), l, x, id); got != 0 {
					t.Errorf("%v, %v: on %x is %d", l, x, id, got)
				}
			}
		}
	}
}

// P8.1: an unknown block that a known one would be under, or that would be under a known one, takes nothing and gives nothing.
func TestBlocksLeftOut(t *testing.T) {
	whole := bush()
	for n := range whole {
		l := whole[:n]
		check(t, conf(12), l, spread(), known(whole))
		for _, id := range names(whole)[n:] {
			if got := weigh.On(conf(12), l, spread(), id); got != 0 {
				t.Errorf("of the first %d: on %x is %d", n, id, got)
			}
		}
	}
}

// P8.1: votes for heads that are not known change nothing, whoever has them.
func TestUnknownHeads(t *testing.T) {
	c, l := conf(12), bush()
	for _, base := range [][]api.Vote{nil, spread(), crowd()} {
		more := slices.Clone(base)
		for i, head := range unknown(l) {
			for who := range c.W {
				more = slices.Insert(more, i%(len(more)+1), api.Vote{From: who, Slot: i, Head: head})
			}
		}
		for _, id := range ids(l) {
			if got, want := weigh.On(c, l, more, id), weigh.On(c, l, base, id); got != want {
				t.Errorf("on %x is %d, not %d", id, got, want)
			}
		}
	}
}

// P8.1: votes of who is no validator change nothing, whatever they are for.
func TestStrangers(t *testing.T) {
	l := bush()
	for n := 1; n <= 12; n++ {
		c := conf(n)
		var alone []api.Vote
		for _, who := range strangers(n) {
			for _, head := range known(l) {
				alone = append(alone, api.Vote{From: who, Slot: 3, Head: head})
			}
		}
		for _, id := range known(l) {
			if got := weigh.On(c, l, alone, id); got != 0 {
				t.Errorf("of %d: strangers weigh %d on %x", n, got, id)
			}
			if got, want := weigh.On(c, l, slices.Concat(alone, spread(), alone), id), weigh.On(c, l, spread(), id); got != want {
				t.Errorf("of %d: on %x is %d, not %d", n, id, got, want)
			}
		}
	}
}

// P8.1: whose vote is there twice, or more often, weighs once.
func TestThereTwice(t *testing.T) {
	c, l := conf(5), bush()
	for _, head := range known(l) {
		for n := 1; n <= 5; n++ {
			v := slices.Repeat([]api.Vote{{From: 3, Slot: 2, Head: head}}, n)
			if got := weigh.On(c, l, v, head); got != 8 {
				t.Errorf("a vote %d times: on its head is %d", n, got)
			}
			if got := weigh.All(c, l, v); got != 8 {
				t.Errorf("a vote %d times: all is %d", n, got)
			}
		}
	}
	for _, v := range [][]api.Vote{spread(), crowd()} {
		for _, id := range ids(l) {
			if got, want := weigh.On(c, l, slices.Concat(v, v, v), id), weigh.On(c, l, v, id); got != want {
				t.Errorf("three times: on %x is %d, not %d", id, got, want)
			}
		}
	}
}

// P8.1: who has votes for any two heads weighs once on what both are for, and on what just one is for.
func TestTwoHeads(t *testing.T) {
	c, l := conf(5), bush()
	for _, a := range ids(l) {
		for _, b := range ids(l) {
			v := []api.Vote{{From: 2, Slot: 6, Head: a}, {From: 2, Slot: 6, Head: b}}
			for _, id := range known(l) {
				want := 0
				if tree.Under(l, id, a) || tree.Under(l, id, b) {
					want = 4
				}
				if got := weigh.On(c, l, v, id); got != want {
					t.Errorf("%v: on %x is %d, not %d", v, id, got, want)
				}
			}
		}
	}
}

// P8.1: two heads on one chain, and on two, written out.
func TestTwoHeadsWritten(t *testing.T) {
	c, l := conf(5), bush()
	n := names(l)
	for _, x := range []struct {
		a, b int
		on   []int
	}{
		{8, 1, []int{0, 1, 6, 8}},
		{1, 8, []int{0, 1, 6, 8}},
		{4, 8, []int{0, 1, 4, 6, 8}},
		{3, 5, []int{0, 2, 3, 5}},
		{7, 7, []int{7}},
	} {
		v := []api.Vote{{From: 4, Slot: 2, Head: n[x.a]}, {From: 4, Slot: 3, Head: n[x.b]}}
		for i, id := range n {
			want := 0
			if slices.Contains(x.on, i) {
				want = 16
			}
			if got := weigh.On(c, l, v, id); got != want {
				t.Errorf("for %d and %d: on %d is %d, not %d", x.a, x.b, i, got, want)
			}
		}
		if got := weigh.All(c, l, v); got != 16 {
			t.Errorf("for %d and %d: all is %d", x.a, x.b, got)
		}
	}
}

// P8.1: a vote's slot does not matter, whether it is one or not, and whether it is ahead of that of its head or not.
func TestAnySlots(t *testing.T) {
	c, l := conf(12), bush()
	for _, base := range [][]api.Vote{spread(), crowd()} {
		for turn, slot := range numbers() {
			same, mixed := slices.Clone(base), slices.Clone(base)
			for i := range base {
				same[i].Slot = slot
				mixed[i].Slot = numbers()[(turn+i)%len(numbers())]
			}
			for _, id := range ids(l) {
				want := weigh.On(c, l, base, id)
				if got := weigh.On(c, l, same, id); got != want {
					t.Errorf("of slot %d: on %x is %d, not %d", slot, id, got, want)
				}
				if got := weigh.On(c, l, mixed, id); got != want {
					t.Errorf("of any slots: on %x is %d, not %d", id, got, want)
				}
			}
		}
	}
}

// wrongConfs are such as are beyond just one edge, by why they may not be.
func wrongConfs() map[string]api.Conf {
	all := map[string]api.Conf{"noughts": {}}
	add := func(why string, x int, change func(c *api.Conf)) {
		c := conf(5)
		change(&c)
		all[why+" "+strconv.Itoa(x)] = c
	}
	add("weights, nil", 0, func(c *api.Conf) { c.W = nil })
	add("weights", 0, func(c *api.Conf) { c.W = []int{} })
	for _, n := range []int{13, 14, 1000} {
		add("weights", n, func(c *api.Conf) { c.W = slices.Repeat([]int{1}, n) })
	}
	for _, w := range []int{-1, -heavy, math.MinInt, heavy + 1, 1 << 62, math.MaxInt} {
		for i := range 5 {
			add("the weight of "+strconv.Itoa(i), w, func(c *api.Conf) { c.W[i] = w })
		}
	}
	for _, x := range []int{0, -1, 9, math.MinInt, math.MaxInt} {
		add("Epoch", x, func(c *api.Conf) { c.Epoch = x })
	}
	for _, x := range []int{-1, 5, math.MinInt, math.MaxInt} {
		add("Num", x, func(c *api.Conf) { c.Num = x })
	}
	for _, x := range []int{0, -1, 1001, math.MinInt, math.MaxInt} {
		add("Num of 0, and Den", x, func(c *api.Conf) { c.Num, c.Den = 0, x })
	}
	return all
}

// wrongBlocks are such as may not be, by why; two of them were searched for: one block whose name is the beginning's, and two of one name.
func wrongBlocks() map[string][]api.Block {
	l := bush()
	child := api.Block{Slot: 2, Parent: tree.Name(l[0])}
	nameless := api.Block{Slot: 4386925562764349927, From: -6943071948554506534, Salt: 13775616248727150990}
	twins := []api.Block{{Slot: 3101226054416760429, From: 1}, {Slot: 4619033793057862324, Salt: 6655185758041175899}}
	return map[string][]api.Block{
		"a parent that is left out":  l[1:],
		"a parent behind":            append([]api.Block{l[1]}, l...),
		"turned round":               {child, l[0]},
		"one twice":                  append(bush(), l[3]),
		"a slot of 0":                append(bush(), api.Block{}),
		"a slot below 0":             append(bush(), api.Block{Slot: -1}),
		"a slot that does not rise":  append(bush(), api.Block{Slot: 1, Parent: tree.Name(l[0])}),
		"a slot that falls":          append(bush(), api.Block{Slot: 1, Parent: tree.Name(l[1])}),
		"a parent that is not known": append(bush(), api.Block{Slot: 50, Parent: api.ID{7, 7}}),
		"the beginning's name":       append(bush(), nameless),
		"two of one name":            append(bush(), twins...),
	}
}

// P8.1: of a conf that may not be there is 0, whatever else is given.
func TestWrongConfs(t *testing.T) {
	v := append(spread(), crowd()...)
	for why, c := range wrongConfs() {
		if duty.May(c) {
			t.Fatalf("%s may be", why)
		}
		for _, l := range [][]api.Block{nil, line(2), bush()} {
			for _, id := range ids(l) {
				if got := weigh.On(c, l, v, id); got != 0 {
					t.Errorf("%s: on %x is %d", why, id, got)
				}
			}
			if got := weigh.All(c, l, v); got != 0 {
				t.Errorf("%s: all is %d", why, got)
			}
		}
	}
}

// P8.1: of blocks that may not be there is 0, also on the beginning, and also for those ahead of the wrong one.
func TestWrongBlocks(t *testing.T) {
	for why, l := range wrongBlocks() {
		if tree.May(l) {
			t.Fatalf("%s may be", why)
		}
		v := append(spread(), crowd()...)
		for i, id := range ids(l) {
			v = append(v, api.Vote{From: i % 12, Slot: 1, Head: id})
		}
		for _, id := range ids(l) {
			if got := weigh.On(conf(12), l, v, id); got != 0 {
				t.Errorf("%s: on %x is %d", why, id, got)
			}
		}
		if got := weigh.All(conf(12), l, v); got != 0 {
			t.Errorf("%s: all is %d", why, got)
		}
		if got := weigh.All(conf(12), l, []api.Vote{{From: 1, Slot: 1}}); got != 0 {
			t.Errorf("%s: with a vote for the beginning all is %d", why, got)
		}
	}
}

// P8.1, and P1: a conf and blocks that both may not be.
func TestBothWrong(t *testing.T) {
	for first, c := range wrongConfs() {
		for second, l := range wrongBlocks() {
			for _, id := range known(l) {
				if got := weigh.On(c, l, spread(), id); got != 0 {
					t.Errorf("%s, %s: on %x is %d", first, second, id, got)
				}
			}
			if got := weigh.All(c, l, spread()); got != 0 {
				t.Errorf("%s, %s: all is %d", first, second, got)
			}
		}
	}
}

// P8.1: confs on every edge of what may be weigh alike; neither seed, epoch nor beta matters.
func TestRightConfs(t *testing.T) {
	l := bush()
	for _, seed := range []uint64{0, 1, 1 << 63, top} {
		for _, epoch := range []int{1, 2, 7, 8} {
			for _, beta := range [][2]int{{0, 1}, {1, 1}, {0, 1000}, {1000, 1000}, {1, 4}} {
				c := conf(12)
				c.Seed, c.Epoch, c.Num, c.Den = seed, epoch, beta[0], beta[1]
				for _, id := range ids(l) {
					if got, want := weigh.On(c, l, spread(), id), weigh.On(conf(12), l, spread(), id); got != want {
						t.Errorf("%v: on %x is %d, not %d", c, id, got, want)
					}
				}
			}
		}
	}
}

// P8.1: weights of 0 add nothing, and the greatest ones of all are summed to the last unit.
func TestWeights(t *testing.T) {
	l := bush()
	for n := 1; n <= 12; n++ {
		for _, w := range []int{0, 1, heavy - 1, heavy} {
			c := conf(n)
			for i := range c.W {
				c.W[i] = w
			}
			var v []api.Vote
			for who := range n {
				v = append(v, api.Vote{From: who, Slot: 1, Head: tree.Name(l[8])})
			}
			for _, i := range []int{8, 6, 1, 0} {
				if got := weigh.On(c, l, v, tree.Name(l[i])); got != n*w {
					t.Errorf("%d of %d: on %d is %d", n, w, i, got)
				}
			}
			if got := weigh.All(c, l, v); got != n*w {
				t.Errorf("%d of %d: all is %d", n, w, got)
			}
			check(t, c, l, spread(), known(l))
		}
	}
	c := conf(4)
	c.W = []int{0, heavy, 0, 1}
	v := []api.Vote{{From: 0, Slot: 1, Head: tree.Name(l[1])}, {From: 1, Slot: 1, Head: tree.Name(l[1])}, {From: 3, Slot: 1, Head: tree.Name(l[0])}}
	if got := weigh.On(c, l, v, tree.Name(l[1])); got != heavy {
		t.Errorf("on the higher one is %d", got)
	}
	if got := weigh.On(c, l, v, tree.Name(l[0])); got != heavy+1 {
		t.Errorf("on the lower one is %d", got)
	}
}

// P8.1: each set of twelve voters is told by what it weighs.
func TestEachSet(t *testing.T) {
	c, l := conf(12), line(2)
	n := names(l)
	for set := range 1 << 12 {
		var v []api.Vote
		for who := range 12 {
			head := beginning
			if set>>who&1 == 1 {
				head = n[1]
			}
			v = append(v, api.Vote{From: who, Slot: 1, Head: head})
		}
		if low, high := weigh.On(c, l, v, n[0]), weigh.On(c, l, v, n[1]); low != set || high != set {
			t.Errorf("on both blocks are %b and %b, not %b", low, high, set)
		}
		if got := weigh.All(c, l, v); got != 1<<12-1 {
			t.Errorf("all is %b", got)
		}
	}
}

// small are votes of two validators for the beginning, three blocks and what is not known.
func small(l []api.Block) []api.Vote {
	var all []api.Vote
	for who := range 2 {
		for _, head := range append(known(l), api.ID{7, 7}) {
			all = append(all, api.Vote{From: who, Slot: 4, Head: head})
		}
	}
	return all
}

// P8.1: all trees of three blocks, with all lists of up to three votes.
func TestSmall(t *testing.T) {
	for p := range 2 {
		for q := range 3 {
			l := grow(-1, p-1, q-1)
			all := small(l)
			var try func(v []api.Vote)
			try = func(v []api.Vote) {
				check(t, conf(2), l, v, append(known(l), api.ID{7, 7}))
				for _, x := range all {
					if len(v) < 3 && !t.Failed() {
						try(append(slices.Clone(v), x))
					}
				}
			}
			try(nil)
		}
	}
}

// P8.1: blocks that differ in their salt alone are told from each other.
func TestSaltAlone(t *testing.T) {
	c := conf(12)
	var l []api.Block
	var v []api.Vote
	for i := range 12 {
		l = append(l, api.Block{Slot: 1, Salt: uint64(i)})
		v = append(v, api.Vote{From: i, Slot: 1, Head: tree.Name(l[i])})
	}
	for i, id := range names(l) {
		if got := weigh.On(c, l, v, id); got != 1<<i {
			t.Errorf("on %d is %d", i, got)
		}
	}
}

// P8.1: in whatever order blocks stand that may be, as much is on each.
func TestOrderOfBlocks(t *testing.T) {
	l := bush()
	n := names(l)
	for _, order := range [][]int{{0, 1, 2, 3, 4, 5, 6, 7, 8, 9}, {7, 2, 5, 0, 9, 3, 1, 6, 8, 4}, {0, 1, 6, 8, 4, 9, 3, 7, 2, 5}, {2, 7, 0, 5, 1, 3, 4, 6, 9, 8}} {
		var m []api.Block
		for _, i := range order {
			m = append(m, l[i])
		}
		for _, id := range append(n, beginning) {
			for _, v := range [][]api.Vote{spread(), crowd()} {
				if got, want := weigh.On(conf(12), m, v, id), weigh.On(conf(12), l, v, id); got != want {
					t.Errorf("in the order %v: on %x is %d, not %d", order, id, got, want)
				}
			}
		}
	}
}

// P8.1: as many blocks and votes as a view may have, in a line, side by side, and in forks.
func TestFullView(t *testing.T) {
	side, fork := make([]int, api.MaxBlocks), make([]int, api.MaxBlocks)
	for i := range side {
		side[i], fork[i] = -1, (i-1)/2
	}
	fork[0] = -1
	for _, l := range [][]api.Block{line(api.MaxBlocks), grow(side...), grow(fork...)} {
		n := known(l)
		var v []api.Vote
		for i := range api.MaxVotes {
			v = append(v, api.Vote{From: i * 5 % 14, Slot: i, Head: n[i*i%len(n)]})
		}
		check(t, conf(12), l, v, n)
		check(t, conf(12), l, v[:12], n)
	}
}

// P8.1, and P1: far more blocks and votes than a view may have are weighed in good time.
func TestFarMore(t *testing.T) {
	const high, many = 1 << 14, 1 << 17
	c, l := conf(12), line(high)
	n := names(l)
	var v []api.Vote
	for i := range many {
		v = append(v, api.Vote{From: 12 + i, Slot: i, Head: n[i%high]}, api.Vote{From: i % 12, Slot: i, Head: n[i%12*1000]})
	}
	for i := range 12 {
		if got, want := weigh.On(c, l, v, n[i*1000]), 1<<12-1<<i; got != want {
			t.Errorf("on %d is %b, not %b", i*1000, got, want)
		}
	}
	if got := weigh.On(c, l, v, n[11001]); got != 0 {
		t.Errorf("above all heads is %d", got)
	}
	if got := weigh.All(c, l, v); got != 1<<12-1 {
		t.Errorf("all is %b", got)
	}
}

// kidsOn is what is on the blocks that stand on id, together.
func kidsOn(c api.Conf, l []api.Block, v []api.Vote, id api.ID) int {
	sum := 0
	for _, kid := range tree.Kids(l, id) {
		sum += weigh.On(c, l, v, kid)
	}
	return sum
}

// P8.2: where each has one vote, what is on the blocks that stand on one is together no more than what is on that; what is between is just what is for that one itself.
func TestKidsNoMore(t *testing.T) {
	c, l := conf(3), bush()
	heads := append(known(l), api.ID{7, 7})
	for i := range len(heads) * len(heads) * len(heads) {
		v := []api.Vote{
			{From: 0, Slot: 1, Head: heads[i%len(heads)]},
			{From: 1, Slot: 1, Head: heads[i/len(heads)%len(heads)]},
			{From: 2, Slot: 1, Head: heads[i/len(heads)/len(heads)]},
		}
		for _, id := range known(l) {
			its := 0
			for _, x := range v {
				if x.Head == id {
					its += c.W[x.From]
				}
			}
			on, kids := weigh.On(c, l, v, id), kidsOn(c, l, v, id)
			if kids > on || kids+its != on {
				t.Fatalf("%v: on %x is %d, on its kids %d, and for it itself %d", v, id, on, kids, its)
			}
		}
	}
	for _, n := range []int{1, 5, 12} {
		for _, id := range ids(l) {
			if on, kids := weigh.On(conf(n), l, spread(), id), kidsOn(conf(n), l, spread(), id); kids > on {
				t.Errorf("of %d: on %x is %d, on its kids %d", n, id, on, kids)
			}
		}
	}
}

// P8.2: that each has one vote is needed: who has two may weigh on two blocks that stand on one, but once on that.
func TestKidsOfTwoVotes(t *testing.T) {
	c, l := conf(2), grow(-1, 0, 0)
	n := names(l)
	v := []api.Vote{{From: 1, Slot: 4, Head: n[1]}, {From: 1, Slot: 4, Head: n[2]}}
	if on, kids := weigh.On(c, l, v, n[0]), kidsOn(c, l, v, n[0]); on != 2 || kids != 4 {
		t.Errorf("on the lower one is %d, on both that stand on it %d", on, kids)
	}
}

// P8.2: no more is on any block than on the beginning, nor than on what it stands on, however many votes each has.
func TestBeginningHasMost(t *testing.T) {
	c, l := conf(12), bush()
	v := append(spread(), crowd()...)
	for from := range v {
		for to := from; to <= len(v); to++ {
			part := v[from:to]
			most := weigh.On(c, l, part, beginning)
			if all := weigh.All(c, l, part); all != most || all > duty.Total(c) {
				t.Errorf("%v: all is %d, and on the beginning is %d", part, all, most)
			}
			for _, b := range l {
				on, below := weigh.On(c, l, part, tree.Name(b)), weigh.On(c, l, part, b.Parent)
				if on > most || on > below {
					t.Errorf("%v: on %v is %d, on its parent %d, on the beginning %d", part, b, on, below, most)
				}
			}
		}
	}
}

// P8.1: no order of the votes matters.
func TestNoOrderMatters(t *testing.T) {
	c, l := conf(12), bush()
	for _, base := range [][]api.Vote{spread(), crowd()} {
		for i := range base {
			turned := slices.Concat(base[i:], base[:i])
			back := slices.Clone(turned)
			slices.Reverse(back)
			swapped := slices.Clone(base)
			swapped[0], swapped[i] = swapped[i], swapped[0]
			for _, v := range [][]api.Vote{turned, back, swapped} {
				for _, id := range ids(l) {
					if got, want := weigh.On(c, l, v, id), weigh.On(c, l, base, id); got != want {
						t.Errorf("%v: on %x is %d, not %d", v, id, got, want)
					}
				}
				if got, want := weigh.All(c, l, v), weigh.All(c, l, base); got != want {
					t.Errorf("%v: all is %d, not %d", v, got, want)
				}
			}
		}
	}
}

// R3: what is handed in stays as it was, also behind the end of a list.
func TestHandedInStays(t *testing.T) {
	c, l, v := conf(12), bush(), crowd()
	for n := range len(v) + 1 {
		for m := range len(l) + 1 {
			short := c
			short.W = c.W[:m+1]
			for _, id := range known(l) {
				weigh.On(short, l[:m], v[:n], id)
			}
			weigh.All(short, l[:m], v[:n])
		}
	}
	if !slices.Equal(c.W, conf(12).W) || !slices.Equal(l, bush()) || !slices.Equal(v, crowd()) {
		t.Errorf("they became %v, %v, %v", c, l, v)
	}
}

// R5: nothing hangs on what was asked before, or by whom at the same time.
func TestManyAsk(t *testing.T) {
	c, l, v := conf(7), bush(), crowd()
	var all sync.WaitGroup
	for i := range 8 {
		all.Go(func() {
			for k := range 20 {
				check(t, c, l[:len(l)-(i+k)%3], v[(i*k)%len(v):], known(l))
			}
		})
	}
	all.Wait()
}
