package lmd_test

import (
	"math"
	"slices"
	"strconv"
	"testing"

	"marigold/api"
	"marigold/duty"
	"marigold/lmd"
	"marigold/mix"
	"marigold/tree"
)

const (
	top   = 1<<64 - 1
	heavy = 1 << 40
	nine  = 9 // a slot in which all votes of the tests are there, but for those that are told to be later
)

// beginning is spelt out here once more, as the document has it.
var beginning = api.ID{0, 0}

// asked is all that On and Head hang on, but the ID that On is asked of.
type asked struct {
	c     api.Conf
	l     []api.Block
	v     []api.Vote
	upto  int
	boost api.ID
	pct   int
}

func (a asked) on(id api.ID) int {
	return lmd.On(a.c, a.l, a.v, a.upto, a.boost, a.pct, id)
}

func (a asked) head() api.ID {
	return lmd.Head(a.c, a.l, a.v, a.upto, a.boost, a.pct)
}

// boostOf says the same as P13.1 of Boost: each division takes what is left over away first.
func boostOf(c api.Conf, pct int) int {
	if !duty.May(c) || pct < 0 || pct > 100 {
		return 0
	}
	total := 0
	for _, w := range c.W {
		total += w
	}
	hundred := (total - total%c.Epoch) / c.Epoch * pct
	return (hundred - hundred%100) / 100
}

// lastOf is what the last vote of one is for, and whether there is one that counts: it says the same as P7.2, holding each vote against each other one.
func lastOf(v []api.Vote, who, upto int) (api.ID, bool) {
	var last []api.Vote
	for i, x := range v {
		if x.From != who || x.Slot > upto {
			continue
		}
		for _, y := range v[:i] {
			if y.From == who && y.Slot == x.Slot && y.Head != x.Head {
				return beginning, false
			}
		}
		if last == nil || last[0].Slot < x.Slot {
			last = []api.Vote{x}
		}
	}
	if last == nil {
		return beginning, false
	}
	return last[0].Head, true
}

// weights says what is on each ID at once: what a validator weighs is on the chain of the head of its last vote, and the boost on that of the block that it is for.
func (a asked) weights() map[api.ID]int {
	on := map[api.ID]int{}
	if !duty.May(a.c) || !tree.May(a.l) {
		return on
	}
	for who, w := range a.c.W {
		if head, is := lastOf(a.v, who, a.upto); is {
			for _, id := range tree.Chain(a.l, head) {
				on[id] += w
			}
		}
	}
	if a.boost != beginning {
		for _, id := range tree.Chain(a.l, a.boost) {
			on[id] += boostOf(a.c, a.pct)
		}
	}
	return on
}

// greater holds IDs against each other word by word, the first one first.
func greater(a, b api.ID) bool {
	return slices.Compare(a[:], b[:]) > 0
}

// headOf says the same as P13.2: always the one that no other one on the same is ahead of.
func headOf(on map[api.ID]int, l []api.Block) api.ID {
	head := beginning
	for tree.May(l) {
		kids := tree.Kids(l, head)
		i := slices.IndexFunc(kids, func(kid api.ID) bool {
			return !slices.ContainsFunc(kids, func(other api.ID) bool {
				return on[other] > on[kid] || on[other] == on[kid] && greater(other, kid)
			})
		})
		if i < 0 {
			break
		}
		head = kids[i]
	}
	return head
}

// check holds On, at each of the IDs, and Head against the plain ones. Of a test only the first fault is told.
func (a asked) check(t *testing.T, all []api.ID) {
	t.Helper()
	on := a.weights()
	for _, id := range all {
		a.checkOn(t, id, on[id])
	}
	a.checkHead(t, headOf(on, a.l))
}

func (a asked) checkOn(t *testing.T, id api.ID, want int) {
	t.Helper()
	if got := a.on(id); got != want && !t.Failed() {
		t.Errorf("%v: on %x is %d, not %d", a, id, got, want)
	}
}

func (a asked) checkHead(t *testing.T, want api.ID) {
	t.Helper()
	if got := a.head(); got != want && !t.Failed() {
		t.Errorf("%v: the head is %x, not %x", a, got, want)
	}
}

func checkBoost(t *testing.T, c api.Conf, pct, want int) {
	t.Helper()
	if got := lmd.Boost(c, pct); got != want && !t.Failed() {
		t.Errorf("%v: the boost of %d is %d, not %d", c, pct, got, want)
	}
}

// conf has n weights, so that no two sets of validators weigh the same.
func conf(n int) api.Conf {
	c := api.Conf{Seed: 7, Epoch: 2, Num: 1, Den: 4}
	for i := range n {
		c.W = append(c.W, 1<<i)
	}
	return c
}

// weighing has just these weights, and epochs of one slot.
func weighing(w ...int) api.Conf {
	c := conf(1)
	c.W, c.Epoch = w, 1
	return c
}

// even has n weights that are the same, and epochs of one slot.
func even(n, w int) api.Conf {
	return weighing(slices.Repeat([]int{w}, n)...)
}

// salted makes blocks by where their parents are (-1: on the beginning), of slots that rise, and of salts from one on.
func salted(salt uint64, parents ...int) []api.Block {
	var l []api.Block
	for i, p := range parents {
		b := api.Block{Slot: i + 1, From: i % 12, Salt: salt + uint64(i)}
		if p >= 0 {
			b.Parent = tree.Name(l[p])
		}
		l = append(l, b)
	}
	return l
}

func grow(parents ...int) []api.Block {
	return salted(0, parents...)
}

// bush has forks at several heights, and three blocks on the beginning; nothing stands on 3, 4, 5, 7, 8 and 9.
func bush() []api.Block {
	return grow(-1, 0, -1, 0, 1, 2, 1, -1, 6, 0)
}

// below tells of each block of the bush which ones are on its chain, itself as well.
func below() [][]int {
	return [][]int{{0}, {0, 1}, {2}, {0, 3}, {0, 1, 4}, {2, 5}, {0, 1, 6}, {7}, {0, 1, 6, 8}, {0, 9}}
}

// shape makes n blocks by where the parent of each is.
func shape(n int, parent func(i int) int) []api.Block {
	parents := make([]int, n)
	for i := range parents {
		parents[i] = parent(i)
	}
	return grow(parents...)
}

// line is n blocks, each on the one ahead of it.
func line(n int) []api.Block {
	return shape(n, func(i int) int { return i - 1 })
}

// star is n blocks on the beginning.
func star(n int) []api.Block {
	return shape(n, func(int) int { return -1 })
}

// ladder is n blocks, two at each height, of which the first one is gone on from.
func ladder(n int) []api.Block {
	return shape(n, func(i int) int { return max(i/2*2-2, -1) })
}

// names are those of all blocks, in order.
func names(l []api.Block) []api.ID {
	var all []api.ID
	for _, b := range l {
		all = append(all, tree.Name(b))
	}
	return all
}

// known are the beginning and all names.
func known(l []api.Block) []api.ID {
	return append([]api.ID{beginning}, names(l)...)
}

// unknown are neither the beginning nor a name of any block here; the last ones differ from these in a word or a bit.
func unknown(l []api.Block) []api.ID {
	all := []api.ID{{0, 1}, {1, 0}, {7, 7}, {0, top}, {top, 0}, {top, top}, {1 << 63, 1 << 63}, tree.Name(api.Block{Slot: 999, From: 999})}
	for _, x := range names(l) {
		all = append(all, api.ID{x[1], x[0]}, api.ID{x[0], 0}, api.ID{0, x[1]}, api.ID{x[0], x[1] ^ 1}, api.ID{x[0] ^ 1<<63, x[1]})
	}
	return all
}

func ids(l []api.Block) []api.ID {
	return append(known(l), unknown(l)...)
}

// greatest is the greatest ID of all.
func greatest(all []api.ID) api.ID {
	return slices.MaxFunc(all, func(a, b api.ID) int { return slices.Compare(a[:], b[:]) })
}

// least is the least ID of all.
func least(all []api.ID) api.ID {
	return slices.MinFunc(all, func(a, b api.ID) int { return slices.Compare(a[:], b[:]) })
}

// two are two blocks on the beginning, that of the lesser name first.
func two(salt uint64) []api.Block {
	l := []api.Block{{Slot: 1, Salt: salt}, {Slot: 1, Salt: salt + 1}}
	if greater(tree.Name(l[0]), tree.Name(l[1])) {
		slices.Reverse(l)
	}
	return l
}

// numbers are edges: of slots, and of whole numbers.
func numbers() []int {
	return []int{math.MinInt, math.MinInt + 1, -1 << 62, -1 << 32, -2, -1, 0, 1, 2, 12, 1 << 20, 1<<20 + 1, 1 << 31, 1 << 32, 1 << 62, math.MaxInt - 1, math.MaxInt}
}

// wrongPcts are below 0 and above 100; some would be from 0 to 100, if cut to four bytes or to one.
func wrongPcts() []int {
	return []int{math.MinInt, math.MinInt + 50, -1 << 32, -1<<32 + 50, -256, -206, -101, -100, -50, -2, -1, 101, 102, 150, 200, 256, 306, 1000, 1 << 31, 1 << 32, 1<<32 + 50, 1 << 62, math.MaxInt - 1, math.MaxInt}
}

// strangers are no validators of n; some would be, as a remainder by n, or cut to four bytes or to one.
func strangers(n int) []int {
	return []int{-1, -2, -n, -n - 1, -12, -256, n, n + 1, 2*n - 1, 2 * n, 256, 1000, 1 << 31, 1 << 32, 1<<32 + n - 1, -1 << 32,
		math.MinInt, math.MinInt + 1, math.MaxInt - 1, math.MaxInt}
}

// ballots is a vote of each for each of the heads, in turn from the validator 0 on.
func ballots(heads ...api.ID) []api.Vote {
	var v []api.Vote
	for who, head := range heads {
		v = append(v, api.Vote{From: who, Slot: nine, Head: head})
	}
	return v
}

// spread is a vote of each of twelve: of 0 to 9 for the blocks of the bush, of 10 for the beginning, of 11 for what is not known.
func spread() []api.Vote {
	return ballots(append(names(bush()), beginning, api.ID{7, 7})...)
}

// crowd has votes of several slots, in no order: of 0, 1 and 4 for one head after the other, of 1 the last one for what is not known; 2 and 5 are double in one slot, and 2 has other votes ahead of that and behind it; the vote of 3 is there three times; the last ones are of who is no validator of seven.
func crowd() []api.Vote {
	n := names(bush())
	return []api.Vote{
		{From: 3, Slot: 9, Head: n[8]}, {From: 0, Slot: 5, Head: n[8]}, {From: 2, Slot: 4, Head: n[5]}, {From: 1, Slot: 6, Head: api.ID{7, 7}},
		{From: 0, Slot: 9, Head: n[7]}, {From: 3, Slot: 9, Head: n[8]}, {From: 2, Slot: 8, Head: n[2]}, {From: 1, Slot: 3, Head: n[4]},
		{From: 4, Slot: 7, Head: n[6]}, {From: 2, Slot: 1, Head: n[3]}, {From: 5, Slot: 6, Head: n[9]}, {From: 0, Slot: 2, Head: n[0]},
		{From: 6, Slot: 8, Head: n[3]}, {From: 1, Slot: 3, Head: n[4]}, {From: 2, Slot: 4, Head: n[9]}, {From: 4, Slot: 1},
		{From: 5, Slot: 6}, {From: 3, Slot: 9, Head: n[8]}, {From: -1, Slot: 3, Head: n[8]}, {From: 7, Slot: 3, Head: n[1]},
	}
}

// mixed is l in another order, which hangs on the seed alone.
func mixed[T any](l []T, seed uint64) []T {
	m := slices.Clone(l)
	for i := len(m) - 1; i > 0; i-- {
		k := int(mix.Step(seed, uint64(i)) % uint64(i+1))
		m[i], m[k] = m[k], m[i]
	}
	return m
}

// shuffled is l in another order, in which each block is still behind its parent.
func shuffled(l []api.Block, seed uint64) []api.Block {
	var m []api.Block
	left := slices.Clone(l)
	for turn := uint64(0); len(left) > 0; turn++ {
		i := int(mix.Step(seed, turn) % uint64(len(left)))
		if tree.May(append(slices.Clone(m), left[i])) {
			m = append(m, left[i])
			left = slices.Delete(left, i, i+1)
		}
	}
	return m
}

// wrongConfs are such as are beyond just one edge, by why they may not be.
func wrongConfs() map[string]api.Conf {
	all := map[string]api.Conf{"noughts": {}}
	add := func(why string, x int, change func(c *api.Conf)) {
		c := conf(5)
		change(&c)
		all[why+" "+strconv.Itoa(x)] = c
	}
	add("weights, nil", 0, func(c *api.Conf) { c.W = nil })
	add("weights", 0, func(c *api.Conf) { c.W = []int{} })
	for _, n := range []int{13, 14, 1000} {
		add("weights", n, func(c *api.Conf) { c.W = slices.Repeat([]int{100}, n) })
	}
	for _, w := range []int{-1, -heavy, math.MinInt, heavy + 1, 1 << 62, math.MaxInt} {
		for i := range 5 {
			add("the weight of "+strconv.Itoa(i), w, func(c *api.Conf) { c.W[i] = w })
		}
	}
	for _, x := range []int{0, -1, -2, 9, math.MinInt, math.MaxInt} {
		add("Epoch", x, func(c *api.Conf) { c.Epoch = x })
	}
	for _, x := range []int{-1, 5, math.MinInt, math.MaxInt} {
		add("Num", x, func(c *api.Conf) { c.Num = x })
	}
	for _, x := range []int{0, -1, 1001, math.MinInt, math.MaxInt} {
		add("Num of 0, and Den", x, func(c *api.Conf) { c.Num, c.Den = 0, x })
	}
	return all
}

// wrongBlocks are such as may not be, by why; two of them were searched for: one block whose name is the beginning's, and two of one name.
func wrongBlocks() map[string][]api.Block {
	l := bush()
	child := api.Block{Slot: 2, Parent: tree.Name(l[0])}
	nameless := api.Block{Slot: 4386925562764349927, From: -6943071948554506534, Salt: 13775616248727150990}
	twins := []api.Block{{Slot: 3101226054416760429, From: 1}, {Slot: 4619033793057862324, Salt: 6655185758041175899}}
	return map[string][]api.Block{
		"a parent that is left out":  l[1:],
		"a parent behind":            append([]api.Block{l[1]}, l...),
		"turned round":               {child, l[0]},
		"one twice":                  append(bush(), l[3]),
		"one alone twice":            {l[0], l[0]},
		"a slot of 0":                append(bush(), api.Block{}),
		"a slot of 0 alone":          {{}},
		"a slot below 0":             append(bush(), api.Block{Slot: -1}),
		"a slot that does not rise":  append(bush(), api.Block{Slot: 1, Parent: tree.Name(l[0])}),
		"a slot that falls":          append(bush(), api.Block{Slot: 1, Parent: tree.Name(l[1])}),
		"a parent that is not known": append(bush(), api.Block{Slot: 50, Parent: api.ID{7, 7}}),
		"the beginning's name":       append(bush(), nameless),
		"the beginning's name alone": {nameless},
		"two of one name":            append(bush(), twins...),
		"two of one name alone":      twins,
	}
}
