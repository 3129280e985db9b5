package quick_test

import (
	"math"
	"slices"
	"strconv"
	"testing"

	"marigold/api"
	"marigold/duty"
	"marigold/mix"
	"marigold/quick"
	"marigold/shuffle"
	"marigold/tree"
)

const (
	top   = 1<<64 - 1
	heavy = 1 << 40
	last  = 1 << 20
	nine  = 9 // a slot in which all ballots are
)

// beginning is spelt out here once more, as the document has it.
var beginning = api.ID{0, 0}

// asked is all that the calls hang on, but for the block.
type asked struct {
	c    api.Conf
	l    []api.Block
	v    []api.Vote
	slot int
}

// topmost is what Top answers.
type topmost struct {
	id api.ID
	is bool
}

func (a asked) view() api.View {
	return api.View{B: a.l, V: a.v}
}

func (a asked) on(id api.ID) int {
	return quick.For(a.c, a.view(), a.slot, id)
}

func (a asked) sure(id api.ID) bool {
	return quick.Sure(a.c, a.view(), a.slot, id)
}

func (a asked) top(head api.ID) topmost {
	id, is := quick.Top(a.c, a.view(), a.slot, head)
	return topmost{id, is}
}

// members says the same as P5.2 of Committee: place by place of those that vote in the slot it tells who has it.
func members(c api.Conf, slot int) []int {
	if !duty.May(c) || slot < 1 || slot > last {
		return nil
	}
	var l []int
	for place := slot % c.Epoch; place < len(c.W); place += c.Epoch {
		l = append(l, shuffle.Back(mix.Step(c.Seed, uint64(slot/c.Epoch)), len(c.W), place))
	}
	slices.Sort(l)
	return l
}

// weightOf is what these weigh together, each of whom is a validator.
func weightOf(c api.Conf, who []int) int {
	sum := 0
	for _, x := range who {
		sum += c.W[x]
	}
	return sum
}

// counted says the same as P14.1 of Of: it goes through the committee, and asks for each member's votes of the slot, which must be for one head.
func (a asked) counted() []api.Vote {
	var all []api.Vote
	for _, who := range members(a.c, a.slot) {
		var his []api.Vote
		for _, x := range a.v {
			if x.From == who && x.Slot == a.slot {
				his = append(his, x)
			}
		}
		if his = slices.Compact(his); len(his) == 1 {
			all = append(all, his[0])
		}
	}
	return all
}

// plain says the same as the document of all blocks at once, without the packages between.
type plain struct {
	a   asked
	on  map[api.ID]int
	all int
}

// plainly goes along the chain of the head of each vote that counts: what its member weighs is on all that is there.
func (a asked) plainly() plain {
	p := plain{a, map[api.ID]int{}, weightOf(a.c, members(a.c, a.slot))}
	for _, x := range a.counted() {
		for _, id := range tree.Chain(a.l, x.Head) {
			p.on[id] += a.c.W[x.From]
		}
	}
	return p
}

// sure asks whether more than a half is for it by what is beyond beta; of confs that may be no number here is beyond 2^56.
func (p plain) sure(id api.ID) bool {
	beyond := p.on[id]*p.a.c.Den - p.all*p.a.c.Num
	return p.all > 0 && 2*beyond > p.all*p.a.c.Den
}

// top goes along the chain step by step.
func (p plain) top(head api.ID) topmost {
	for _, id := range tree.Chain(p.a.l, head) {
		if id != beginning && p.sure(id) {
			return topmost{id, true}
		}
	}
	return topmost{beginning, false}
}

// check holds all calls against the plain ones, of all IDs that are known, and of one that is not. Of a test only the first fault is told.
func (a asked) check(t *testing.T) {
	t.Helper()
	p := a.plainly()
	for _, id := range append(known(a.l), api.ID{7, 7}) {
		a.checkOn(t, id, p.on[id])
		a.checkSure(t, id, p.sure(id))
		a.checkTop(t, id, p.top(id))
	}
}

func (a asked) checkOn(t *testing.T, id api.ID, want int) {
	t.Helper()
	if got := a.on(id); got != want && !t.Failed() {
		t.Errorf("%v: for %x is %d, not %d", a, id, got, want)
	}
}

func (a asked) checkSure(t *testing.T, id api.ID, want bool) {
	t.Helper()
	if got := a.sure(id); got != want && !t.Failed() {
		t.Errorf("%v: that %x is sure is %t", a, id, got)
	}
}

func (a asked) checkTop(t *testing.T, head api.ID, want topmost) {
	t.Helper()
	if got := a.top(head); got != want && !t.Failed() {
		t.Errorf("%v: the top of %x is %v, not %v", a, head, got, want)
	}
}

// checkNothing holds that nothing is for any of these, so that none is sure, and none has a top.
func (a asked) checkNothing(t *testing.T, ids []api.ID) {
	t.Helper()
	for _, id := range ids {
		a.checkOn(t, id, 0)
		a.checkSure(t, id, false)
		a.checkTop(t, id, topmost{})
	}
}

// conf has n weights, so that no two sets of validators weigh the same.
func conf(n int, seed uint64, epoch int) api.Conf {
	c := api.Conf{Seed: seed, Epoch: epoch, Num: 1, Den: 4}
	for i := range n {
		c.W = append(c.W, 1<<i)
	}
	return c
}

// five is a conf whose committees are, from slot 1 on: 0 and 2; 0, 1 and 4; 2 and 3; 1, 3 and 4; 0 and 2.
func five() api.Conf {
	return conf(5, 7, 2)
}

// weighing has just these weights, and epochs of one slot, so that all are in each committee.
func weighing(w ...int) api.Conf {
	return api.Conf{W: w, Seed: 7, Epoch: 1, Num: 1, Den: 4}
}

// beta is c with Num of Den.
func beta(c api.Conf, num, den int) api.Conf {
	c.Num, c.Den = num, den
	return c
}

// even has n weights that are the same, and epochs of one slot.
func even(n, w int) api.Conf {
	return weighing(slices.Repeat([]int{w}, n)...)
}

// salted makes blocks by where their parents are (-1: on the beginning), of slots that rise, and of salts from one on.
func salted(salt uint64, parents ...int) []api.Block {
	var l []api.Block
	for i, p := range parents {
		b := api.Block{Slot: i + 1, From: i % 12, Salt: salt + uint64(i)}
		if p >= 0 {
			b.Parent = tree.Name(l[p])
		}
		l = append(l, b)
	}
	return l
}

func grow(parents ...int) []api.Block {
	return salted(0, parents...)
}

// bush has forks at several heights, and three blocks on the beginning; nothing stands on 3, 4, 5, 7, 8 and 9.
func bush() []api.Block {
	return grow(-1, 0, -1, 0, 1, 2, 1, -1, 6, 0)
}

// shape makes n blocks by where the parent of each is.
func shape(n int, parent func(i int) int) []api.Block {
	parents := make([]int, n)
	for i := range parents {
		parents[i] = parent(i)
	}
	return grow(parents...)
}

// line is n blocks, each on the one ahead of it.
func line(n int) []api.Block {
	return shape(n, func(i int) int { return i - 1 })
}

// star is n blocks on the beginning.
func star(n int) []api.Block {
	return shape(n, func(int) int { return -1 })
}

// ladder is n blocks, two at each height, of which the first one is gone on from.
func ladder(n int) []api.Block {
	return shape(n, func(i int) int { return max(i/2*2-2, -1) })
}

// names are those of all blocks, in order.
func names(l []api.Block) []api.ID {
	var all []api.ID
	for _, b := range l {
		all = append(all, tree.Name(b))
	}
	return all
}

// known are the beginning and all names.
func known(l []api.Block) []api.ID {
	return append([]api.ID{beginning}, names(l)...)
}

// unknown are neither the beginning nor a name of any block here; the last ones differ from these in a word or a bit.
func unknown(l []api.Block) []api.ID {
	all := []api.ID{{0, 1}, {1, 0}, {7, 7}, {0, top}, {top, 0}, {top, top}, {1 << 63, 1 << 63}, tree.Name(api.Block{Slot: 999, From: 999})}
	for _, x := range names(l) {
		all = append(all, api.ID{x[1], x[0]}, api.ID{x[0], 0}, api.ID{0, x[1]}, api.ID{x[0], x[1] ^ 1}, api.ID{x[0] ^ 1<<63, x[1]})
	}
	return all
}

// two are two blocks on the beginning.
func two(salt uint64) []api.Block {
	return salted(salt, -1, -1)
}

// numbers are edges: of slots, of validators, and of whole numbers.
func numbers() []int {
	return []int{math.MinInt, math.MinInt + 1, -1 << 62, -1 << 32, -last, -2, -1, 0, 1, 2, 4, 5, 11, 12, last - 1, last, last + 1, 1 << 31, 1 << 32, 1 << 62, math.MaxInt - 1, math.MaxInt}
}

// wrongSlots has those as well that would be right, if they were cut to four bytes or had no sign.
func wrongSlots() []int {
	return []int{0, -1, -2, -8, -last, last + 1, last + 2, 2 * last, 1<<31 - 1, 1 << 31, 1 << 32, 1<<32 + 1, 1<<32 + last,
		1 << 62, -1 << 32, -1<<32 + 1, math.MinInt, math.MinInt + 1, math.MinInt + 8, math.MaxInt - 1, math.MaxInt}
}

// strangers are no validators of n; some would be, as a remainder by n, or cut to four bytes or to one.
func strangers(n int) []int {
	return []int{-1, -2, -n, -n - 1, -12, -256, n, n + 1, 2*n - 1, 2 * n, 256, 1000, 1 << 31, 1 << 32, 1<<32 + n - 1, -1 << 32,
		math.MinInt, math.MinInt + 1, math.MaxInt - 1, math.MaxInt}
}

// castBy is a vote of each in the slot, for the head.
func castBy(who []int, slot int, head api.ID) []api.Vote {
	var v []api.Vote
	for _, x := range who {
		v = append(v, api.Vote{From: x, Slot: slot, Head: head})
	}
	return v
}

// upTo are the validators of n.
func upTo(n int) []int {
	var all []int
	for i := range n {
		all = append(all, i)
	}
	return all
}

// ballots is a vote of each for each of the heads, in turn from the validator 0 on.
func ballots(heads ...api.ID) []api.Vote {
	var v []api.Vote
	for who, head := range heads {
		v = append(v, api.Vote{From: who, Slot: nine, Head: head})
	}
	return v
}

// crowd has votes of five slots, in no order, of the validators of five and of others: in slot 1 who is not in the committee has one, and another such one is double; in slot 2 so have two others and two strangers, 0 has its vote twice, and 4 is double; in slot 3 one is for what is not known and one for the beginning, and all else is of others; in slot 4 all are of the committee, one three times; in slot 5 both are double.
func crowd() []api.Vote {
	n := names(bush())
	return []api.Vote{
		{From: 4, Slot: 4, Head: n[0]}, {From: 2, Slot: 1, Head: n[8]}, {From: 3, Slot: 3}, {From: 4, Slot: 2, Head: n[5]},
		{From: 0, Slot: 2, Head: n[9]}, {From: 3, Slot: 1, Head: n[5]}, {From: 1, Slot: 4, Head: n[2]}, {From: 0, Slot: 5, Head: n[1]},
		{From: 1, Slot: 1, Head: n[7]}, {From: 2, Slot: 2, Head: n[5]}, {From: 5, Slot: 2, Head: n[5]}, {From: 4, Slot: 4, Head: n[0]},
		{From: 0, Slot: 1, Head: n[4]}, {From: 2, Slot: 5, Head: n[2]}, {From: 3, Slot: 4, Head: n[3]}, {From: 1, Slot: 3, Head: n[7]},
		{From: 1, Slot: 2, Head: n[6]}, {From: 0, Slot: 3, Head: n[7]}, {From: 4, Slot: 5, Head: n[5]}, {From: 2, Slot: 5},
		{From: 1, Slot: 1, Head: n[2]}, {From: -1, Slot: 2, Head: n[5]}, {From: 4, Slot: 2, Head: n[3]}, {From: 4, Slot: 3, Head: n[7]},
		{From: 0, Slot: 2, Head: n[9]}, {From: 0, Slot: 5, Head: api.ID{7, 7}}, {From: 3, Slot: 2, Head: n[5]}, {From: 2, Slot: 3, Head: api.ID{7, 7}},
		{From: 4, Slot: 4, Head: n[0]},
	}
}

// mixed is l in another order, which hangs on the seed alone.
func mixed[T any](l []T, seed uint64) []T {
	m := slices.Clone(l)
	for i := len(m) - 1; i > 0; i-- {
		k := int(mix.Step(seed, uint64(i)) % uint64(i+1))
		m[i], m[k] = m[k], m[i]
	}
	return m
}

// shuffled is l in another order, in which each block is still behind its parent.
func shuffled(l []api.Block, seed uint64) []api.Block {
	var m []api.Block
	left := slices.Clone(l)
	for turn := uint64(0); len(left) > 0; turn++ {
		i := int(mix.Step(seed, turn) % uint64(len(left)))
		if tree.May(append(slices.Clone(m), left[i])) {
			m = append(m, left[i])
			left = slices.Delete(left, i, i+1)
		}
	}
	return m
}

// some is from 0 to n less 1, and hangs on the seed and the turn alone.
func some(seed uint64, turn, n int) int {
	return int(mix.Step(seed, uint64(turn)) % uint64(n))
}

// someConf is one by words that hang on the seed alone; of two of them one has weights that are all the same, and beta is at most a half.
func someConf(seed uint64) api.Conf {
	c := conf(1+some(seed, 200, 12), mix.Step(seed, 300), 1+some(seed, 203, 8))
	if some(seed, 201, 2) == 0 {
		c.W = slices.Repeat([]int{1 + some(seed, 202, 100)}, len(c.W))
	}
	den := 1 + some(seed, 204, 1000)
	return beta(c, some(seed, 205, den/2+1), den)
}

// someAsked is asked by words that hang on the seed alone; of slots and of heads there are few, so that some votes are there twice, and some are double. Of two slots one has as well a vote of each member for one of few heads.
func someAsked(seed uint64) asked {
	l := shape(1+some(seed, 0, api.MaxBlocks), func(i int) int { return max(-1, i-1-some(seed, i+1, 5)) })
	n := append(known(l), api.ID{7, 7})
	heads := n[some(seed, 100, len(n)):]
	a := asked{someConf(seed), l, nil, 10 + some(seed, 101, last-20)}
	for i := range some(seed, 102, 100) {
		v := api.Vote{From: some(seed, 1000+i, 14) - 1, Slot: a.slot - 4 + some(seed, 2000+i, 9), Head: heads[some(seed, 3000+i, len(heads))]}
		if v.Slot != a.slot || seed%2 == 0 {
			a.v = append(a.v, v)
		}
	}
	if seed%2 == 1 {
		few := heads[:min(len(heads), 1+some(seed, 103, 4))]
		for i, who := range members(a.c, a.slot) {
			a.v = append(a.v, api.Vote{From: who, Slot: a.slot, Head: few[some(seed, 4000+i, len(few))]})
		}
	}
	a.v = mixed(a.v, seed)
	return a
}

// wrongConfs are such as are beyond just one edge, by why they may not be.
func wrongConfs() map[string]api.Conf {
	all := map[string]api.Conf{"noughts": {}}
	add := func(why string, x int, change func(c *api.Conf)) {
		c := five()
		change(&c)
		all[why+" "+strconv.Itoa(x)] = c
	}
	add("weights, nil", 0, func(c *api.Conf) { c.W = nil })
	add("weights", 0, func(c *api.Conf) { c.W = []int{} })
	for _, n := range []int{13, 14, 1000, 1001} {
		add("weights", n, func(c *api.Conf) { c.W = slices.Repeat([]int{100}, n) })
	}
	for _, w := range []int{-1, -heavy, math.MinInt, heavy + 1, 1 << 62, math.MaxInt} {
		for i := range 5 {
			add("the weight of "+strconv.Itoa(i), w, func(c *api.Conf) { c.W[i] = w })
		}
	}
	for _, x := range []int{0, -1, -2, 9, math.MinInt, math.MaxInt} {
		add("Epoch", x, func(c *api.Conf) { c.Epoch = x })
	}
	for _, x := range []int{-1, 5, math.MinInt, math.MaxInt} {
		add("Num", x, func(c *api.Conf) { c.Num = x })
	}
	for _, x := range []int{0, -1, 1001, math.MinInt, math.MaxInt} {
		add("Num of 0, and Den", x, func(c *api.Conf) { c.Num, c.Den = 0, x })
	}
	return all
}

// wrongBlocks are such as may not be, by why; two of them were searched for: one block whose name is the beginning's, and two of one name.
func wrongBlocks() map[string][]api.Block {
	l := bush()
	child := api.Block{Slot: 2, Parent: tree.Name(l[0])}
	nameless := api.Block{Slot: 4386925562764349927, From: -6943071948554506534, Salt: 13775616248727150990}
	twins := []api.Block{{Slot: 3101226054416760429, From: 1}, {Slot: 4619033793057862324, Salt: 6655185758041175899}}
	return map[string][]api.Block{
		"a parent that is left out":  l[1:],
		"a parent behind":            append([]api.Block{l[1]}, l...),
		"turned round":               {child, l[0]},
		"one twice":                  append(bush(), l[3]),
		"one alone twice":            {l[0], l[0]},
		"a slot of 0":                append(bush(), api.Block{}),
		"a slot of 0 alone":          {{}},
		"a slot below 0":             append(bush(), api.Block{Slot: -1}),
		"a slot that does not rise":  append(bush(), api.Block{Slot: 1, Parent: tree.Name(l[0])}),
		"a slot that falls":          append(bush(), api.Block{Slot: 1, Parent: tree.Name(l[1])}),
		"a parent that is not known": append(bush(), api.Block{Slot: 50, Parent: api.ID{7, 7}}),
		"the beginning's name":       append(bush(), nameless),
		"the beginning's name alone": {nameless},
		"two of one name":            append(bush(), twins...),
		"two of one name alone":      twins,
	}
}
