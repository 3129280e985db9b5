package view_test

import (
	"math"
	"slices"
	"strconv"
	"testing"

	"marigold/api"
	"marigold/duty"
	"marigold/mix"
	"marigold/shuffle"
	"marigold/tree"
	"marigold/view"
)

const (
	top       = 1<<64 - 1
	heavy     = 1 << 40
	last      = 1 << 20
	maxBlocks = 60
	maxVotes  = 240
)

// beginning is spelt out here once more, as the document has it.
var beginning = api.ID{0, 0}

// stranger is no name of any block here.
var stranger = api.ID{7, 7}

// asked is all that Take hangs on.
type asked struct {
	c     api.Conf
	w, in api.View
	slot  int
}

// taken is what Take answers.
type taken struct {
	w, left api.View
	full    bool
}

func (a asked) take() taken {
	w, left, full := view.Take(a.c, a.w, a.in, a.slot)
	return taken{w, left, full}
}

func same(a, b api.View) bool {
	return slices.Equal(a.B, b.B) && slices.Equal(a.V, b.V)
}

func copyOf(w api.View) api.View {
	return api.View{B: slices.Clone(w.B), V: slices.Clone(w.V)}
}

// both is all of a, and behind it all of b, though it be there.
func both(a, b api.View) api.View {
	return api.View{B: slices.Concat(a.B, b.B), V: slices.Concat(a.V, b.V)}
}

func of(l ...api.Block) api.View {
	return api.View{B: l}
}

func cast(l ...api.Vote) api.View {
	return api.View{V: l}
}

// members says the same as P5.2 of Committee: place by place of those that vote in the slot it tells who has it.
func members(c api.Conf, slot int) []int {
	if !duty.May(c) || slot < 1 || slot > last {
		return nil
	}
	var l []int
	for place := slot % c.Epoch; place < len(c.W); place += c.Epoch {
		l = append(l, shuffle.Back(mix.Step(c.Seed, uint64(slot/c.Epoch)), len(c.W), place))
	}
	slices.Sort(l)
	return l
}

// blockMay says the same as A BLOCK MAY COME, with P5.2's words of Proposer.
func blockMay(c api.Conf, b api.Block) bool {
	if !duty.May(c) || b.Slot < 1 || b.Slot > last || tree.Name(b) == beginning {
		return false
	}
	word := mix.Step(mix.Step(c.Seed, 1<<32), uint64(b.Slot))
	return b.From >= 0 && uint64(b.From) == word%uint64(len(c.W))
}

// voteMay says the same as A VOTE MAY COME.
func voteMay(c api.Conf, v api.Vote) bool {
	return slices.Contains(members(c, v.Slot), v.From)
}

// mayOf says the same as A VIEW MAY BE, holding each vote against each other one.
func mayOf(c api.Conf, w api.View) bool {
	if len(w.B) > maxBlocks || len(w.V) > maxVotes || !tree.May(w.B) || !same(onlyOf(c, w), w) {
		return false
	}
	for i, v := range w.V {
		slot, is := tree.Slot(w.B, v.Head)
		if !is || slot > v.Slot || slices.Contains(w.V[:i], v) {
			return false
		}
	}
	return true
}

// onlyOf says the same as P16.1 of Only.
func onlyOf(c api.Conf, in api.View) api.View {
	in = copyOf(in)
	in.B = slices.DeleteFunc(in.B, func(b api.Block) bool { return !blockMay(c, b) })
	in.V = slices.DeleteFunc(in.V, func(v api.Vote) bool { return !voteMay(c, v) })
	return in
}

// joinOf says the same as P16.1 of Join.
func joinOf(a, b api.View) api.View {
	all := copyOf(a)
	for _, x := range b.B {
		if !slices.Contains(all.B, x) {
			all.B = append(all.B, x)
		}
	}
	for _, x := range b.V {
		if !slices.Contains(all.V, x) {
			all.V = append(all.V, x)
		}
	}
	return all
}

// plainly says the same as P16.2, and asks tree about each block and vote anew.
func (a asked) plainly() taken {
	if !mayOf(a.c, a.w) {
		return taken{a.w, a.in, false}
	}
	x := taken{w: copyOf(a.w), left: onlyOf(a.c, a.in)}
	for size := -1; size != len(x.w.B)+len(x.w.V); {
		size = len(x.w.B) + len(x.w.V)
		x.blocks(a.slot)
		x.votes(a.slot)
	}
	return x
}

func (x *taken) blocks(slot int) {
	for i := 0; i < len(x.left.B); {
		b := x.left.B[i]
		below, is := tree.Slot(x.w.B, b.Parent)
		have := tree.Find(x.w.B, tree.Name(b)) >= 0
		can := b.Slot <= slot && is && below < b.Slot && !have
		never := have || is && below >= b.Slot
		if can && len(x.w.B) < maxBlocks {
			x.w.B = append(x.w.B, b)
			never = true
		} else if can {
			x.full = true
		}
		if never {
			x.left.B = slices.Delete(x.left.B, i, i+1)
		} else {
			i++
		}
	}
}

func (x *taken) votes(slot int) {
	for i := 0; i < len(x.left.V); {
		v := x.left.V[i]
		of, is := tree.Slot(x.w.B, v.Head)
		have := slices.Contains(x.w.V, v)
		can := v.Slot <= slot && is && of <= v.Slot && !have
		never := have || is && of > v.Slot
		if can && len(x.w.V) < maxVotes {
			x.w.V = append(x.w.V, v)
			never = true
		} else if can {
			x.full = true
		}
		if never {
			x.left.V = slices.Delete(x.left.V, i, i+1)
		} else {
			i++
		}
	}
}

// check holds all calls against the plain ones. Of a test only the first fault is told.
func (a asked) check(t *testing.T) {
	t.Helper()
	x := a.plainly()
	a.checkTake(t, x)
	for _, w := range []api.View{a.w, a.in, x.w, x.left} {
		checkMay(t, a.c, w, mayOf(a.c, w))
		checkOnly(t, a.c, w, onlyOf(a.c, w))
	}
	checkJoin(t, a.w, a.in, joinOf(a.w, a.in))
	checkJoin(t, a.in, a.w, joinOf(a.in, a.w))
	for _, b := range a.in.B {
		checkBlock(t, a.c, b, blockMay(a.c, b))
	}
	for _, v := range a.in.V {
		checkVote(t, a.c, v, voteMay(a.c, v))
	}
}

func (a asked) checkTake(t *testing.T, want taken) {
	t.Helper()
	got := a.take()
	if (!same(got.w, want.w) || !same(got.left, want.left) || got.full != want.full) && !t.Failed() {
		t.Errorf("%v: taken is %v, not %v", a, got, want)
	}
}

func checkMay(t *testing.T, c api.Conf, w api.View, want bool) {
	t.Helper()
	if got := view.May(c, w); got != want && !t.Failed() {
		t.Errorf("%v: that %v may be is %t", c, w, got)
	}
}

func checkOnly(t *testing.T, c api.Conf, in, want api.View) {
	t.Helper()
	if got := view.Only(c, in); !same(got, want) && !t.Failed() {
		t.Errorf("%v: of %v may come %v, not %v", c, in, got, want)
	}
}

func checkJoin(t *testing.T, a, b, want api.View) {
	t.Helper()
	if got := view.Join(a, b); !same(got, want) && !t.Failed() {
		t.Errorf("%v and %v are %v, not %v", a, b, got, want)
	}
}

func checkBlock(t *testing.T, c api.Conf, b api.Block, want bool) {
	t.Helper()
	if got := view.Block(c, b); got != want && !t.Failed() {
		t.Errorf("%v: that %v may come is %t", c, b, got)
	}
}

func checkVote(t *testing.T, c api.Conf, v api.Vote, want bool) {
	t.Helper()
	if got := view.Vote(c, v); got != want && !t.Failed() {
		t.Errorf("%v: that %v may come is %t", c, v, got)
	}
}

// conf has n weights, so that no two sets of validators weigh the same.
func conf(n int, seed uint64, epoch int) api.Conf {
	c := api.Conf{Seed: seed, Epoch: epoch, Num: 1, Den: 4}
	for i := range n {
		c.W = append(c.W, 1<<i)
	}
	return c
}

// five is a conf whose proposers are, from slot 1 on, 1, 0, 0, 1 and 4, and whose committees are 0 and 2; 0, 1 and 4; 2 and 3; 1, 3 and 4; 0 and 2.
func five() api.Conf {
	return conf(5, 7, 2)
}

// twelve has all validators in each committee.
func twelve() api.Conf {
	return conf(12, 3, 1)
}

// alone is a conf whose one validator does all.
func alone() api.Conf {
	return conf(1, 0, 1)
}

// block is one of who proposes in the slot.
func block(c api.Conf, slot int, parent api.ID, salt uint64) api.Block {
	return api.Block{Slot: slot, From: duty.Proposer(c, slot), Parent: parent, Salt: salt}
}

// grow makes blocks by where their parents are (-1: on the beginning), of the slots from one on, of who proposes in them.
func grow(c api.Conf, parents ...int) []api.Block {
	var l []api.Block
	for i, p := range parents {
		parent := beginning
		if p >= 0 {
			parent = tree.Name(l[p])
		}
		l = append(l, block(c, i+1, parent, 0))
	}
	return l
}

// line is n blocks, each on the one ahead of it.
func line(c api.Conf, n int) []api.Block {
	parents := make([]int, n)
	for i := range parents {
		parents[i] = i - 1
	}
	return grow(c, parents...)
}

// star is n blocks on the beginning, all of slot 1.
func star(c api.Conf, n int) []api.Block {
	var l []api.Block
	for i := range n {
		l = append(l, block(c, 1, beginning, uint64(i)))
	}
	return l
}

// bush has forks at several heights, and three blocks on the beginning; nothing stands on 3, 4, 5, 7, 8 and 9.
func bush(c api.Conf) []api.Block {
	return grow(c, -1, 0, -1, 0, 1, 2, 1, -1, 6, 0)
}

// names are those of all blocks, in order.
func names(l []api.Block) []api.ID {
	var all []api.ID
	for _, b := range l {
		all = append(all, tree.Name(b))
	}
	return all
}

// unknown are neither the beginning nor a name of any block here; the last ones differ from these in a word or a bit.
func unknown(l []api.Block) []api.ID {
	all := []api.ID{{0, 1}, {1, 0}, stranger, {0, top}, {top, 0}, {top, top}, {1 << 63, 1 << 63}, tree.Name(api.Block{Slot: 999, From: 999})}
	for _, x := range names(l) {
		all = append(all, api.ID{x[1], x[0]}, api.ID{x[0], 0}, api.ID{0, x[1]}, api.ID{x[0], x[1] ^ 1}, api.ID{x[0] ^ 1<<63, x[1]})
	}
	return all
}

// castBy is a vote of each in the slot, for the head.
func castBy(who []int, slot int, head api.ID) []api.Vote {
	var v []api.Vote
	for _, x := range who {
		v = append(v, api.Vote{From: x, Slot: slot, Head: head})
	}
	return v
}

// cheers are n votes for the beginning of the twelve, slot by slot.
func cheers(n int) []api.Vote {
	var v []api.Vote
	for i := range n {
		v = append(v, api.Vote{From: i % 12, Slot: 1 + i/12})
	}
	return v
}

// turned is l from behind on.
func turned[T any](l []T) []T {
	m := slices.Clone(l)
	slices.Reverse(m)
	return m
}

// mixed is l in another order, which hangs on the seed alone.
func mixed[T any](l []T, seed uint64) []T {
	m := slices.Clone(l)
	for i := len(m) - 1; i > 0; i-- {
		k := int(mix.Step(seed, uint64(i)) % uint64(i+1))
		m[i], m[k] = m[k], m[i]
	}
	return m
}

func mixedView(w api.View, seed uint64) api.View {
	return api.View{B: mixed(w.B, seed), V: mixed(w.V, seed+1<<32)}
}

// parentsOfTwins are two blocks of slot 2 by who proposes then in five, and alone.
func parentsOfTwins() []api.Block {
	return []api.Block{{Slot: 2, Salt: 7176063159447515175}, {Slot: 2, Salt: 6970134728694345617}}
}

// twins were searched for: they may come in five, and alone, are not the same, but have one name; each stands on one of their parents.
func twins() []api.Block {
	n := names(parentsOfTwins())
	return []api.Block{{Slot: 3, Parent: n[0]}, {Slot: 3, Parent: n[1], Salt: 13026110333328645726}}
}

// nameless was searched for: its name is the beginning's, and for all else it might come in five, and alone.
func nameless() api.Block {
	return api.Block{Slot: 3, Parent: api.ID{17334545780780834460, 6021778008773410311}, Salt: 12613552900716078613}
}

// numbers are edges: of slots, of validators, and of whole numbers.
func numbers() []int {
	return []int{math.MinInt, math.MinInt + 1, -1 << 62, -1 << 32, -last, -2, -1, 0, 1, 2, 4, 5, 11, 12, last - 1, last, last + 1, 1 << 31, 1 << 32, 1<<32 + 1, 1 << 62, math.MaxInt - 1, math.MaxInt}
}

// wrongSlots has those as well that would be right, if they were cut to four bytes or had no sign.
func wrongSlots() []int {
	return []int{0, -1, -2, -8, -last, last + 1, last + 2, 2 * last, 1<<31 - 1, 1 << 31, 1 << 32, 1<<32 + 1, 1<<32 + last,
		1 << 62, -1 << 32, -1<<32 + 1, math.MinInt, math.MinInt + 1, math.MinInt + 8, math.MaxInt - 1, math.MaxInt}
}

// strangers are no validators of n; some would be, as a remainder by n, or cut to four bytes or to one.
func strangers(n int) []int {
	return []int{-1, -2, -n, -n - 1, -12, -256, n, n + 1, 2*n - 1, 2 * n, 256, 1000, 1 << 31, 1 << 32, 1<<32 + n - 1, -1 << 32,
		math.MinInt, math.MinInt + 1, math.MaxInt - 1, math.MaxInt}
}

// wrongConfs are such as are beyond just one edge, by why they may not be.
func wrongConfs() map[string]api.Conf {
	all := map[string]api.Conf{"noughts": {}}
	add := func(why string, x int, change func(c *api.Conf)) {
		c := five()
		change(&c)
		all[why+" "+strconv.Itoa(x)] = c
	}
	add("weights, nil", 0, func(c *api.Conf) { c.W = nil })
	add("weights", 0, func(c *api.Conf) { c.W = []int{} })
	for _, n := range []int{13, 14, 1000, 1001} {
		add("weights", n, func(c *api.Conf) { c.W = slices.Repeat([]int{100}, n) })
	}
	for _, w := range []int{-1, -heavy, math.MinInt, heavy + 1, 1 << 62, math.MaxInt} {
		for i := range 5 {
			add("the weight of "+strconv.Itoa(i), w, func(c *api.Conf) { c.W[i] = w })
		}
	}
	for _, x := range []int{0, -1, -2, 9, math.MinInt, math.MaxInt} {
		add("Epoch", x, func(c *api.Conf) { c.Epoch = x })
	}
	for _, x := range []int{-1, 5, math.MinInt, math.MaxInt} {
		add("Num", x, func(c *api.Conf) { c.Num = x })
	}
	for _, x := range []int{0, -1, 1001, math.MinInt, math.MaxInt} {
		add("Num of 0, and Den", x, func(c *api.Conf) { c.Num, c.Den = 0, x })
	}
	return all
}

// some is from 0 to n less 1, and hangs on the seed and the turn alone.
func some(seed uint64, turn, n int) int {
	return int(mix.Step(seed, uint64(turn)) % uint64(n))
}

// someConf is one by words that hang on the seed alone.
func someConf(seed uint64) api.Conf {
	return conf(1+some(seed, 200, 12), mix.Step(seed, 300), 1+some(seed, 203, 8))
}

// someBlocks are n of slots from one on, of few slots, some of which are on what is unknown, or on one that is not of a lesser slot; in another order, some twice, and some of who does not propose.
func someBlocks(c api.Conf, seed uint64, n int) []api.Block {
	var l []api.Block
	for i := range n {
		parents := append([]api.ID{stranger, beginning, beginning, beginning}, names(l)...)
		on := parents[some(seed, 2000+i, len(parents))]
		b := block(c, 1+some(seed, 1000+i, 3)+i/2, on, uint64(some(seed, 3000+i, 3)))
		if some(seed, 4000+i, 40) == 0 {
			b.From++
		}
		l = append(l, b)
		if some(seed, 5000+i, 8) == 0 {
			l = append(l, l[some(seed, 6000+i, len(l))])
		}
	}
	return mixed(l, seed)
}

// someVotes are n votes of the committees of few slots, some of others, for some of the blocks, for the beginning, and for what is not known; some are there twice.
func someVotes(c api.Conf, seed uint64, l []api.Block, n int) []api.Vote {
	heads := append([]api.ID{beginning, beginning, beginning, stranger}, names(l)...)
	var all []api.Vote
	for i := range n {
		v := api.Vote{Slot: 1 + some(seed, 7000+i, 2+len(l)), Head: heads[some(seed, 8000+i, len(heads))]}
		v.From = some(seed, 9000+i, len(c.W)+1)
		if in := duty.Committee(c, v.Slot); len(in) > 0 && some(seed, 10000+i, 6) > 0 {
			v.From = in[v.From%len(in)]
		}
		all = append(all, v)
		if some(seed, 11000+i, 8) == 0 {
			all = append(all, all[some(seed, 12000+i, len(all))])
		}
	}
	return all
}

// someView is what comes of blocks and votes by words that hang on the seed alone, at times more than there is room for.
func someView(c api.Conf, seed uint64) api.View {
	l := someBlocks(c, seed, some(seed, 400, 120))
	return api.View{B: l, V: someVotes(c, seed, l, some(seed, 401, 500))}
}

// someAsked is asked by words that hang on the seed alone: of what comes a part is counted before; of two in eight the view has as well what may be there already, or may not come.
func someAsked(seed uint64) asked {
	a := asked{c: someConf(seed), slot: some(seed, 500, 90)}
	a.in = someView(a.c, seed)
	first := api.View{B: a.in.B[:some(seed, 501, len(a.in.B)+1)], V: a.in.V[:some(seed, 502, len(a.in.V)+1)]}
	a.w = asked{a.c, api.View{}, first, some(seed, 503, 90)}.plainly().w
	if seed%8 == 0 {
		a.w = both(a.w, api.View{B: a.in.B[:min(len(a.in.B), 1)]})
	}
	if seed%8 == 1 {
		a.w = both(a.w, api.View{V: a.in.V[:min(len(a.in.V), 1)]})
	}
	return a
}
