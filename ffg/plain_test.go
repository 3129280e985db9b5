package ffg_test

import (
	"cmp"
	"math"
	"slices"
	"strconv"
	"testing"

	"marigold/api"
	"marigold/duty"
	"marigold/ffg"
	"marigold/mix"
	"marigold/tree"
)

const (
	top   = 1<<64 - 1
	heavy = 1 << 40
	last  = 1 << 20
)

// beginning and first are spelt out here once more, as the document has them.
var (
	beginning = api.ID{0, 0}
	first     = api.Check{Epoch: 0, Root: api.ID{0, 0}}
)

// mayOf says the same as the chapter's words of a link.
func mayOf(c api.Conf, l []api.Block, x api.Link) bool {
	if !duty.May(c) || !tree.May(l) || x.From < 0 || x.From >= len(c.W) {
		return false
	}
	if x.Src.Epoch < 0 || x.Src.Epoch >= x.Tgt.Epoch || x.Tgt.Epoch > last {
		return false
	}
	return tree.Under(l, x.Src.Root, x.Tgt.Root)
}

// strongOf says the same as P11.1, validator by validator.
func strongOf(c api.Conf, l []api.Block, v []api.Link, src, tgt api.Check) bool {
	sum, total, some := 0, 0, false
	for who, w := range c.W {
		total += w
		x := api.Link{From: who, Src: src, Tgt: tgt}
		if slices.Contains(v, x) && mayOf(c, l, x) {
			sum += w
			some = true
		}
	}
	return some && 3*sum >= 2*total
}

// justOf says the same as P11.2, going through all links again till one way through them brings nothing.
func justOf(c api.Conf, l []api.Block, v []api.Link) []api.Check {
	if !duty.May(c) || !tree.May(l) {
		return nil
	}
	just := []api.Check{first}
	for n := 0; n < len(just); {
		n = len(just)
		for _, x := range v {
			if slices.Contains(just, x.Src) && !slices.Contains(just, x.Tgt) && strongOf(c, l, v, x.Src, x.Tgt) {
				just = append(just, x.Tgt)
			}
		}
	}
	return ordered(just...)
}

// ordered are checkpoints by epoch, and then by root, word by word.
func ordered(l ...api.Check) []api.Check {
	slices.SortFunc(l, func(a, b api.Check) int {
		return cmp.Or(cmp.Compare(a.Epoch, b.Epoch), slices.Compare(a.Root[:], b.Root[:]))
	})
	return l
}

// finalOf says the same as P11.2, target by target, and one between by one.
func finalOf(c api.Conf, l []api.Block, v []api.Link) []api.Check {
	just := justOf(c, l, v)
	var final []api.Check
	for _, one := range just {
		is := one == first
		for _, tgt := range just {
			next := tgt.Epoch == one.Epoch+1
			for _, mid := range just {
				between := mid.Epoch == one.Epoch+1 && tree.Under(l, one.Root, mid.Root) && tree.Under(l, mid.Root, tgt.Root)
				next = next || tgt.Epoch == one.Epoch+2 && between
			}
			is = is || next && strongOf(c, l, v, one, tgt)
		}
		if is {
			final = append(final, one)
		}
	}
	return final
}

// check holds all four calls against the plain ones, the first two at each link.
func check(t *testing.T, c api.Conf, l []api.Block, v []api.Link) {
	t.Helper()
	for _, x := range v {
		if got, want := ffg.May(c, l, x), mayOf(c, l, x); got != want {
			t.Errorf("%v, %v: that %v may be is %t", c, l, x, got)
		}
		if got, want := ffg.Strong(c, l, v, x.Src, x.Tgt), strongOf(c, l, v, x.Src, x.Tgt); got != want {
			t.Errorf("%v, %v, %v: that from %v to %v is strong is %t", c, l, v, x.Src, x.Tgt, got)
		}
	}
	checkLists(t, c, l, v, justOf(c, l, v), finalOf(c, l, v))
}

// checkLists holds what is justified, and final, against what is written out.
func checkLists(t *testing.T, c api.Conf, l []api.Block, v []api.Link, just, final []api.Check) {
	t.Helper()
	if got := ffg.Just(c, l, v); !slices.Equal(got, just) {
		t.Errorf("%v, %v, %v: justified is %v, not %v", c, l, v, got, just)
	}
	if got := ffg.Final(c, l, v); !slices.Equal(got, final) {
		t.Errorf("%v, %v, %v: final is %v, not %v", c, l, v, got, final)
	}
}

// conf has n weights, so that no two sets of validators weigh the same.
func conf(n int) api.Conf {
	c := api.Conf{Seed: 7, Epoch: 2, Num: 1, Den: 4}
	for i := range n {
		c.W = append(c.W, 1<<i)
	}
	return c
}

// weighing has just these weights.
func weighing(w ...int) api.Conf {
	c := conf(1)
	c.W = w
	return c
}

// even has n weights that are the same.
func even(n, w int) api.Conf {
	return weighing(slices.Repeat([]int{w}, n)...)
}

// grow makes blocks by where their parents are (-1: on the beginning), of slots that rise.
func grow(parents ...int) []api.Block {
	var l []api.Block
	for i, p := range parents {
		b := api.Block{Slot: i + 1, From: i % 12, Salt: uint64(i)}
		if p >= 0 {
			b.Parent = tree.Name(l[p])
		}
		l = append(l, b)
	}
	return l
}

// bush has forks at several heights, and three blocks on the beginning.
func bush() []api.Block {
	return grow(-1, 0, -1, 0, 1, 2, 1, -1, 6, 0)
}

// line is n blocks, each on the one ahead of it.
func line(n int) []api.Block {
	parents := make([]int, n)
	for i := range parents {
		parents[i] = i - 1
	}
	return grow(parents...)
}

// alike are n blocks on the beginning whose names have the same in one of their two words, and differ in the other one alone: the salt undoes in that word what From does to it.
func alike(word, slot, n int) []api.Block {
	turn := [2]uint64{0, top}[word]
	mixed := func(from int) uint64 {
		h := uint64(word + 1)
		for _, x := range []uint64{1, uint64(slot), uint64(from), 0, 0} {
			h = mix.Step(h, x^turn)
		}
		return h
	}
	var l []api.Block
	for from := range n {
		l = append(l, api.Block{Slot: slot, From: from, Salt: mixed(0) ^ mixed(from)})
	}
	return l
}

// names are those of all blocks, in order.
func names(l []api.Block) []api.ID {
	var all []api.ID
	for _, b := range l {
		all = append(all, tree.Name(b))
	}
	return all
}

// known are the beginning and all names.
func known(l []api.Block) []api.ID {
	return append([]api.ID{beginning}, names(l)...)
}

// unknown are neither the beginning nor a name of any block here; the last ones differ from these in a word or a bit.
func unknown(l []api.Block) []api.ID {
	all := []api.ID{{0, 1}, {1, 0}, {7, 7}, {0, top}, {top, 0}, {top, top}, {1 << 63, 1 << 63}, tree.Name(api.Block{Slot: 999, From: 999})}
	for _, x := range names(l) {
		all = append(all, api.ID{x[1], x[0]}, api.ID{x[0], 0}, api.ID{0, x[1]}, api.ID{x[0], x[1] ^ 1}, api.ID{x[0] ^ 1<<63, x[1]})
	}
	return all
}

func ids(l []api.Block) []api.ID {
	return append(known(l), unknown(l)...)
}

// strangers are no validators of n; some would be, as a remainder by n, or cut to four bytes or to one.
func strangers(n int) []int {
	return []int{-1, -2, -n, -n - 1, -12, -256, n, n + 1, 2*n - 1, 2 * n, 256, 1000, 1 << 31, 1 << 32, 1<<32 + n - 1, -1 << 32,
		math.MinInt, math.MinInt + 1, math.MaxInt - 1, math.MaxInt}
}

func at(epoch int, root api.ID) api.Check {
	return api.Check{Epoch: epoch, Root: root}
}

// of are the links of some from one checkpoint to another one.
func of(src, tgt api.Check, who ...int) []api.Link {
	var v []api.Link
	for _, x := range who {
		v = append(v, api.Link{From: x, Src: src, Tgt: tgt})
	}
	return v
}

// path is a link of 0 from the first checkpoint to the first one of these, from that to the second one, and so on.
func path(l ...api.Check) []api.Link {
	var v []api.Link
	src := first
	for _, tgt := range l {
		v = append(v, api.Link{Src: src, Tgt: tgt})
		src = tgt
	}
	return v
}

// all12 are all validators of the greatest conf.
func all12() []int {
	return []int{0, 1, 2, 3, 4, 5, 6, 7, 8, 9, 10, 11}
}

// crowd has links on several branches of the bush, over several epochs, in no order: some of enough, some of too few, some there twice, some of who is no validator, and some that may not be.
func crowd() []api.Link {
	n := names(bush())
	return slices.Concat(
		of(at(2, n[1]), at(3, n[8]), 0, 1, 2, 3),
		of(first, at(1, n[0]), 4, 3, 2, 2, 3),
		of(first, at(1, n[2]), 4, 3, -1, 5),
		of(at(1, n[0]), at(2, n[1]), 4, 3, 4),
		of(at(2, n[1]), at(4, n[4]), 3, 4),
		of(first, at(3, n[6]), 3, 4),
		of(at(1, n[2]), at(2, n[1]), 0, 1, 2, 3, 4),
		of(at(1, n[0]), at(2, n[3]), 0, 1, 2, 3),
		of(at(1, n[2]), at(2, n[5]), 3, 4),
		of(at(1, n[7]), at(2, n[7]), 3, 4),
		of(first, at(1, api.ID{7, 7}), 0, 1, 2, 3, 4),
		of(at(-1, beginning), at(1, n[7]), 0, 1, 2, 3, 4),
		of(at(4, n[4]), at(last, n[4]), 0, 3, 4),
		of(at(4, n[4]), at(last+1, n[4]), 0, 3, 4),
		of(first, at(1, n[0]), 1),
	)
}

// wrongConfs are such as are beyond just one edge, by why they may not be.
func wrongConfs() map[string]api.Conf {
	all := map[string]api.Conf{"noughts": {}}
	add := func(why string, x int, change func(c *api.Conf)) {
		c := conf(5)
		change(&c)
		all[why+" "+strconv.Itoa(x)] = c
	}
	add("weights, nil", 0, func(c *api.Conf) { c.W = nil })
	add("weights", 0, func(c *api.Conf) { c.W = []int{} })
	for _, n := range []int{13, 14, 1000} {
		add("weights", n, func(c *api.Conf) { c.W = slices.Repeat([]int{1}, n) })
	}
	for _, w := range []int{-1, -heavy, math.MinInt, heavy + 1, 1 << 62, math.MaxInt} {
		for i := range 5 {
			add("the weight of "+strconv.Itoa(i), w, func(c *api.Conf) { c.W[i] = w })
		}
	}
	for _, x := range []int{0, -1, 9, math.MinInt, math.MaxInt} {
		add("Epoch", x, func(c *api.Conf) { c.Epoch = x })
	}
	for _, x := range []int{-1, 5, math.MinInt, math.MaxInt} {
		add("Num", x, func(c *api.Conf) { c.Num = x })
	}
	for _, x := range []int{0, -1, 1001, math.MinInt, math.MaxInt} {
		add("Num of 0, and Den", x, func(c *api.Conf) { c.Num, c.Den = 0, x })
	}
	return all
}

// wrongBlocks are such as may not be, by why; two of them were searched for: one block whose name is the beginning's, and two of one name.
func wrongBlocks() map[string][]api.Block {
	l := bush()
	child := api.Block{Slot: 2, Parent: tree.Name(l[0])}
	nameless := api.Block{Slot: 4386925562764349927, From: -6943071948554506534, Salt: 13775616248727150990}
	twins := []api.Block{{Slot: 3101226054416760429, From: 1}, {Slot: 4619033793057862324, Salt: 6655185758041175899}}
	return map[string][]api.Block{
		"a parent that is left out":  l[1:],
		"a parent behind":            append([]api.Block{l[1]}, l...),
		"turned round":               {child, l[0]},
		"one twice":                  append(bush(), l[3]),
		"a slot of 0":                append(bush(), api.Block{}),
		"a slot below 0":             append(bush(), api.Block{Slot: -1}),
		"a slot that does not rise":  append(bush(), api.Block{Slot: 1, Parent: tree.Name(l[0])}),
		"a slot that falls":          append(bush(), api.Block{Slot: 1, Parent: tree.Name(l[1])}),
		"a parent that is not known": append(bush(), api.Block{Slot: 50, Parent: api.ID{7, 7}}),
		"the beginning's name":       append(bush(), nameless),
		"two of one name":            append(bush(), twins...),
	}
}
