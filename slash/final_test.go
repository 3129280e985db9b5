package slash_test

import (
	"slices"
	"testing"

	"marigold/api"
	"marigold/duty"
	"marigold/ffg"
	"marigold/mix"
	"marigold/slash"
	"marigold/tree"
)

// fork is a trunk of one block, and two branches of three blocks each on it: 0, then 1, 2, 3, and 4, 5, 6.
func fork() []api.Block {
	l := []api.Block{{Slot: 1}}
	for branch := range 2 {
		parent := tree.Name(l[0])
		for i := range 3 {
			b := api.Block{Slot: i + 2, From: branch, Parent: parent}
			parent = tree.Name(b)
			l = append(l, b)
		}
	}
	return l
}

// twigs are two blocks on the beginning.
func twigs() []api.Block {
	return []api.Block{{Slot: 1}, {Slot: 1, From: 1}}
}

func weighing(w ...int) api.Conf {
	return api.Conf{W: w, Seed: 7, Epoch: 2, Num: 1, Den: 4}
}

func even(n, w int) api.Conf {
	return weighing(slices.Repeat([]int{w}, n)...)
}

func at(epoch int, b api.Block) api.Check {
	return api.Check{Epoch: epoch, Root: tree.Name(b)}
}

// of are the links of some from one checkpoint to another one.
func of(who []int, src, tgt api.Check) []api.Link {
	var v []api.Link
	for _, x := range who {
		v = append(v, api.Link{From: x, Src: src, Tgt: tgt})
	}
	return v
}

// path are the links of some from the first one of these to the second one, from that to the third one, and so on.
func path(who []int, l ...api.Check) []api.Link {
	var v []api.Link
	for i := 1; i < len(l); i++ {
		v = append(v, of(who, l[i-1], l[i])...)
	}
	return v
}

// isSplit tells whether two are final of which neither one's block is under the other one's.
func isSplit(c api.Conf, l []api.Block, v []api.Link) bool {
	final := ffg.Final(c, l, v)
	for i, a := range final {
		for _, b := range final[:i] {
			if !tree.Under(l, a.Root, b.Root) && !tree.Under(l, b.Root, a.Root) {
				return true
			}
		}
	}
	return false
}

// tally counts how often two were final on two branches, and how often the guilty weighed just a third then.
type tally struct{ split, just int }

// hold holds P12.3, and counts.
func (n *tally) hold(t *testing.T, c api.Conf, l []api.Block, v []api.Link) {
	t.Helper()
	if !isSplit(c, l, v) {
		return
	}
	n.split++
	who := slash.Guilty(v)
	switch three, total := 3*duty.Weight(c, who), duty.Total(c); {
	case three < total && !t.Failed():
		t.Errorf("%v, %v, %v: final on two branches are some of %v, but guilty are only %v", c, l, v, ffg.Final(c, l, v), who)
	case three == total:
		n.just++
	}
}

// splits are links by which checkpoints on two branches of the fork are final, of some for the one and of some for the other one, by how they are.
func splits(one, other []int) map[string][]api.Link {
	l := fork()
	first, trunk := api.Check{}, at(1, l[0])
	all := slices.Concat(one, other)
	both := func(v, w []api.Link) []api.Link { return slices.Concat(v, w) }
	middle := func(from int) []api.Link {
		return slices.Concat(path(one, first, at(from, l[1]), at(from+2, l[3])), path(one, first, at(from+1, l[2])))
	}
	return map[string][]api.Link{
		"one epoch":                both(path(one, first, at(1, l[1]), at(2, l[2])), path(other, first, at(1, l[4]), at(2, l[5]))),
		"over a trunk":             slices.Concat(path(all, first, trunk), path(one, trunk, at(2, l[1]), at(3, l[2])), path(other, trunk, at(2, l[4]), at(3, l[5]))),
		"one epoch later":          both(path(one, first, at(1, l[1]), at(2, l[1])), path(other, first, at(2, l[4]), at(3, l[4]))),
		"two epochs later":         both(path(one, first, at(1, l[1]), at(2, l[2])), path(other, first, at(3, l[4]), at(4, l[5]))),
		"far later":                both(path(one, first, at(1, l[1]), at(2, l[2])), path(other, first, at(1000, l[4]), at(1001, l[5]))),
		"later, over a trunk":      slices.Concat(path(all, first, trunk), path(one, trunk, at(5, l[1]), at(6, l[2])), path(other, trunk, at(9, l[4]), at(10, l[5]))),
		"along":                    both(path(one, first, at(1, l[1]), at(2, l[2]), at(3, l[3])), path(other, first, at(4, l[4]), at(5, l[5]), at(6, l[6]))),
		"the last epochs":          both(path(one, first, at(1, l[1]), at(2, l[2])), path(other, first, at(api.MaxSlot-1, l[4]), at(api.MaxSlot, l[5]))),
		"a middle one":             both(middle(1), path(other, first, at(1, l[4]), at(2, l[5]))),
		"the other one as middle":  both(middle(1), path(other, first, at(2, l[4]), at(3, l[5]))),
		"the other one as target":  both(middle(1), path(other, first, at(3, l[4]), at(4, l[5]))),
		"the other one as behind":  both(middle(1), path(other, first, at(4, l[4]), at(5, l[5]))),
		"the other one ahead":      both(middle(3), path(other, first, at(1, l[4]), at(2, l[5]))),
		"the other one spans it":   both(middle(2), path(other, first, at(1, l[4]), at(9, l[5]), at(10, l[6]))),
		"the one spans the other":  both(path(other, first, at(1, l[4]), at(2, l[5])), path(one, first, at(40, l[1]), at(41, l[2]))),
		"links from the beginning": both(path(one, first, at(1, l[1]), at(2, l[2])), slices.Concat(path(other, first, at(7, l[4])), path(other, at(7, l[4]), at(8, l[4])))),
	}
}

// P12.3: two are final on two branches, and guilty are just those who voted for both, who weigh just a third of the total, or more; written out.
func TestSplits(t *testing.T) {
	for _, x := range []struct {
		c                  api.Conf
		one, other, guilty []int
		just               int
	}{
		{even(3, 1), []int{0, 1}, []int{1, 2}, []int{1}, 1},
		{even(3, api.MaxWeight), []int{2, 0}, []int{1, 0}, []int{0}, 1},
		{even(6, 7), []int{0, 1, 2, 3}, []int{2, 3, 4, 5}, []int{2, 3}, 1},
		{even(12, api.MaxWeight), []int{0, 1, 2, 3, 4, 5, 6, 7}, []int{11, 10, 9, 8, 7, 6, 5, 4}, []int{4, 5, 6, 7}, 1},
		{weighing(2, 1, 3, 2, 1), []int{0, 1, 2}, []int{2, 3, 4}, []int{2}, 1},
		{weighing(5, 0, 5, 5, 0), []int{0, 1, 2}, []int{3, 2, 4}, []int{2}, 1},
		{weighing(1, 1, 3, 4), []int{0, 1, 3}, []int{3, 2}, []int{3}, 0},
		{even(4, 1), []int{0, 1, 2}, []int{1, 2, 3}, []int{1, 2}, 0},
		{even(5, 3), []int{0, 1, 2, 4}, []int{0, 1, 2, 3, 4}, []int{0, 1, 2, 4}, 0},
		{weighing(1, 0), []int{0}, []int{0, 1}, []int{0}, 0},
		{weighing(0, 0), []int{0}, []int{1}, nil, 1},
	} {
		for why, v := range splits(x.one, x.other) {
			t.Run(why, func(t *testing.T) {
				var n tally
				n.hold(t, x.c, fork(), v)
				if n != (tally{1, x.just}) {
					t.Errorf("%v, %v: it counts as %v", x.c, v, n)
				}
				checkGuilty(t, v, x.guilty...)
				slices.Reverse(v)
				checkGuilty(t, v, x.guilty...)
			})
		}
	}
}

// P12.3: links that bring nothing, of the same ones and of others, let nobody go.
func TestSplitsAmongOthers(t *testing.T) {
	c, first := even(3, 1), api.Check{}
	for why, v := range splits([]int{0, 1}, []int{1, 2}) {
		t.Run(why, func(t *testing.T) {
			idle := slices.Concat(of([]int{-1, 3, 3}, first, at(2, fork()[6])), path([]int{0, 2}, first, api.Check{Epoch: 70, Root: api.ID{7, 7}}, at(71, fork()[0])))
			for i := range len(v) + 1 {
				var n tally
				n.hold(t, c, fork(), slices.Concat(v[i:], idle, v[:i]))
				if n.split != 1 {
					t.Error("it is split no more")
				}
			}
		})
	}
}

// P12.3: on one branch all may be final, and nobody is guilty; nor is who voted for one branch alone, where the other one is not final.
func TestNoSplit(t *testing.T) {
	l, first := fork(), api.Check{}
	v := path([]int{0, 1, 2}, first, at(1, l[0]), at(2, l[1]), at(3, l[2]), at(4, l[3]), at(5, l[3]))
	lone := path([]int{3}, first, at(1, l[0]), at(2, l[4]), at(3, l[5]), at(4, l[6]))
	for _, x := range [][]api.Link{v, slices.Concat(v, lone), slices.Concat(lone, v, v)} {
		if n := len(ffg.Final(even(4, 1), l, x)); n != 5 || isSplit(even(4, 1), l, x) {
			t.Errorf("%v: %d are final", x, n)
		}
		checkGuilty(t, x)
	}
}

// ways are the links of nobody yet along two branches of a block each: from the first checkpoint to one of three epochs, and from one of these to a later one.
func ways(l []api.Block) []api.Link {
	var all []api.Link
	for _, b := range l {
		for tgt := 1; tgt <= 3; tgt++ {
			all = append(all, api.Link{Tgt: at(tgt, b)})
			for src := 1; src < tgt; src++ {
				all = append(all, api.Link{Src: at(src, b), Tgt: at(tgt, b)})
			}
		}
	}
	return all
}

// P12.3: all sets of up to five ways on two blocks on the beginning, gone by any two of three validators each.
func TestSmallSplits(t *testing.T) {
	c, l, n := even(3, 1), twigs(), tally{}
	var grow func(left int, rest, v []api.Link)
	grow = func(left int, rest, v []api.Link) {
		n.hold(t, c, l, v)
		if left == 0 {
			return
		}
		for i, x := range rest {
			for _, who := range [][]int{{0, 1}, {2, 1}, {0, 2}} {
				grow(left-1, rest[i+1:], append(slices.Clone(v), of(who, x.Src, x.Tgt)...))
			}
		}
	}
	grow(5, ways(l), nil)
	if n.split < 500 || n.just < 50 || n.just >= n.split {
		t.Errorf("too few were split for this to tell: %v", n)
	}
}

// chance tells numbers below another one that hang on a first one alone.
func chance(seed uint64) func(below int) int {
	return func(below int) int {
		seed = mix.Step(seed, 1)
		return int(seed % uint64(below))
	}
}

// someSplit has links of some on two branches of the fork, over epochs that rise by one or two, mostly, with some more into the next epoch, and some of whoever it is.
func someSplit(some func(branch int) []int, word func(below int) int) []api.Link {
	l := fork()
	var v []api.Link
	for branch := range 2 {
		src := api.Check{}
		for i := 1; i <= 3; i++ {
			tgt := at(src.Epoch+1+word(2)+word(9)/8*20, l[branch*3+i])
			v = append(v, of(some(branch), src, tgt)...)
			if word(3) == 0 {
				v = append(v, of(some(branch), src, api.Check{Epoch: src.Epoch + 1, Root: tgt.Root})...)
			}
			src = tgt
		}
	}
	for range word(6) {
		src := at(word(5), l[word(len(l))])
		v = append(v, of([]int{word(api.MaxVals)}, src, at(src.Epoch+word(4), l[word(len(l))]))...)
	}
	return v
}

// below are the numbers below n that f takes.
func below(n int, f func(x int) bool) []int {
	var all []int
	for x := range n {
		if f(x) {
			all = append(all, x)
		}
	}
	return all
}

// P12.3: many confs of all sizes, where most vote on both branches.
func TestSomeSplits(t *testing.T) {
	l, n := fork(), tally{}
	for seed := range uint64(4000) {
		word := chance(seed)
		c := weighing()
		for range 1 + word(api.MaxVals) {
			c.W = append(c.W, 1+word(1+word(5)))
		}
		most := func(int) []int { return below(len(c.W), func(int) bool { return word(7) > 0 }) }
		n.hold(t, c, l, someSplit(most, word))
	}
	if n.split < 1000 {
		t.Errorf("too few were split for this to tell: %v", n)
	}
}

// P12.3: confs of validators who weigh the same, two thirds of whom vote on each branch.
func TestTightSplits(t *testing.T) {
	l, n := fork(), tally{}
	for seed := range uint64(4000) {
		word := chance(seed)
		size := 3 * (1 + word(4))
		twoThirds := func(branch int) []int {
			return below(size, func(x int) bool { return branch == 0 && 3*x < 2*size || branch == 1 && 3*x >= size })
		}
		n.hold(t, even(size, 1+word(api.MaxWeight)), l, someSplit(twoThirds, word))
	}
	if n.split < 1000 || n.just < 500 || n.just >= n.split {
		t.Errorf("too few were split for this to tell: %v", n)
	}
}
