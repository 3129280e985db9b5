package array_test

import (
	"math"
	"slices"
	"strconv"
	"sync"
	"testing"

	"marigold/api"
	"marigold/array"
	"marigold/duty"
	"marigold/ghost"
	"marigold/tree"
	"marigold/votes"
	"marigold/weigh"
)

// rowsFrom says the same as P10.3: a row of each block, and on it what of its voters' weights finds room, vote by vote.
func rowsFrom(c api.Conf, l []api.Block, v []api.Vote) []row {
	if !duty.May(c) || !tree.May(l) || len(l) > 60 {
		return nil
	}
	var rows []row
	for _, b := range l {
		rows = append(rows, row{tree.Name(b), tree.Find(l, b.Parent), 0})
	}
	for _, x := range v {
		for who, w := range c.W {
			i := tree.Find(l, x.Head)
			if x.From == who && i != none && rows[i].own+w <= most {
				rows[i].own += w
			}
		}
	}
	return rows
}

// checkFrom holds From against a plain going through the votes.
func checkFrom(t *testing.T, c api.Conf, l []api.Block, v []api.Vote) {
	t.Helper()
	check(t, array.From(c, l, v), rowsFrom(c, l, v))
}

// byCalls is what Insert and Move make of blocks and votes.
func byCalls(t *testing.T, c api.Conf, l []api.Block, v []api.Vote) []api.Item {
	t.Helper()
	var a []api.Item
	for _, b := range l {
		a = inserted(t, a, tree.Name(b), b.Parent)
	}
	for _, x := range v {
		if x.From < 0 || x.From >= len(c.W) {
			continue
		}
		if b, err := array.Move(a, x.Head, c.W[x.From]); err == api.OK {
			a = b
		}
	}
	return a
}

// conf has n weights, so that no two sets of validators weigh the same.
func conf(n int) api.Conf {
	c := api.Conf{Seed: 7, Epoch: 2, Num: 1, Den: 4}
	for i := range n {
		c.W = append(c.W, 1<<i)
	}
	return c
}

// even has n weights that are the same.
func even(n, w int) api.Conf {
	c := conf(n)
	c.W = slices.Repeat([]int{w}, n)
	return c
}

// grow makes blocks by where their parents are (-1: on the beginning), of slots that rise, and of salts from one on.
func grow(salt uint64, parents ...int) []api.Block {
	var l []api.Block
	for i, p := range parents {
		b := api.Block{Slot: i + 1, From: i % 12, Salt: salt + uint64(i)}
		if p >= 0 {
			b.Parent = tree.Name(l[p])
		}
		l = append(l, b)
	}
	return l
}

// bushes are blocks with forks at several heights, and three blocks on the beginning.
func bushes(salt uint64) []api.Block {
	return grow(salt, -1, 0, -1, 0, 1, 2, 1, -1, 6, 0)
}

// blocks are n of them by where the parent of each is.
func blocks(n int, parent func(i int) int) []api.Block {
	parents := make([]int, n)
	for i := range parents {
		parents[i] = parent(i)
	}
	return grow(0, parents...)
}

// names are those of all blocks, in order.
func names(l []api.Block) []api.ID {
	var all []api.ID
	for _, b := range l {
		all = append(all, tree.Name(b))
	}
	return all
}

// known are the beginning and all names.
func known(l []api.Block) []api.ID {
	return append([]api.ID{beginning}, names(l)...)
}

// unknown are neither the beginning nor a name of any block here; the last ones differ from these in a word or a bit.
func unknown(l []api.Block) []api.ID {
	all := []api.ID{{0, 1}, {1, 0}, {7, 7}, {0, top}, {top, 0}, {top, top}, tree.Name(api.Block{Slot: 999, From: 999})}
	for _, x := range names(l) {
		all = append(all, api.ID{x[1], x[0]}, api.ID{x[0], 0}, api.ID{0, x[1]}, api.ID{x[0], x[1] ^ 1}, api.ID{x[0] ^ 1<<63, x[1]})
	}
	return all
}

// strangers are no validators of n; some would be, as a remainder by n, or cut to four bytes or to one.
func strangers(n int) []int {
	return []int{-1, -2, -n, -n - 1, -12, -256, n, n + 1, 2*n - 1, 2 * n, 256, 1000, 1 << 31, 1 << 32, 1<<32 + n - 1, -1 << 32,
		math.MinInt, math.MinInt + 1, math.MaxInt - 1, math.MaxInt}
}

// ballots is a vote of each for each of the heads, in turn from the validator 0 on.
func ballots(heads ...api.ID) []api.Vote {
	var v []api.Vote
	for who, head := range heads {
		v = append(v, api.Vote{From: who, Slot: 20, Head: head})
	}
	return v
}

// spread is a vote of each of twelve: of 0 to 9 for the blocks of the bush, of 10 for the beginning, of 11 for what is not known.
func spread() []api.Vote {
	var v []api.Vote
	for i, id := range append(names(bushes(0)), beginning, api.ID{7, 7}) {
		v = append(v, api.Vote{From: i, Slot: i, Head: id})
	}
	return v
}

// crowd has votes of some for several heads, on one branch and on several ones, some of them twice, some for what is not known, and some of who is no validator.
func crowd() []api.Vote {
	n := names(bushes(0))
	return []api.Vote{
		{From: 3, Slot: 9, Head: n[8]}, {From: 0, Slot: 2, Head: n[0]}, {From: 1, Slot: 3, Head: n[4]}, {From: 3, Slot: 9, Head: n[6]},
		{From: 2, Slot: 4, Head: n[5]}, {From: 1, Slot: 3, Head: n[4]}, {From: 2, Slot: 5, Head: n[9]}, {From: 4, Slot: 1},
		{From: -1, Slot: 3, Head: n[8]}, {From: 4, Slot: 1, Head: api.ID{7, 7}}, {From: 5, Slot: 1, Head: api.ID{7, 7}}, {From: 12, Slot: 3, Head: n[1]},
		{From: 0, Slot: 2, Head: n[7]}, {From: 6, Slot: 8, Head: n[3]}, {From: 6, Slot: 9}, {From: 3, Slot: 3, Head: n[2]},
	}
}

// wrongConfs are such as are beyond just one edge, by why they may not be.
func wrongConfs() map[string]api.Conf {
	all := map[string]api.Conf{"noughts": {}}
	add := func(why string, x int, change func(c *api.Conf)) {
		c := conf(5)
		change(&c)
		all[why+" "+strconv.Itoa(x)] = c
	}
	for _, n := range []int{0, 13, 1000} {
		add("weights", n, func(c *api.Conf) { c.W = slices.Repeat([]int{1}, n) })
	}
	for _, w := range []int{-1, math.MinInt, heavy + 1, math.MaxInt} {
		for i := range 5 {
			add("the weight of "+strconv.Itoa(i), w, func(c *api.Conf) { c.W[i] = w })
		}
	}
	for _, x := range []int{0, -1, 9, math.MinInt, math.MaxInt} {
		add("Epoch", x, func(c *api.Conf) { c.Epoch = x })
	}
	for _, x := range []int{-1, 5, math.MinInt, math.MaxInt} {
		add("Num", x, func(c *api.Conf) { c.Num = x })
	}
	for _, x := range []int{0, -1, 1001, math.MinInt, math.MaxInt} {
		add("Num of 0, and Den", x, func(c *api.Conf) { c.Num, c.Den = 0, x })
	}
	return all
}

// wrongBlocks are such as may not be, by why; two of them were searched for: one block whose name is the beginning's, and two of one name.
func wrongBlocks() map[string][]api.Block {
	l := bushes(0)
	child := api.Block{Slot: 2, Parent: tree.Name(l[0])}
	nameless := api.Block{Slot: 4386925562764349927, From: -6943071948554506534, Salt: 13775616248727150990}
	twins := []api.Block{{Slot: 3101226054416760429, From: 1}, {Slot: 4619033793057862324, Salt: 6655185758041175899}}
	more := func(b ...api.Block) []api.Block { return append(bushes(0), b...) }
	return map[string][]api.Block{
		"a parent that is left out":  l[1:],
		"a parent behind":            append([]api.Block{l[1]}, l...),
		"turned round":               {child, l[0]},
		"one twice":                  more(l[3]),
		"one alone twice":            {l[0], l[0]},
		"a slot of 0":                more(api.Block{}),
		"a slot of 0 alone":          {{}},
		"a slot below 0":             more(api.Block{Slot: -1}),
		"a slot that does not rise":  more(api.Block{Slot: 1, Parent: tree.Name(l[0])}),
		"a slot that falls":          more(api.Block{Slot: 1, Parent: tree.Name(l[1])}),
		"a parent that is not known": more(api.Block{Slot: 50, Parent: api.ID{7, 7}}),
		"the beginning's name":       more(nameless),
		"the beginning's name alone": {nameless},
		"two of one name":            more(twins...),
		"two of one name alone":      twins,
	}
}

// checkNothing holds that From tells nothing.
func checkNothing(t *testing.T, why string, c api.Conf, l []api.Block, v []api.Vote) {
	t.Helper()
	if a := array.From(c, l, v); len(a) != 0 {
		t.Errorf("%s: %v", why, a)
	}
}

// P10.3: votes on several branches, written out.
func TestFromWritten(t *testing.T) {
	l := bushes(0)
	n := names(l)
	for _, x := range []struct {
		c   api.Conf
		v   []api.Vote
		own []int
		w   []int
	}{
		{conf(12), nil, []int{0, 0, 0, 0, 0, 0, 0, 0, 0, 0}, []int{0, 0, 0, 0, 0, 0, 0, 0, 0, 0}},
		{conf(12), spread(), []int{1, 2, 4, 8, 16, 32, 64, 128, 256, 512}, []int{859, 338, 36, 8, 16, 32, 320, 128, 256, 512}},
		{conf(6), spread(), []int{1, 2, 4, 8, 16, 32, 0, 0, 0, 0}, []int{27, 18, 36, 8, 16, 32, 0, 0, 0, 0}},
		{conf(12), crowd(), []int{1, 0, 8, 64, 4, 4, 8, 1, 8, 4}, []int{89, 20, 12, 64, 4, 4, 16, 1, 8, 4}},
		{conf(2), crowd(), []int{1, 0, 0, 0, 4, 0, 0, 1, 0, 0}, []int{5, 4, 0, 0, 4, 0, 0, 1, 0, 0}},
		{even(3, heavy), ballots(n[4], n[4], n[5]), []int{0, 0, 0, 0, 2 * heavy, heavy, 0, 0, 0, 0}, []int{2 * heavy, 2 * heavy, heavy, 0, 2 * heavy, heavy, 0, 0, 0, 0}},
	} {
		a := array.From(x.c, l, x.v)
		if len(a) != len(l) {
			t.Fatalf("%v: %v", x.v, a)
		}
		for i, item := range a {
			if item.ID != n[i] || item.Parent != tree.Find(l, l[i].Parent) || item.Own != x.own[i] || item.W != x.w[i] {
				t.Errorf("%v: at %d is %v", x.v, i, item)
			}
		}
		checkFrom(t, x.c, l, x.v)
	}
}

// P10.3: without blocks there is nothing; with such as there are, all their names, in their order, on their parents.
func TestFromBlocks(t *testing.T) {
	for _, l := range [][]api.Block{nil, {}} {
		for _, v := range [][]api.Vote{nil, {}, spread(), ballots(beginning)} {
			checkNothing(t, "no blocks", conf(12), l, v)
		}
	}
	for salt := range uint64(5) {
		for n := range 6 {
			for _, parents := range trees(n) {
				l := grow(salt, parents...)
				checkFrom(t, conf(12), l, nil)
				checkFrom(t, conf(12), l, ballots(names(l)...))
			}
		}
	}
}

// P10.3: 59 and 60 blocks are told, more are not, however they stand, with as many votes as a view has.
func TestFromFull(t *testing.T) {
	for _, parent := range []func(i int) int{
		func(i int) int { return i - 1 }, func(int) int { return -1 }, func(i int) int { return (i+1)/2 - 1 }, func(i int) int { return max(i/2*2-2, -1) },
	} {
		for _, n := range []int{59, 60} {
			l := blocks(n, parent)
			ids := known(l)
			var v []api.Vote
			for i := range api.MaxVotes {
				v = append(v, api.Vote{From: i * 5 % 14, Slot: i, Head: ids[(i*i+i)%len(ids)]})
			}
			for _, c := range []api.Conf{conf(12), even(12, heavy), even(12, 1)} {
				checkFrom(t, c, l, v)
				checkFrom(t, c, l, nil)
			}
		}
		for _, n := range []int{61, 62, 100} {
			checkNothing(t, "too many blocks", conf(12), blocks(n, parent), nil)
			checkNothing(t, "too many blocks", conf(12), blocks(n, parent), ballots(names(blocks(n, parent))...))
		}
	}
}

// P10.3, P1: far more blocks, and far more votes, than a view has, in good time.
func TestFromFarMore(t *testing.T) {
	checkNothing(t, "far too many", conf(3), blocks(1<<14, func(i int) int { return i - 1 }), spread())
	l := bushes(0)
	ids := append(known(l), api.ID{7, 7})
	var v []api.Vote
	for i := range 1 << 17 {
		v = append(v, api.Vote{From: i % 13, Slot: i, Head: ids[i%len(ids)]})
	}
	a := array.From(even(12, 1), l, v)
	sum := 0
	for _, i := range []int{0, 2, 7} {
		sum += a[i].W
	}
	want := 0
	for i, x := range v {
		if i%len(ids) != 0 && i%len(ids) != len(ids)-1 && x.From < 12 {
			want++
		}
	}
	if sum != want {
		t.Errorf("%d are counted of %d", sum, want)
	}
}

// P10.3: nothing of confs that may not be, of blocks that may not be, and of both.
func TestFromWrong(t *testing.T) {
	for why, c := range wrongConfs() {
		if duty.May(c) {
			t.Fatalf("%s may be", why)
		}
		for _, v := range [][]api.Vote{nil, spread(), crowd()} {
			checkNothing(t, why, c, bushes(0), v)
			checkNothing(t, why, c, nil, v)
		}
	}
	for why, l := range wrongBlocks() {
		if tree.May(l) {
			t.Fatalf("%s may be", why)
		}
		for _, v := range [][]api.Vote{nil, spread(), ballots(names(l)...)} {
			checkNothing(t, why, conf(12), l, v)
			checkNothing(t, why, api.Conf{}, l, v)
		}
	}
}

// P10.3: confs on every edge of what may be; neither seed, epoch nor beta matters.
func TestFromRightConfs(t *testing.T) {
	want := array.From(conf(12), bushes(0), spread())
	for _, seed := range []uint64{0, 1, 1 << 63, top} {
		for _, epoch := range []int{1, 2, 7, 8} {
			for _, beta := range [][2]int{{0, 1}, {1, 1}, {0, 1000}, {1000, 1000}, {1, 4}} {
				c := conf(12)
				c.Seed, c.Epoch, c.Num, c.Den = seed, epoch, beta[0], beta[1]
				if a := array.From(c, bushes(0), spread()); !slices.Equal(a, want) {
					t.Errorf("%v: %v", c, a)
				}
			}
		}
	}
	for n := 1; n <= 12; n++ {
		for _, c := range []api.Conf{conf(n), even(n, 0), even(n, heavy)} {
			checkFrom(t, c, bushes(0), spread())
			checkFrom(t, c, bushes(0), crowd())
		}
	}
}

// P10.3: votes for the beginning, for what is not known, and of who is no validator do nothing, wherever they stand.
func TestFromVainVotes(t *testing.T) {
	c, l := conf(12), bushes(0)
	for _, base := range [][]api.Vote{nil, spread(), crowd()} {
		want := array.From(c, l, base)
		far, others := slices.Clone(base), slices.Clone(base)
		for i, head := range append(unknown(l), beginning) {
			far = slices.Insert(far, i%(len(far)+1), api.Vote{From: i % 12, Slot: i, Head: head})
		}
		for i, who := range strangers(12) {
			for _, head := range known(l) {
				others = slices.Insert(others, i%(len(others)+1), api.Vote{From: who, Slot: i, Head: head})
			}
		}
		slots, back := slices.Clone(base), slices.Clone(base)
		slices.Reverse(back)
		for i := range slots {
			slots[i].Slot = []int{math.MinInt, -1, 0, math.MaxInt}[i%4]
		}
		for why, v := range map[string][]api.Vote{"unknown heads": far, "no validators": others, "slots": slots, "turned": back} {
			if a := array.From(c, l, v); !slices.Equal(a, want) {
				t.Errorf("%s: it is\n%v, not\n%v", why, a, want)
			}
		}
	}
	for n := 1; n <= 12; n++ {
		for _, who := range strangers(n) {
			v := []api.Vote{{From: who, Slot: 1, Head: names(l)[3]}}
			if a := array.From(conf(n), l, v); !slices.Equal(a, array.From(conf(n), l, nil)) {
				t.Errorf("of %d: with a vote of %d it is %v", n, who, a)
			}
		}
	}
}

// P10.3: a vote that is there twice counts twice, as each one is moved; so do votes of somebody for several blocks.
func TestFromTwice(t *testing.T) {
	l := bushes(0)
	n := names(l)
	for times := 1; times <= 5; times++ {
		for who := range 4 {
			for i, head := range n {
				a := array.From(conf(4), l, slices.Repeat([]api.Vote{{From: who, Slot: 3, Head: head}}, times))
				if a[i].Own != times<<who {
					t.Errorf("%d times a vote of %d: at %d is %v", times, who, i, a[i])
				}
			}
		}
	}
	a := array.From(conf(3), l, []api.Vote{{From: 2, Slot: 3, Head: n[4]}, {From: 2, Slot: 3, Head: n[3]}, {From: 2, Slot: 3, Head: n[4]}})
	if a[0].W != 12 || a[1].W != 8 || a[4].Own != 8 || a[3].Own != 4 {
		t.Errorf("votes for two: %v", a)
	}
	checkFrom(t, conf(12), l, slices.Concat(crowd(), spread(), crowd()))
}

// P10.3: a block takes weight up to 2^50; a vote for which there is no room does nothing, and a lighter one behind it does, in order.
func TestFromNoRoom(t *testing.T) {
	l := bushes(0)
	n := names(l)
	c := even(3, heavy)
	c.W[1], c.W[2] = 1, 2
	full := func(who, times int) []api.Vote {
		return slices.Repeat([]api.Vote{{From: who, Slot: 1, Head: n[6]}}, times)
	}
	for _, x := range []struct {
		v   []api.Vote
		own int
	}{
		{full(0, 1023), most - heavy},
		{full(0, 1024), most},
		{full(0, 1025), most},
		{slices.Concat(full(0, 1024), full(1, 3)), most},
		{slices.Concat(full(1, 1), full(0, 1024)), most - heavy + 1},
		{slices.Concat(full(1, 1), full(0, 1024), full(1, 3)), most - heavy + 4},
		{slices.Concat(full(0, 512), full(2, 1), full(0, 512), full(1, 1)), most - heavy + 3},
		{slices.Concat(full(0, 1024), full(2, 1), ballots(n[8])), most},
	} {
		a := array.From(c, l, x.v)
		if a[6].Own != x.own {
			t.Errorf("%d votes: %v", len(x.v), a[6])
		}
		checkFrom(t, c, l, x.v)
	}
	both := slices.Concat(full(0, 1030), slices.Repeat(ballots(n[8]), 1030), slices.Repeat(ballots(n[0]), 1030))
	if a := array.From(c, l, both); a[6].W != 2*most || a[0].W != 3*most {
		t.Errorf("three that are full: %v", a)
	}
	checkFrom(t, c, l, both)
}

// P10.3: From tells what Insert and Move do, one by one.
func TestFromByCalls(t *testing.T) {
	for salt := range uint64(3) {
		for _, l := range [][]api.Block{bushes(salt), grow(salt, -1), grow(salt, -1, -1, -1, 0, 0, 0, 1, 1, 1, 2)} {
			for _, v := range [][]api.Vote{nil, spread(), crowd(), ballots(known(l)...), slices.Repeat(ballots(names(l)...), 4)} {
				for _, c := range []api.Conf{conf(12), conf(5), even(12, heavy), even(7, 0)} {
					if got, want := array.From(c, l, v), byCalls(t, c, l, v); !slices.Equal(got, want) {
						t.Errorf("%v, %v: it is\n%v, not\n%v", l, v, got, want)
					}
				}
			}
		}
	}
}

// holdsHead holds that the top is ghost's Head, and that what is on each block is weigh's On.
func holdsHead(t *testing.T, c api.Conf, l []api.Block, v []api.Vote) {
	t.Helper()
	a := array.From(c, l, v)
	if got, want := array.Top(a), ghost.Head(c, l, v); got != want {
		t.Errorf("%v, %v, %v: the top is %x, the head %x", c.W, l, v, got, want)
	}
	for _, x := range a {
		if on := weigh.On(c, l, v, x.ID); on != x.W {
			t.Errorf("%v, %v, %v: on %x is %d, and W is %d", c.W, l, v, x.ID, on, x.W)
		}
	}
}

// P10.4: with one vote of each, or none, for each block, for the beginning and for what is not known, the top is ghost's Head.
func TestTopIsHead(t *testing.T) {
	for salt := range uint64(2) {
		l := grow(salt*50, -1, 0, -1, 0, 2, 2)
		heads := append(known(l), api.ID{7, 7})
		for i := range len(heads) * len(heads) * len(heads) {
			v := ballots(heads[i%len(heads)], heads[i/len(heads)%len(heads)], heads[i/len(heads)/len(heads)])
			for _, w := range [][]int{{1, 1, 1}, {1, 2, 4}, {5, 3, 3}, {heavy, heavy, heavy - 1}, {0, 0, 1}} {
				c := conf(3)
				c.W = w
				holdsHead(t, c, l, v)
			}
			holdsHead(t, even(3, 1), l, v[:2])
		}
	}
}

// P10.4: the votes of a slot, and the last ones, that count are one of each, and their top is ghost's Head, in full views as well.
func TestTopOfVotes(t *testing.T) {
	for salt := range uint64(5) {
		wide := blocks(60, func(i int) int { return i/(int(salt)+1) - 1 })
		for _, l := range [][]api.Block{bushes(salt * 100), wide, nil} {
			ids := append(known(l), api.ID{7, 7})
			var v []api.Vote
			for i := range 240 {
				v = append(v, api.Vote{From: (i*i + int(salt)) % 14, Slot: i % 9, Head: ids[(i*i*7+i)%len(ids)]})
			}
			for slot := range 10 {
				for _, one := range [][]api.Vote{votes.Of(v, slot), votes.Of(v[:60], slot), votes.Last(v[:30], slot)} {
					for _, c := range []api.Conf{conf(12), even(12, 1), even(12, 0), even(12, heavy), conf(1)} {
						holdsHead(t, c, l, one)
					}
				}
			}
		}
	}
}

// P10.4: with votes moved back one by one the top is each time the head of those that are left, and at last all is as it was without votes.
func TestMovedBackToNone(t *testing.T) {
	for salt := range uint64(5) {
		l := bushes(salt * 100)
		for _, c := range []api.Conf{conf(10), even(10, 1), even(10, heavy)} {
			v := ballots(names(l)...)
			a := array.From(c, l, v)
			for i, x := range v {
				a = moved(t, a, x.Head, -c.W[x.From])
				if got, want := array.Top(a), ghost.Head(c, l, v[i+1:]); got != want {
					t.Errorf("the top is %x, not %x", got, want)
				}
			}
			if want := array.From(c, l, nil); !slices.Equal(a, want) {
				t.Errorf("it is\n%v, not\n%v", a, want)
			}
		}
	}
}

// P10.4: a validator's vote that goes over to another block is two moves.
func TestVoteGoesOver(t *testing.T) {
	l := bushes(0)
	n := names(l)
	c := conf(10)
	v := ballots(n...)
	a := array.From(c, l, v)
	for step := range 50 {
		who, to := step*7%10, n[step*3%10]
		a = moved(t, moved(t, a, v[who].Head, -c.W[who]), to, c.W[who])
		v[who].Head = to
		if want := array.From(c, l, v); !slices.Equal(a, want) {
			t.Fatalf("it is\n%v, not\n%v", a, want)
		}
		holdsHead(t, c, l, v)
	}
}

// R3: what is handed to From stays as it was, also behind a list's end, and what is answered is the caller's own.
func TestFromOwnMemory(t *testing.T) {
	c, l, v := conf(12), bushes(0), crowd()
	for n := range len(v) + 1 {
		for m := range len(l) + 1 {
			short := c
			short.W = c.W[:m+1]
			a, b := array.From(short, l[:m], v[:n]), array.From(short, l[:m], v[:n])
			clear(a[:cap(a)])
			check(t, b, rowsFrom(short, l[:m], v[:n]))
		}
	}
	for _, wrong := range wrongBlocks() {
		kept := slices.Clone(wrong)
		array.From(c, wrong, v)
		if !slices.Equal(wrong, kept) {
			t.Errorf("%v became %v", kept, wrong)
		}
	}
	if !slices.Equal(c.W, conf(12).W) || !slices.Equal(l, bushes(0)) || !slices.Equal(v, crowd()) {
		t.Errorf("they became %v, %v, %v", c, l, v)
	}
}

// R5: nothing of From hangs on what was asked before, or by whom at the same time.
func TestFromManyAsk(t *testing.T) {
	c, l, v := conf(7), bushes(0), crowd()
	var all sync.WaitGroup
	for i := range 8 {
		all.Go(func() {
			for k := range 20 {
				checkFrom(t, c, l[:len(l)-(i+k)%3], v[(i*k)%len(v):])
			}
		})
	}
	all.Wait()
}
