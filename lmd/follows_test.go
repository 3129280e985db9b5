package lmd_test

import (
	"slices"
	"sync"
	"testing"

	"marigold/api"
	"marigold/ghost"
	"marigold/lmd"
	"marigold/tree"
	"marigold/votes"
	"marigold/weigh"
)

// oneEach calls f with each way in which three validators may have one vote each, or none, for the bush, the beginning, or what is not known.
func oneEach(l []api.Block, f func(v []api.Vote)) {
	heads := append(known(l), api.ID{7, 7})
	for i := range len(heads) * len(heads) * len(heads) {
		v := ballots(heads[i%len(heads)], heads[i/len(heads)%len(heads)], heads[i/len(heads)/len(heads)])
		f(v)
		if i%5 == 0 {
			f(v[:2])
		}
	}
}

// threes are confs of three: of weights that are the same, that differ, that two outweigh, and that are noughts.
func threes() []api.Conf {
	return []api.Conf{weighing(1, 1, 1), weighing(1, 2, 4), weighing(5, 3, 3), weighing(heavy, heavy, heavy-1), weighing(0, 0, 1), weighing(0, 0, 0)}
}

// withoutBoost are such asked as a has none for: for the beginning, for what is not known, and of hundredths that make none.
func withoutBoost(a asked) []asked {
	all := []asked{a, a, a, a, a}
	all[0].boost = beginning
	all[1].boost = api.ID{7, 7}
	all[2].pct, all[3].pct, all[4].pct = 0, -1, 101
	return all
}

// P13.3: without a boost it is ghost's Head of the last votes, of all ways of three votes.
func TestGhost(t *testing.T) {
	l := bush()
	for i, c := range append(threes(), api.Conf{}) {
		oneEach(l, func(v []api.Vote) {
			want := ghost.Head(c, l, v)
			a := asked{c, l, v, nine, names(l)[i], 100}
			for _, none := range withoutBoost(a)[i%2*2 : i%2*2+2] {
				none.checkHead(t, want)
			}
		})
	}
}

// P13.3: without a boost it is ghost's Head of the last votes, also where some are later, and some double; of blocks that may not be as well.
func TestGhostOfLast(t *testing.T) {
	for seed := range uint64(60) {
		some := someAsked(seed)
		for _, a := range withoutBoost(some) {
			for _, upto := range []int{-1, 0, 20, 60, 120, some.upto, 200} {
				a.upto = upto
				a.checkHead(t, ghost.Head(a.c, a.l, votes.Last(a.v, upto)))
			}
		}
	}
	for upto := range 11 {
		for _, a := range withoutBoost(asked{conf(7), bush(), crowd(), upto, tree.Name(bush()[8]), 50}) {
			a.checkHead(t, ghost.Head(a.c, a.l, votes.Last(a.v, upto)))
		}
	}
	for _, l := range wrongBlocks() {
		asked{conf(7), l, crowd(), nine, beginning, 50}.checkHead(t, ghost.Head(conf(7), l, votes.Last(crowd(), nine)))
	}
	for _, c := range wrongConfs() {
		asked{c, bush(), crowd(), nine, tree.Name(bush()[5]), 50}.checkHead(t, ghost.Head(c, bush(), votes.Last(crowd(), nine)))
	}
}

// P13.3: ghost's Head of all votes, and not of the last ones, may be another one.
func TestGhostOfAll(t *testing.T) {
	l := two(0)
	n := names(l)
	v := []api.Vote{{From: 0, Slot: 3, Head: n[1]}, {From: 0, Slot: 4, Head: n[0]}, {From: 1, Slot: 12, Head: n[1]}}
	asked{even(2, 10), l, v, nine, beginning, 50}.checkHead(t, n[0])
	if got := ghost.Head(even(2, 10), l, v); got != n[1] {
		t.Errorf("of all votes ghost's head is %x", got)
	}
}

// isElse tells whether id stands beside that block: neither is on the other one's chain.
func isElse(l []api.Block, id, block api.ID) bool {
	return !tree.Under(l, id, block) && !tree.Under(l, block, id)
}

// nothingHeavier tells whether by votes alone nothing beside the boost's block weighs more than that.
func (a asked) nothingHeavier() bool {
	last := votes.Last(a.v, a.upto)
	most := weigh.On(a.c, a.l, last, a.boost)
	return !slices.ContainsFunc(names(a.l), func(id api.ID) bool {
		return isElse(a.l, id, a.boost) && weigh.On(a.c, a.l, last, id) > most
	})
}

// someHeavier tells whether with the boost, at a fork below the boost's block, another one weighs more than the one below that block.
func (a asked) someHeavier() bool {
	chain := tree.Chain(a.l, a.boost)
	for i, id := range chain[:len(chain)-1] {
		on := a.on(id)
		if slices.ContainsFunc(tree.Kids(a.l, chain[i+1]), func(other api.ID) bool { return a.on(other) > on }) {
			return true
		}
	}
	return false
}

// P13.3: what the boost is for is under the head, if nothing else is heavier by votes; if at a fork something is heavier with the boost as well, it is not.
func TestUnderTheHead(t *testing.T) {
	l := bush()
	var turn, under, over int
	for _, c := range threes()[:5] {
		oneEach(l, func(v []api.Vote) {
			turn++
			a := asked{c, l, v, nine, names(l)[turn%len(l)], 50 + turn/len(l)%2*50}
			switch is := tree.Under(l, a.boost, a.head()); {
			case lmd.Boost(a.c, a.pct) > 0 && a.nothingHeavier():
				under++
				if !is && !t.Failed() {
					t.Errorf("%v: what the boost is for is not under the head", a)
				}
			case a.someHeavier():
				over++
				if is && !t.Failed() {
					t.Errorf("%v: what the boost is for is under the head", a)
				}
			}
		})
	}
	if under < 1000 || over < 300 {
		t.Errorf("only %d and %d were held", under, over)
	}
}

// P13.3: so it is also of many blocks and votes, of which some are later, and some double.
func TestUnderTheHeadOfMany(t *testing.T) {
	var under, over int
	for seed := range uint64(1500) {
		a := someAsked(seed)
		if len(a.l) > 20 || tree.Find(a.l, a.boost) < 0 {
			continue
		}
		switch is := tree.Under(a.l, a.boost, a.head()); {
		case lmd.Boost(a.c, a.pct) > 0 && a.nothingHeavier():
			under++
			if !is && !t.Failed() {
				t.Errorf("%v: what the boost is for is not under the head", a)
			}
		case a.someHeavier():
			over++
			if is && !t.Failed() {
				t.Errorf("%v: what the boost is for is under the head", a)
			}
		}
	}
	if under < 50 || over < 50 {
		t.Errorf("only %d and %d were held", under, over)
	}
}

// P13.3: a boost that is more than all that votes weigh brings the head to what it is for, whatever they are for.
func TestBoostOfAll(t *testing.T) {
	l := bush()
	c := weighing(1, 2, 4, 100)
	oneEach(l, func(v []api.Vote) {
		for i, id := range names(l) {
			a := asked{c, l, v, nine, id, 8 + i}
			if !tree.Under(l, id, a.head()) && !t.Failed() {
				t.Errorf("%v: what the boost is for is not under the head", a)
			}
		}
	})
}

// P13.3: one more block on the head is the head, whatever the boost is for; if there was none, also with one of any size for that block, or for what is below it.
func TestOneMoreBlock(t *testing.T) {
	for seed := range uint64(100) {
		for _, a := range []asked{someAsked(seed), withoutBoost(someAsked(seed))[0]} {
			more := api.Block{Slot: 1000, Parent: a.head()}
			a.l = append(a.l, more)
			a.checkHead(t, tree.Name(more))
			if a.boost != beginning {
				continue
			}
			for _, pct := range []int{0, 1, 50, 100} {
				for _, a.boost = range tree.Chain(a.l, tree.Name(more)) {
					a.pct = pct
					a.checkHead(t, tree.Name(more))
				}
			}
		}
	}
}

// checkSame holds that both answer the same of all IDs, and the same head.
func checkSame(t *testing.T, a, b asked) {
	t.Helper()
	for _, id := range append(known(a.l), api.ID{7, 7}) {
		a.checkOn(t, id, b.on(id))
	}
	a.checkHead(t, b.head())
}

// P13.1, P13.2: neither the order of votes matters, nor what is there twice.
func TestOrderOfVotes(t *testing.T) {
	for _, v := range [][]api.Vote{spread(), crowd()} {
		for turn := range uint64(30) {
			for _, upto := range []int{4, 5, 6, 9} {
				a := asked{conf(7), bush(), v, upto, tree.Name(bush()[turn%10]), int(turn) * 3}
				b := a
				b.v = mixed(v, turn)
				checkSame(t, b, a)
				b.v = mixed(slices.Concat(v, v, v[:turn%5]), turn)
				checkSame(t, b, a)
			}
		}
	}
}

// P13.1, P13.2: votes that are later than upto do not matter, whatever they are for, and also such as make somebody double.
func TestLaterVotes(t *testing.T) {
	l, n := bush(), append(known(bush()), api.ID{7, 7})
	for upto := range 9 {
		a := asked{conf(7), l, crowd(), upto, n[upto+1], 40}
		b := a
		b.v = slices.DeleteFunc(crowd(), func(x api.Vote) bool { return x.Slot > upto })
		checkSame(t, a, b)
		for who := range 8 {
			for i, head := range n {
				b.v = append(b.v, api.Vote{From: who, Slot: upto + 1 + i%3, Head: head})
			}
		}
		checkSame(t, a, b)
		b.v = mixed(b.v, uint64(upto))
		checkSame(t, a, b)
	}
}

// R3: what is handed in stays as it was, also behind the end of a list, and later changes to it change no answer.
func TestHandedInStays(t *testing.T) {
	c, l, v := conf(12), bush(), crowd()
	for i := range len(v) + 1 {
		for k := range len(l) + 1 {
			short := c
			short.W = c.W[:k+1]
			a := asked{short, l[:k], v[:i], 5 + i%5, names(bush())[k%10], 10 * k}
			lmd.Boost(short, 10*k)
			for _, id := range known(l) {
				a.on(id)
			}
			a.head()
		}
	}
	if !slices.Equal(c.W, conf(12).W) || !slices.Equal(l, bush()) || !slices.Equal(v, crowd()) {
		t.Errorf("they became %v, %v, %v", c, l, v)
	}
	for why, wrong := range wrongBlocks() {
		kept := slices.Clone(wrong)
		a := asked{c, wrong, v, nine, tree.Name(wrong[0]), 50}
		a.on(beginning)
		a.head()
		if !slices.Equal(wrong, kept) {
			t.Errorf("%s: %v became %v", why, kept, wrong)
		}
	}
	a := asked{c, l, v, nine, names(l)[8], 50}
	head := a.head()
	clear(c.W)
	clear(l)
	clear(v)
	if want := (asked{conf(12), bush(), crowd(), nine, names(bush())[8], 50}).head(); head != want {
		t.Errorf("the head became %x", head)
	}
}

// R5: nothing hangs on what was asked before, or by whom at the same time.
func TestManyAsk(t *testing.T) {
	l, v := bush(), crowd()
	var all sync.WaitGroup
	for i := range 8 {
		all.Go(func() {
			for k := range 20 {
				asked{conf(7), l[:len(l)-(i+k)%3], v[(i*k)%len(v):], k % 10, names(bush())[i], 5 * k}.check(t, known(l))
			}
		})
	}
	all.Wait()
}
