package quick_test

import (
	"slices"
	"sync"
	"testing"

	"marigold/api"
	"marigold/gold"
	"marigold/quick"
	"marigold/tree"
)

// sures are all IDs that are sure.
func (a asked) sures() []api.ID {
	var all []api.ID
	for _, id := range append(known(a.l), api.ID{7, 7}) {
		if a.sure(id) {
			all = append(all, id)
		}
	}
	return all
}

// checkChains holds that what is under a sure block is sure, and that of two of them one is under the other one; it answers of how many blocks, and of how many pairs of two, that was held.
func (a asked) checkChains(t *testing.T) (ones, pairs int) {
	t.Helper()
	all := a.sures()
	for _, id := range all {
		for _, low := range tree.Chain(a.l, id) {
			a.checkSure(t, low, true)
			ones++
		}
		for _, other := range all {
			if !tree.Under(a.l, id, other) && !tree.Under(a.l, other, id) && !t.Failed() {
				t.Errorf("%v: %x and %x are sure, and none is under the other one", a, id, other)
			}
			if id != other {
				pairs++
			}
		}
	}
	return ones, pairs
}

// checkShares holds that each sure block is for more than a half of the committee, also without any of those votes for it that weigh at most Num of Den of that, whoever's they are. It answers how often it was held without some.
func (a asked) checkShares(t *testing.T) (held int) {
	t.Helper()
	in := members(a.c, a.slot)
	all := weightOf(a.c, in)
	counted := a.counted()
	for _, id := range a.sures() {
		var of []int
		for _, x := range counted {
			if tree.Under(a.l, id, x.Head) {
				of = append(of, x.From)
			}
		}
		for way := range 1 << len(of) {
			bad, left := 0, 0
			for i, who := range of {
				if way>>i&1 == 1 {
					bad += a.c.W[who]
				} else {
					left += a.c.W[who]
				}
			}
			if bad*a.c.Den > all*a.c.Num {
				continue
			}
			if way > 0 {
				held++
			}
			if 2*left <= all && !t.Failed() {
				t.Errorf("%v: %x is sure, but without %b of %v %d of %d is left for it", a, id, way, of, left, all)
			}
		}
	}
	return held
}

// P15.3: what is under a sure block is sure, of two such one is under the other one, and their shares are enough: in all ways in which the three of a committee vote, or do not, by beta.
func TestFollowsOfThree(t *testing.T) {
	l := bush()
	heads := append(known(l), api.ID{7, 7})
	var ones, pairs, shares int
	for turn, w := range [][3]int{{1, 1, 1}, {1, 2, 4}, {1, 2, 3}, {5, 3, 3}, {0, 0, 1}, {heavy, heavy, heavy - 1}} {
		for _, b := range [][2]int{{0, 1}, {1, 4}, {1, 3}, {499, 1000}, {1, 2}} {
			// In the committee of slot 2 are 0, 1 and 4.
			c := beta(five(), b[0], b[1])
			c.W = []int{w[0], w[1], heavy, heavy, w[2]}
			for i := range len(heads) * len(heads) * len(heads) {
				if (i+turn)%11 > 0 {
					continue
				}
				some := []api.ID{heads[i%len(heads)], heads[i/len(heads)%len(heads)], heads[i/len(heads)/len(heads)]}
				v := castBy([]int{2, 3}, 2, heads[(i+turn)%len(heads)])
				for k, who := range []int{0, 1, 4}[:3-i%4/3] {
					v = append(v, api.Vote{From: who, Slot: 2, Head: some[k]})
				}
				a := asked{c, l, v, 2}
				x, y := a.checkChains(t)
				ones, pairs, shares = ones+x, pairs+y, shares+a.checkShares(t)
			}
		}
	}
	if ones < 5000 || pairs < 5000 || shares < 300 {
		t.Errorf("only %d, %d and %d were held", ones, pairs, shares)
	}
}

// P15.3: so it is also of many blocks and votes, of which some are of other slots, and some double, and of many betas.
func TestFollowsOfMany(t *testing.T) {
	var ones, pairs, shares int
	for seed := range uint64(500) {
		a := someAsked(seed)
		x, y := a.checkChains(t)
		ones, pairs, shares = ones+x, pairs+y, shares+a.checkShares(t)
	}
	if ones < 2000 || pairs < 2000 || shares < 300 {
		t.Errorf("only %d, %d and %d were held", ones, pairs, shares)
	}
}

// P15.3: what is sure is for more than a half of the committee, with each beta that may be, though it be of all; with just a half no beta makes anything sure.
func TestMoreThanHalf(t *testing.T) {
	l, n := two(3), names(two(3))
	for all := 1; all < 40; all++ {
		for some := range all + 1 {
			for _, den := range []int{1, 2, 3, 7, 1000} {
				for num := 0; num <= den; num += 1 + den/50 {
					a := asked{beta(weighing(some, all-some), num, den), l, ballots(n[1], n[0]), nine}
					if 2*some <= all {
						a.checkSure(t, n[1], false)
					}
					if a.sure(n[0]) && a.sure(n[1]) && !t.Failed() {
						t.Errorf("%v: both are sure", a)
					}
				}
			}
		}
	}
}

// P15.3: where some who are bad, at most a quarter, take their votes from a sure block to whatever else, more than a half is still for it, so that the slot's head stays over it; where they weigh one unit more it need not.
func TestBadTurn(t *testing.T) {
	l := bush()
	n := names(l)
	for bad := range 26 {
		// Three quarters and one unit are for it at first, of which bad ones are some.
		a := asked{weighing(bad, 76-bad, 24), l, ballots(n[8], n[4], n[5]), nine}
		a.checkSure(t, n[1], true)
		for _, head := range append(known(l), api.ID{7, 7}) {
			a.v = ballots(head, n[4], n[5])
			if 2*a.on(n[1]) <= 100 && !t.Failed() {
				t.Errorf("%v: not more than a half is left", a)
			}
			if !tree.Under(l, n[1], gold.Head(a.c, a.view(), nine)) && !t.Failed() {
				t.Errorf("%v: the head is not over it any more", a)
			}
		}
	}
	a := asked{weighing(26, 50, 24), l, ballots(n[5], n[4], n[5]), nine}
	a.checkOn(t, n[1], 50)
	a.checkOn(t, n[2], 50)
}

// P15.3: what is under a top is sure, and nothing that is on the head's chain above it is.
func TestAroundTop(t *testing.T) {
	for seed := range uint64(100) {
		a := someAsked(seed)
		for _, head := range names(a.l) {
			x := a.top(head)
			if !x.is {
				continue
			}
			for _, id := range tree.Chain(a.l, head) {
				a.checkSure(t, id, tree.Under(a.l, id, x.id))
			}
		}
	}
}

// P15.3: a top is under the slot's head, and of two heads the tops are one under the other one.
func TestTopsOnOneChain(t *testing.T) {
	for seed := range uint64(100) {
		a := someAsked(seed)
		head := gold.Head(a.c, a.view(), a.slot)
		most := a.top(head)
		for _, other := range names(a.l) {
			x := a.top(other)
			if !tree.Under(a.l, x.id, most.id) && !t.Failed() {
				t.Errorf("%v: the top of %x is not under that of the slot's head", a, other)
			}
		}
	}
}

// P15.3: where more blocks are known, all that was sure stays so, and so does the top; where one vote more comes of who had none it stays so as well.
func TestMoreComes(t *testing.T) {
	for seed := range uint64(100) {
		a := someAsked(seed)
		b := a
		b.l = append(slices.Clone(a.l), api.Block{Slot: 1 << 20, Parent: names(a.l)[len(a.l)-1], Salt: 5}, api.Block{Slot: 1, Salt: 12345})
		for _, id := range a.sures() {
			b.checkSure(t, id, true)
		}
		for _, who := range members(a.c, a.slot) {
			if slices.ContainsFunc(a.v, func(x api.Vote) bool { return x.From == who && x.Slot == a.slot }) {
				continue
			}
			b.v = append(slices.Clone(a.v), api.Vote{From: who, Slot: a.slot, Head: beginning})
			for _, id := range a.sures() {
				b.checkSure(t, id, true)
			}
		}
	}
}

// R3: what is handed in stays as it was, also behind the end of a list.
func TestHandedInStays(t *testing.T) {
	c, l, v := five(), bush(), crowd()
	for i := range len(v) + 1 {
		for k := range len(l) + 1 {
			for slot := range 6 {
				a := asked{c, l[:k], v[:i], slot}
				a.on(names(l)[0])
				a.sure(names(l)[6])
				a.top(names(l)[8])
			}
		}
	}
	if !slices.Equal(c.W, five().W) || !slices.Equal(l, bush()) || !slices.Equal(v, crowd()) {
		t.Errorf("they became %v, %v, %v", c, l, v)
	}
}

// R3: later changes to what was handed in change nothing of what was answered, and an answer hangs on what is handed in alone.
func TestChangedLater(t *testing.T) {
	c, l, v := five(), bush(), castBy(upTo(5), 4, names(bush())[8])
	w := api.View{B: l, V: v}
	id, is := quick.Top(c, w, 4, names(l)[8])
	kept := l[8]
	l[8] = api.Block{Slot: 99}
	if id != tree.Name(kept) || !is {
		t.Errorf("the top became %x, %t", id, is)
	}
	if quick.For(c, w, 4, tree.Name(kept)) != 0 || quick.Sure(c, w, 4, tree.Name(kept)) {
		t.Error("what is not known any more is sure")
	}
	l[8] = kept
	clear(c.W)
	if quick.For(c, w, 4, tree.Name(kept)) != 0 || quick.Sure(c, w, 4, tree.Name(kept)) {
		t.Error("what weighs nothing any more is sure")
	}
	copy(c.W, five().W)
	clear(v)
	if _, is := quick.Top(c, w, 4, tree.Name(kept)); is {
		t.Error("without votes there is a top")
	}
}

// R5: nothing hangs on what was asked before, or by whom at the same time.
func TestManyAsk(t *testing.T) {
	l, v := bush(), crowd()
	var all sync.WaitGroup
	for i := range 8 {
		all.Go(func() {
			for k := range 40 {
				asked{five(), l[:len(l)-(i+k)%3], v[(i*k)%len(v):], k % 7}.check(t)
			}
		})
	}
	all.Wait()
}
