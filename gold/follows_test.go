package gold_test

import (
	"slices"
	"sync"
	"testing"

	"marigold/api"
	"marigold/gold"
	"marigold/tree"
	"marigold/weigh"
)

// checkSame holds that both are told the same.
func checkSame(t *testing.T, a, b asked) {
	t.Helper()
	a.checkOf(t, b.of())
	a.checkHead(t, b.head())
}

// elsewhere are votes of other slots, of the committee, of other validators and of strangers, for each block and for what is not known.
func elsewhere(slot int) []api.Vote {
	var v []api.Vote
	for i, head := range append(known(bush()), api.ID{7, 7}) {
		for _, other := range []int{0, slot - 2, slot - 1, slot + 1, slot + 2, last, -slot, slot + 1<<32} {
			v = append(v, castBy([]int{i % 5, (i + 1) % 5, 5, -1}, other, head)...)
		}
	}
	return v
}

// P14.2: votes of other slots do not matter, be they kept back from slots before, or of later ones, be they double, and in whatever order.
func TestOtherSlots(t *testing.T) {
	for slot := 1; slot <= 6; slot++ {
		a := asked{five(), bush(), crowd(), slot}
		b := a
		b.v = slices.DeleteFunc(crowd(), func(x api.Vote) bool { return x.Slot != slot })
		checkSame(t, b, a)
		for turn := range uint64(10) {
			b.v = mixed(append(crowd(), elsewhere(slot)...), turn)
			checkSame(t, b, a)
		}
	}
	for seed := range uint64(100) {
		a := someAsked(seed)
		b := a
		b.v = slices.DeleteFunc(slices.Clone(a.v), func(x api.Vote) bool { return x.Slot != a.slot })
		checkSame(t, a, b)
		b.v = append(b.v, elsewhere(a.slot)...)
		checkSame(t, b, a)
	}
}

// P14.2: neither do votes of the slot that are of who is not in its committee, however much they weigh.
func TestOthersOfSlot(t *testing.T) {
	for slot := 1; slot <= 6; slot++ {
		in := members(five(), slot)
		a := asked{five(), bush(), crowd(), slot}
		b := a
		for i, head := range append(known(bush()), api.ID{7, 7}) {
			for who := -2; who < 8; who++ {
				if !slices.Contains(in, who) {
					b.v = append(b.v, api.Vote{From: who, Slot: slot, Head: head})
				}
			}
			b.v = mixed(b.v, uint64(i))
			checkSame(t, b, a)
		}
	}
}

// P14.1, P14.2: neither the order of votes matters, nor what is there twice.
func TestOrderOfVotes(t *testing.T) {
	for slot := range 7 {
		a := asked{five(), bush(), crowd(), slot}
		for turn := range uint64(30) {
			b := a
			b.v = mixed(crowd(), turn)
			checkSame(t, b, a)
			b.v = mixed(slices.Concat(crowd(), crowd(), crowd()[:turn%5]), turn)
			checkSame(t, b, a)
		}
	}
}

// checkHalf holds that each block that more than a half of what the slot's votes weigh is for is under the head, and answers for how many that was held, and of how many that just a half is for it is so, and is not so.
func (a asked) checkHalf(t *testing.T) (more, just, not int) {
	t.Helper()
	left := a.of()
	head, all := a.head(), weigh.All(a.c, a.l, left)
	for _, id := range names(a.l) {
		on, under := weigh.On(a.c, a.l, left, id), tree.Under(a.l, id, head)
		switch {
		case 2*on > all:
			more++
			if !under && !t.Failed() {
				t.Errorf("%v: more than a half is for %x, which is not under the head %x", a, id, head)
			}
		case all > 0 && 2*on == all && under:
			just++
		case all > 0 && 2*on == all:
			not++
		}
	}
	return more, just, not
}

// P14.2, P2: what more than a half is for is under the head, and what just a half is for may be so or not: of all ways in which the three of a committee vote, or do not, while the heavier others are all for something else.
func TestHalf(t *testing.T) {
	l := bush()
	heads := append(known(l), api.ID{7, 7})
	var more, just, not int
	for turn, w := range [][5]int{{1, 1, 1}, {1, 2, 4}, {1, 2, 3}, {5, 3, 3}, {heavy, heavy, heavy - 1}, {0, 0, 1}, {2, 1, 1}} {
		// In the committee of slot 2 are 0, 1 and 4.
		c := five()
		c.W = []int{w[0], w[1], heavy, heavy, w[2]}
		for i := range len(heads) * len(heads) * len(heads) {
			some := []api.ID{heads[i%len(heads)], heads[i/len(heads)%len(heads)], heads[i/len(heads)/len(heads)]}
			v := castBy([]int{2, 3}, 2, heads[(i+turn)%len(heads)])
			for k, who := range []int{0, 1, 4}[:3-i%4/3] {
				v = append(v, api.Vote{From: who, Slot: 2, Head: some[k]})
			}
			x, y, z := asked{c, l, v, 2}.checkHalf(t)
			more, just, not = more+x, just+y, not+z
		}
	}
	if more < 10000 || just < 1000 || not < 1000 {
		t.Errorf("only %d, %d and %d were held", more, just, not)
	}
}

// P14.2, P2: so it is also of many blocks and votes, of which some are of other slots, and some double.
func TestHalfOfMany(t *testing.T) {
	var more, just, not int
	for seed := range uint64(3000) {
		x, y, z := someAsked(seed).checkHalf(t)
		more, just, not = more+x, just+y, not+z
	}
	if more < 5000 || just < 100 || not < 100 {
		t.Errorf("only %d, %d and %d were held", more, just, not)
	}
}

// P14.2: of two blocks that which one unit of weight more than a half is for is the head; with just a half it is so only of the greater name, and with less it is not.
func TestOneLess(t *testing.T) {
	l := two(3)
	n := names(l)
	for w := range 101 {
		for i := range n {
			a := asked{weighing(w, 100-w), l, ballots(n[i], n[1-i]), nine}
			switch {
			case w > 50:
				a.checkHead(t, n[i])
			case w < 50:
				a.checkHead(t, n[1-i])
			default:
				a.checkHead(t, n[1])
			}
		}
	}
	for i := range n {
		a := asked{weighing(heavy, heavy-1), l, ballots(n[i], n[1-i]), nine}
		a.checkHead(t, n[i])
		a.c.W[1]++
		a.checkHead(t, n[1])
	}
}

// P14.2: three votes of five for a block, or for what stands on it, bring the head over it, wherever they are; without one of them it is left open.
func TestOneVoteLess(t *testing.T) {
	for salt := range uint64(20) {
		l := salted(salt*100, -1, -1, 0, 0, 1, 1, 2, 4)
		n := names(l)
		over := [][]api.ID{{n[0], n[2], n[3], n[6]}, {n[1], n[4], n[5], n[7]}}
		for i, mine := range over {
			for way := range 64 {
				v := ballots(mine[way%4], mine[way/4%4], mine[way/16], over[1-i][way%4], over[1-i][way/4%4])
				a := asked{even(5, 20), l, v, nine}
				if !tree.Under(l, n[i], a.head()) && !t.Failed() {
					t.Errorf("%v: what three are for is not under the head", a)
				}
				for k := range 3 {
					a.v = slices.Delete(slices.Clone(v), k, k+1)
					if !tree.Under(l, greatest(n[:2]), a.head()) && !t.Failed() {
						t.Errorf("%v: with two against two the greater one is not under the head", a)
					}
				}
			}
		}
	}
}

// P14.2: where no other block has anything, one vote of the least weight is enough.
func TestOneVote(t *testing.T) {
	for salt := range uint64(20) {
		l := salted(salt*100, -1, 0, -1, 0, 1, 2, 1, -1, 6, 0)
		for i, id := range names(l) {
			a := asked{even(5, 1), l, castBy([]int{i % 5}, nine, id), nine}
			if !tree.Under(l, id, a.head()) && !t.Failed() {
				t.Errorf("%v: %x is not under the head", a, id)
			}
			a.c.W[i%5] = 0
			a.checkHead(t, headOf(nil, l))
		}
	}
}

// R3: what is handed in stays as it was, also behind the end of a list, and later changes to it, or to an answer, change nothing of the other.
func TestHandedInStays(t *testing.T) {
	c, l, v := five(), bush(), crowd()
	for i := range len(v) + 1 {
		for k := range len(l) + 1 {
			for slot := range 7 {
				a := asked{c, l[:k], v[:i], slot}
				a.head()
				got := a.of()
				clear(got[:cap(got)])
				_ = append(got, castBy([]int{9, 9, 9, 9}, 9, beginning)...)
			}
		}
	}
	if !slices.Equal(c.W, five().W) || !slices.Equal(l, bush()) || !slices.Equal(v, crowd()) {
		t.Errorf("they became %v, %v, %v", c, l, v)
	}
	// All that is handed in counts, in order, so that it might be handed out as it is.
	all := castBy([]int{0, 1, 4}, 2, beginning)
	got := gold.Of(c, all, 2)
	clear(all)
	if want := castBy([]int{0, 1, 4}, 2, beginning); !slices.Equal(got, want) {
		t.Errorf("what counts became %v", got)
	}
}

// R3: two answers to the same are not the same memory.
func TestAnswersApart(t *testing.T) {
	v := crowd()
	first, second := gold.Of(five(), v, 4), gold.Of(five(), v, 4)
	kept := slices.Clone(second)
	clear(first)
	if !slices.Equal(second, kept) || !slices.Equal(v, crowd()) {
		t.Errorf("they became %v, and %v", second, v)
	}
}

// R5: nothing hangs on what was asked before, or by whom at the same time.
func TestManyAsk(t *testing.T) {
	l, v := bush(), crowd()
	var all sync.WaitGroup
	for i := range 8 {
		all.Go(func() {
			for k := range 40 {
				asked{five(), l[:len(l)-(i+k)%3], v[(i*k)%len(v):], k % 7}.check(t)
			}
		})
	}
	all.Wait()
}
