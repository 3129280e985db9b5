package lmd_test

import (
	"math"
	"slices"
	"testing"

	"marigold/api"
	"marigold/duty"
	"marigold/lmd"
	"marigold/mix"
	"marigold/tree"
	"marigold/votes"
	"marigold/weigh"
)

// pcts are some hundredths: none, the least one, such as are rounded, all, and such as make no boost.
func pcts() []int {
	return []int{math.MinInt, -1, 0, 1, 33, 50, 99, 100, 101, math.MaxInt}
}

// P13.1: what is on each block of the bush by one vote of each, and a boost for each, written out.
func TestOnEachBoost(t *testing.T) {
	l, n := bush(), names(bush())
	on := []int{1 + 338 + 8 + 512, 2 + 16 + 320, 4 + 32, 8, 16, 32, 64 + 256, 128, 256, 512}
	for pct, more := range map[int]int{-1: 0, 0: 0, 1: 20, 33: 675, 50: 1023, 99: 2026, 100: 2047, 101: 0} {
		for at := range n {
			a := asked{conf(12), l, spread(), nine, n[at], pct}
			for i := range n {
				if slices.Contains(below()[at], i) {
					a.checkOn(t, n[i], on[i]+more)
				} else {
					a.checkOn(t, n[i], on[i])
				}
			}
			a.checkOn(t, beginning, 2047+more)
		}
	}
}

// P13.1: without votes there is the boost, under the block that it is for and nowhere else.
func TestOnBoostAlone(t *testing.T) {
	l, n := bush(), names(bush())
	for _, v := range [][]api.Vote{nil, {}} {
		for at := range n {
			a := asked{even(4, 25), l, v, nine, n[at], 40}
			for i := range n {
				want := 0
				if slices.Contains(below()[at], i) {
					want = 40
				}
				a.checkOn(t, n[i], want)
			}
			a.checkOn(t, beginning, 40)
			for _, id := range unknown(l) {
				a.checkOn(t, id, 0)
			}
		}
	}
}

// P13.1: a boost for the beginning, or for what is not known, is none, also on the beginning, and also if that is what On is asked of.
func TestOnNoBoost(t *testing.T) {
	for _, l := range [][]api.Block{nil, {}, line(1), line(4), bush()} {
		for _, boost := range append(unknown(l), beginning, tree.Name(api.Block{Slot: 1, Salt: 77})) {
			for _, v := range [][]api.Vote{nil, spread(), ballots(boost, boost, boost)} {
				for _, pct := range []int{0, 50, 100} {
					a := asked{conf(12), l, v, nine, boost, pct}
					for _, id := range append(known(l), boost, api.ID{7, 7}) {
						a.checkOn(t, id, weigh.On(a.c, l, v, id))
					}
				}
			}
		}
	}
}

// P13.1: on an ID that nobody knows there is nothing, whatever votes and the boost are for.
func TestOnUnknown(t *testing.T) {
	for _, l := range [][]api.Block{nil, line(1), bush()} {
		for _, id := range unknown(l) {
			for _, boost := range append(known(l), id) {
				for _, v := range [][]api.Vote{nil, spread(), ballots(id, id)} {
					asked{conf(12), l, v, nine, boost, 100}.checkOn(t, id, 0)
				}
			}
		}
	}
}

// P13.1: what On is asked of may be what the boost is for, or above it, below it, and on another branch, or the beginning.
func TestOnWhere(t *testing.T) {
	n := names(bush())
	for _, x := range []struct {
		boost, id api.ID
		want      int
	}{
		{n[6], n[6], 30}, {n[6], n[1], 30}, {n[6], n[0], 30}, {n[6], beginning, 30},
		{n[6], n[8], 0}, {n[6], n[4], 0}, {n[6], n[3], 0}, {n[6], n[2], 0}, {n[6], n[7], 0},
		{n[8], n[6], 30}, {n[8], n[8], 30}, {n[0], n[1], 0}, {n[0], n[8], 0}, {n[0], n[0], 30},
		{n[7], n[7], 30}, {n[7], n[0], 0}, {n[7], beginning, 30}, {n[5], n[2], 30}, {n[5], n[0], 0},
		{beginning, beginning, 0}, {beginning, n[0], 0}, {api.ID{7, 7}, beginning, 0}, {api.ID{7, 7}, api.ID{7, 7}, 0},
	} {
		asked{even(1, 100), bush(), nil, nine, x.boost, 30}.checkOn(t, x.id, x.want)
	}
}

// crowdOn is what is on each block of the bush, and on the beginning, by the crowd's last votes up to each slot.
func crowdOn() [][]int {
	return [][]int{
		{0, 0, 0, 0, 0, 0, 0, 0, 0, 0, 0},
		{4, 0, 0, 4, 0, 0, 0, 0, 0, 0, 20},
		{5, 0, 0, 4, 0, 0, 0, 0, 0, 0, 21},
		{7, 2, 0, 4, 2, 0, 0, 0, 0, 0, 23},
		{3, 2, 0, 0, 2, 0, 0, 0, 0, 0, 19},
		{3, 3, 0, 0, 2, 0, 1, 0, 1, 0, 19},
		{1, 1, 0, 0, 0, 0, 1, 0, 1, 0, 17},
		{17, 17, 0, 0, 0, 0, 17, 0, 1, 0, 17},
		{81, 17, 0, 64, 0, 0, 17, 0, 1, 0, 81},
		{88, 24, 0, 64, 0, 0, 24, 1, 8, 0, 89},
	}
}

// P13.1: last votes up to each slot, later ones and double ones among them, written out, without a boost and with one.
func TestOnUpto(t *testing.T) {
	l, n := bush(), names(bush())
	for upto, on := range crowdOn() {
		for i, id := range append(n, beginning) {
			asked{conf(7), l, crowd(), upto, beginning, 100}.checkOn(t, id, on[i])
			for at, boost := range n {
				more := 0
				if id == beginning || slices.Contains(below()[at], i) {
					more = 63
				}
				asked{conf(7), l, crowd(), upto, boost, 100}.checkOn(t, id, on[i]+more)
			}
		}
	}
	for _, upto := range []int{math.MinInt, -1 << 32, -1, 0} {
		asked{conf(7), l, crowd(), upto, n[8], 100}.checkOn(t, beginning, 63)
		asked{conf(7), l, crowd(), upto, n[8], 100}.checkOn(t, n[3], 0)
	}
	for _, upto := range []int{9, 10, 1 << 20, 1 << 32, 1<<32 + 1, math.MaxInt} {
		asked{conf(7), l, crowd(), upto, n[8], 100}.checkOn(t, n[6], 87)
		asked{conf(7), l, crowd(), upto, n[8], 100}.checkOn(t, n[3], 64)
	}
}

// P13.1: votes of one in slots on all edges: the last one up to each edge counts, and no other one.
func TestOnSlots(t *testing.T) {
	l := shape(len(numbers()), func(int) int { return -1 })
	n := names(l)
	var v []api.Vote
	for i, slot := range numbers() {
		v = append(v, api.Vote{From: 1, Slot: slot, Head: n[i]})
	}
	for turn := range uint64(5) {
		for i, upto := range numbers() {
			a := asked{conf(2), l, mixed(v, turn), upto, n[3], 100}
			for k, id := range n {
				want := 0
				if k == i {
					want += 2
				}
				if k == 3 {
					want++
				}
				a.checkOn(t, id, want)
			}
			a.checkOn(t, beginning, 3)
		}
	}
}

// twice has two votes of 0 in slot 5, for those heads, and others of it ahead and behind; and one of 1, and of 2.
func twice(first, second api.ID) []api.Vote {
	n := names(bush())
	return []api.Vote{
		{From: 0, Slot: 3, Head: n[5]}, {From: 1, Slot: 3, Head: n[4]}, {From: 0, Slot: 5, Head: first},
		{From: 2, Slot: 5, Head: n[4]}, {From: 0, Slot: 7, Head: n[7]}, {From: 0, Slot: 5, Head: second},
	}
}

// checkUpto holds what is on three blocks of the bush, and by the boost on the one below the first of them as well, for each slot up to which votes are told.
func checkUpto(t *testing.T, v []api.Vote, want map[int][3]int) {
	t.Helper()
	n := names(bush())
	for upto, on := range want {
		a := asked{conf(3), bush(), v, upto, n[1], 100}
		a.checkOn(t, n[4], on[0])
		a.checkOn(t, n[5], on[1])
		a.checkOn(t, n[7], on[2])
		a.checkOn(t, n[1], on[0]+3)
	}
}

// P13.1: who is double in one slot counts in none from it on, whatever other votes they have, and others' votes still do; who has the same vote twice is not.
func TestOnDouble(t *testing.T) {
	n := names(bush())
	for _, heads := range [][2]api.ID{{n[4], n[8]}, {n[4], n[1]}, {n[1], n[4]}, {n[4], beginning}, {n[4], {7, 7}}, {{7, 7}, {7, 8}}} {
		checkUpto(t, twice(heads[0], heads[1]), map[int][3]int{2: {}, 3: {2, 1, 0}, 4: {2, 1, 0}, 5: {6, 0, 0}, 6: {6, 0, 0}, 7: {6, 0, 0}, 8: {6, 0, 0}})
	}
	checkUpto(t, twice(n[4], n[4]), map[int][3]int{2: {}, 3: {2, 1, 0}, 4: {2, 1, 0}, 5: {7, 0, 0}, 6: {7, 0, 0}, 7: {6, 0, 1}, 8: {6, 0, 1}})
	checkUpto(t, twice(api.ID{7, 7}, api.ID{7, 7}), map[int][3]int{2: {}, 3: {2, 1, 0}, 4: {2, 1, 0}, 5: {6, 0, 0}, 6: {6, 0, 0}, 7: {6, 0, 1}, 8: {6, 0, 1}})
}

// P13.1: it is weigh's On of votes' Last, and Boost more where the ID is under the boost's block by tree.
func TestOnByOthers(t *testing.T) {
	l := bush()
	for _, c := range []api.Conf{{}, conf(1), conf(7), conf(12), even(12, heavy)} {
		for _, v := range [][]api.Vote{nil, spread(), crowd()} {
			for _, upto := range []int{3, 5, 8, 9} {
				for _, boost := range append(known(l), api.ID{7, 7}) {
					for _, pct := range pcts() {
						a := asked{c, l, v, upto, boost, pct}
						for _, id := range append(known(l), api.ID{7, 7}) {
							want := weigh.On(c, l, votes.Last(v, upto), id)
							if boost != beginning && tree.Under(l, id, boost) {
								want += lmd.Boost(c, pct)
							}
							a.checkOn(t, id, want)
						}
					}
				}
			}
		}
	}
}

// P13.1: without blocks there is the beginning, with what is for it, and no boost.
func TestOnNoBlocks(t *testing.T) {
	v := []api.Vote{{From: 1, Slot: 1}, {From: 3, Slot: 2}, {From: 0, Slot: 1, Head: api.ID{7, 7}}, {From: 2, Slot: 1, Head: tree.Name(api.Block{Slot: 1})}}
	for _, l := range [][]api.Block{nil, {}} {
		for upto, want := range []int{0, 2, 10, 10} {
			for _, boost := range append(unknown(nil), names(bush())...) {
				a := asked{conf(4), l, v, upto, boost, 100}
				a.checkOn(t, beginning, want)
				a.checkOn(t, boost, 0)
			}
			asked{conf(4), l, v, upto, beginning, 100}.checkOn(t, beginning, want)
		}
	}
}

// P13.1: a conf that may not be leaves nothing on anything, neither of votes nor of a boost.
func TestOnWrongConfs(t *testing.T) {
	l := bush()
	for why, c := range wrongConfs() {
		if duty.May(c) {
			t.Fatalf("%s may be", why)
		}
		for _, boost := range ids(l)[:20] {
			for _, id := range known(l) {
				asked{c, l, spread(), nine, boost, 100}.checkOn(t, id, 0)
			}
			asked{c, l, crowd(), nine, boost, 50}.checkOn(t, boost, 0)
			asked{c, nil, spread(), nine, boost, 100}.checkOn(t, beginning, 0)
		}
	}
}

// P13.1: of blocks that may not be nothing is on any, neither of votes nor of a boost, also not on the beginning, nor on those ahead of the wrong one.
func TestOnWrongBlocks(t *testing.T) {
	for why, l := range wrongBlocks() {
		if tree.May(l) {
			t.Fatalf("%s may be", why)
		}
		for _, c := range []api.Conf{conf(12), even(12, heavy), {}} {
			for _, boost := range known(l) {
				for _, id := range known(l) {
					asked{c, l, spread(), nine, boost, 100}.checkOn(t, id, 0)
				}
			}
		}
		for _, id := range unknown(l) {
			asked{conf(12), l, ballots(id, beginning), nine, id, 100}.checkOn(t, id, 0)
		}
	}
}

// P13.1: votes of who is no validator change nothing.
func TestOnStrangers(t *testing.T) {
	l, n := bush(), names(bush())
	for _, size := range []int{1, 5, 7, 12} {
		v := spread()[:size]
		for slot, who := range strangers(size) {
			v = append(v, api.Vote{From: who, Slot: slot % (nine + 1), Head: n[slot%len(n)]})
		}
		for turn := range uint64(5) {
			a, b := asked{conf(size), l, mixed(v, turn), nine, n[6], 50}, asked{conf(size), l, spread(), nine, n[6], 50}
			for _, id := range ids(l) {
				a.checkOn(t, id, b.on(id))
			}
			a.checkHead(t, b.head())
		}
	}
}

// P13.1: weights of 0 add nothing, and the greatest ones of all are summed with the greatest boost to the last unit.
func TestOnWeights(t *testing.T) {
	l, n := bush(), names(bush())
	for size := 1; size <= 12; size++ {
		for _, w := range []int{0, 1, heavy - 1, heavy} {
			a := asked{even(size, w), l, ballots(slices.Repeat([]api.ID{n[8]}, size)...), nine, n[4], 100}
			a.checkOn(t, n[8], size*w)
			a.checkOn(t, n[6], size*w)
			a.checkOn(t, n[4], size*w)
			a.checkOn(t, n[1], 2*size*w)
			a.checkOn(t, beginning, 2*size*w)
			a.checkOn(t, n[3], 0)
		}
	}
}

// P13.1: blocks and votes by pseudo-chance, as many as the limits let be, against a plain going through votes and chains.
func TestOnMany(t *testing.T) {
	for seed := range uint64(40) {
		a := someAsked(seed)
		a.check(t, append(known(a.l), api.ID{7, 7}))
	}
}

// someAsked is asked by words that hang on the seed alone; of slots there are few, so that some are double.
func someAsked(seed uint64) asked {
	some := func(n, turn int) int { return int(mix.Step(seed, uint64(turn)) % uint64(n)) }
	l := shape(1+some(api.MaxBlocks, 0), func(i int) int { return max(-1, i-1-some(5, i+1)) })
	n := append(known(l), api.ID{7, 7})
	var v []api.Vote
	for i := range some(api.MaxVotes+1, 100) {
		v = append(v, api.Vote{From: some(14, 1000+i) - 1, Slot: some(200, 2000+i), Head: n[some(len(n), 3000+i)]})
	}
	c := conf(1 + some(12, 200))
	if some(2, 201) == 0 {
		c = even(1+some(12, 200), 1+some(100, 202))
	}
	c.Epoch = 1 + some(8, 203)
	return asked{c, l, v, some(210, 204), n[some(len(n), 205)], some(104, 206)}
}
