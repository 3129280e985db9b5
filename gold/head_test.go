package gold_test

import (
	"math"
	"slices"
	"testing"

	"marigold/api"
	"marigold/duty"
	"marigold/ghost"
	"marigold/gold"
	"marigold/tree"
	"marigold/votes"
)

// P14.1: the crowd's head in each slot, written out where weights tell it; in all others names do.
func TestHeadWritten(t *testing.T) {
	l, n := bush(), names(bush())
	byNames := headOf(nil, l)
	for slot, want := range []api.ID{byNames, n[8], n[8], byNames, n[3], byNames, byNames} {
		asked{five(), l, crowd(), slot}.checkHead(t, want)
	}
	for _, slot := range wrongSlots() {
		asked{five(), l, crowd(), slot}.checkHead(t, byNames)
	}
}

// P14.1: of two blocks, where the committee is for one and all others are for the other one, the committee's is the head, whatever both weigh.
func TestHeadCommittees(t *testing.T) {
	for salt, x := range written() {
		l := two(uint64(salt))
		n := names(l)
		others := slices.DeleteFunc(upTo(x.n), func(who int) bool { return slices.Contains(x.who, who) })
		for i := range n {
			v := append(castBy(append(strangers(x.n), others...), x.slot, n[1-i]), castBy(x.who, x.slot, n[i])...)
			for turn := range uint64(3) {
				a := asked{conf(x.n, x.seed, x.epoch), l, mixed(v, turn), x.slot}
				if len(x.who) > 0 {
					a.checkHead(t, n[i])
				} else {
					a.checkHead(t, n[1])
				}
			}
		}
	}
}

// P14.1: each way in which the three of a committee may vote, while the other two vote as well: what the heaviest ones of it are for is the head.
func TestHeadOfThree(t *testing.T) {
	l, n := two(5), names(two(5))
	for way := range 32 {
		var v []api.Vote
		for who := range 5 {
			v = append(v, api.Vote{From: who, Slot: 2, Head: n[way>>who&1]})
		}
		// 0, 1 and 4 are in the committee of slot 2, and 4 weighs more than both others.
		asked{five(), l, v, 2}.checkHead(t, n[way>>4&1])
		// In slot 4 those are 1, 3 and 4.
		for i := range v {
			v[i].Slot = 4
		}
		asked{five(), l, v, 4}.checkHead(t, n[way>>4&1])
		asked{five(), l, slices.Delete(slices.Clone(v), 4, 5), 4}.checkHead(t, n[way>>3&1])
	}
}

// P14.1: who is double weighs nothing, for none of both heads.
func TestHeadDouble(t *testing.T) {
	for salt := range uint64(20) {
		l := two(salt)
		n := names(l)
		for i := range n {
			v := append(castBy([]int{0, 1, 4}, 2, n[i]), castBy([]int{4, 3, 2}, 2, n[1-i])...)
			asked{five(), l, v, 2}.checkHead(t, n[i])
			asked{five(), l, append(v, castBy([]int{0, 1}, 2, n[1-i])...), 2}.checkHead(t, n[1])
			asked{five(), l, append(v, castBy([]int{1}, 2, beginning)...), 2}.checkHead(t, n[i])
			asked{five(), l, append(v, castBy([]int{0, 1}, 2, api.ID{7, 7})...), 2}.checkHead(t, n[1])
			asked{five(), l, castBy([]int{0, 1, 2, 2, 1, 0, 2}, 2, n[i]), 2}.checkHead(t, n[i])
		}
	}
}

// P14.1: votes for what nobody knows, and for the beginning, leave the head to names.
func TestHeadNowhere(t *testing.T) {
	for salt := range uint64(10) {
		l := salted(salt*100, -1, 0, -1, 0, 1, 2, 1, -1, 6, 0)
		want := headOf(nil, l)
		for i, head := range append(unknown(l), beginning) {
			slot := 1 + i%5
			asked{five(), l, castBy(upTo(5), slot, head), slot}.checkHead(t, want)
			v := append(castBy([]int{1, 3, 4}, 4, head), castBy([]int{0, 2}, 4, tree.Name(l[5]))...)
			asked{five(), l, v, 4}.checkHead(t, want)
			v = append(castBy([]int{1, 3}, 4, head), castBy([]int{4}, 4, tree.Name(l[5]))...)
			asked{five(), l, v, 4}.checkHead(t, tree.Name(l[5]))
		}
	}
}

// P14.1: without votes names tell, at each fork.
func TestHeadNoVotes(t *testing.T) {
	for salt := range uint64(20) {
		l := salted(salt*100, -1, 0, -1, 0, 1, 2, 1, -1, 6, 0)
		for _, v := range [][]api.Vote{nil, {}} {
			for _, slot := range []int{math.MinInt, 0, 1, 5, last, last + 1} {
				asked{five(), l, v, slot}.checkHead(t, headOf(nil, l))
			}
		}
	}
}

// P14.1: without blocks the head is the beginning, and of one block that, whatever votes are for.
func TestHeadFewBlocks(t *testing.T) {
	b := api.Block{Slot: 4, From: 3, Salt: top}
	for _, c := range []api.Conf{{}, five(), even(3, 0)} {
		for _, v := range [][]api.Vote{nil, crowd(), castBy(upTo(5), 2, tree.Name(b)), castBy(upTo(5), 2, beginning)} {
			for _, slot := range numbers() {
				asked{c, nil, v, slot}.checkHead(t, beginning)
				asked{c, []api.Block{}, v, slot}.checkHead(t, beginning)
				asked{c, []api.Block{b}, v, slot}.checkHead(t, tree.Name(b))
			}
		}
	}
	if head := gold.Head(five(), api.View{}, 2); head != beginning {
		t.Errorf("of a view of noughts the head is %x", head)
	}
}

// P14.1: of a conf that may not be no vote counts, so that the greatest name is the head at each fork.
func TestHeadWrongConfs(t *testing.T) {
	l := bush()
	want := headOf(nil, l)
	for why, c := range wrongConfs() {
		if duty.May(c) {
			t.Fatalf("%s may be", why)
		}
		for slot := range 7 {
			asked{c, l, crowd(), slot}.checkHead(t, want)
			asked{c, l, castBy(upTo(5), slot, names(l)[5]), slot}.checkHead(t, want)
		}
	}
}

// P14.1, and P1: of blocks that may not be the head is the beginning, with any conf; votes are told of all the same.
func TestHeadWrongBlocks(t *testing.T) {
	confs := wrongConfs()
	confs["right"] = five()
	for why, l := range wrongBlocks() {
		if tree.May(l) {
			t.Fatalf("%s may be", why)
		}
		for _, c := range confs {
			for slot := range 7 {
				asked{c, l, crowd(), slot}.checkHead(t, beginning)
				for _, id := range names(l) {
					asked{c, l, castBy(upTo(5), slot, id), slot}.checkHead(t, beginning)
				}
			}
		}
		v := castBy([]int{0, 1, 4}, 2, tree.Name(l[0]))
		asked{five(), l, v, 2}.checkOf(t, v)
	}
}

// P14.1: it is ghost's Head of the view's blocks, and of the votes that Of tells; of all votes, or of all of the slot, it may be another one.
func TestHeadByOthers(t *testing.T) {
	var all, ofSlot int
	for seed := range uint64(300) {
		a := someAsked(seed)
		a.checkHead(t, ghost.Head(a.c, a.l, a.of()))
		if a.head() != ghost.Head(a.c, a.l, a.v) {
			all++
		}
		if a.head() != ghost.Head(a.c, a.l, votes.Of(a.v, a.slot)) {
			ofSlot++
		}
	}
	if all < 30 || ofSlot < 30 {
		t.Errorf("only %d and %d heads are others", all, ofSlot)
	}
	for _, l := range wrongBlocks() {
		a := asked{five(), l, crowd(), 2}
		a.checkHead(t, ghost.Head(five(), l, a.of()))
	}
}

// P14.1: of several that weigh the same the one of the greatest name is the head, in whatever order they stand, on the beginning and on a block.
func TestHeadGreatestName(t *testing.T) {
	for salt := range uint64(30) {
		for _, parents := range [][]int{{-1, -1, -1, -1}, {-1, 0, 0, 0, 0}, {-1, 0, 1, 2, 2, 2, 2}} {
			l := salted(salt*100, parents...)
			low, n := len(l)-4, names(l)[len(l)-4:]
			v := ballots(n[1], n[2], n[3], n[3])
			for turn := range uint64(4) {
				m := append(slices.Clone(l[:low]), mixed(l[low:], turn)...)
				asked{weighing(20, 20, 10, 10, 40), m, v, nine}.checkHead(t, greatest(n[1:]))
				asked{weighing(20, 19, 10, 10, 41), m, v, nine}.checkHead(t, greatest([]api.ID{n[1], n[3]}))
				asked{weighing(20, 21, 10, 10, 39), m, v, nine}.checkHead(t, n[2])
				asked{weighing(0, 0, 0, 0, 100), m, v, nine}.checkHead(t, greatest(n))
			}
		}
	}
}

// P14.1: all trees of up to four blocks, with all lists of up to two votes, of the committee and of one beside it, in two slots.
func TestHeadSmall(t *testing.T) {
	trees := [][]int{{}, {-1}}
	for p := range 2 {
		trees = append(trees, []int{-1, p - 1})
		for q := range 3 {
			trees = append(trees, []int{-1, p - 1, q - 1})
			for r := range 4 {
				trees = append(trees, []int{-1, p - 1, q - 1, r - 1})
			}
		}
	}
	for _, parents := range trees {
		l := grow(parents...)
		var v []api.Vote
		for _, head := range append(known(l), api.ID{7, 7}) {
			for who := range 3 {
				v = append(v, api.Vote{From: who, Slot: 1, Head: head}, api.Vote{From: who, Slot: 2, Head: head})
			}
		}
		for i, x := range v {
			asked{five(), l, []api.Vote{x}, 1 + i/2%2}.check(t)
			for _, y := range v[:i+1] {
				asked{five(), l, []api.Vote{x, y}, 1}.check(t)
				asked{five(), l, []api.Vote{y, x}, 2}.check(t)
			}
		}
	}
}

// P14.1: blocks and votes by pseudo-chance, as many as the limits let be, against a plain going through votes and chains.
func TestHeadMany(t *testing.T) {
	for seed := range uint64(300) {
		someAsked(seed).check(t)
	}
}

// P14.1: in whatever order blocks stand that may be, the head is the same.
func TestHeadOrderOfBlocks(t *testing.T) {
	for _, l := range [][]api.Block{bush(), ladder(12), grow(-1, -1, -1, 0, 0, 0, 1, 1, 1, 2, 2, 2)} {
		for _, v := range [][]api.Vote{nil, crowd(), castBy(upTo(5), 2, names(l)[3])} {
			for slot := range 7 {
				a := asked{five(), l, v, slot}
				want := headOf(a.weights(), l)
				for seed := range uint64(5) {
					a.l = shuffled(l, seed)
					a.checkHead(t, want)
				}
			}
		}
	}
}

// P14.1, P1: all edges at once: slots and epochs, confs and blocks that may be and that may not, votes of whole numbers' edges.
func TestEdges(t *testing.T) {
	confs := []api.Conf{{}, {W: []int{1}, Epoch: 0, Den: 1}, even(1, 0), even(12, heavy), even(13, 1), weighing(math.MinInt, math.MaxInt)}
	for epoch := 1; epoch <= 8; epoch++ {
		confs = append(confs, conf(epoch, top, epoch), conf(12, 0, epoch))
	}
	var v []api.Vote
	for _, slot := range numbers() {
		for i, who := range numbers() {
			v = append(v, api.Vote{From: who, Slot: slot, Head: known(bush())[(i+slot&7)%11]})
		}
	}
	for _, c := range confs {
		for _, l := range [][]api.Block{nil, line(1), bush(), bush()[1:]} {
			for _, slot := range numbers() {
				asked{c, l, v, slot}.check(t)
			}
		}
	}
}

// P14.1: as many blocks and votes as the limits let be, in a line, side by side, and in forks.
func TestFullView(t *testing.T) {
	fork := shape(api.MaxBlocks, func(i int) int { return (i+1)/2 - 1 })
	for _, l := range [][]api.Block{line(api.MaxBlocks), star(api.MaxBlocks), ladder(api.MaxBlocks), fork} {
		n := known(l)
		for turn := range 4 {
			var v []api.Vote
			for i := range api.MaxVotes {
				v = append(v, api.Vote{From: (i*5 + turn) % 14, Slot: 1 + i%7, Head: n[(i*i+turn*i)%len(n)]})
			}
			for _, c := range []api.Conf{conf(12, 7, 1), conf(12, 7, 3), even(12, heavy), even(12, 1)} {
				for slot := range 9 {
					asked{c, l, v, slot}.check(t)
				}
			}
		}
	}
}

// P14.1, and P1: a long line, two of them on the beginning, and many blocks side by side, are gone along in good time, with far more votes than a view may have.
func TestHeadFarMore(t *testing.T) {
	const high, wide = 1 << 14, 500
	var v []api.Vote
	for who := range 1 << 16 {
		v = append(v, api.Vote{From: who + 12, Slot: nine, Head: names(star(2))[0]})
	}
	l := line(high)
	n := names(l)
	asked{even(4, 25), l, append(v, ballots(n[5], n[high-1], n[high/2])...), nine}.checkHead(t, n[high-1])
	l = shape(high, func(i int) int { return max(i-2, -1) })
	n = names(l)
	for i := range 2 {
		for _, at := range []int{i, i + high/2, i + high - 2} {
			asked{weighing(3, 2), l, append(v, ballots(n[at], n[1-i])...), nine}.checkHead(t, n[high-2+i])
		}
	}
	l = star(wide)
	n = names(l)
	for _, i := range []int{0, 1, wide / 2, wide - 8, wide - 7, wide - 1} {
		asked{weighing(3, 2, 2, 2), l, ballots(n[i], n[(i+7)%wide], n[(i+8)%wide], n[(i+7)%wide]), nine}.checkHead(t, n[(i+7)%wide])
	}
	asked{even(4, 25), l, v, nine}.checkHead(t, greatest(n))
}
