package quick_test

import (
	"slices"
	"testing"

	"marigold/api"
	"marigold/duty"
	"marigold/quick"
	"marigold/tree"
)

// P15.2: the tops of all heads in the crowd's slots, by beta, written out; by the last beta none is sure but the beginning.
func TestTopWritten(t *testing.T) {
	n := names(bush())
	for _, x := range []struct {
		num, den, slot int
		tops           map[api.ID]api.ID
	}{
		{1, 4, 1, map[api.ID]api.ID{n[0]: n[0], n[1]: n[1], n[3]: n[0], n[4]: n[1], n[6]: n[6], n[8]: n[8], n[9]: n[0]}},
		{3, 10, 1, map[api.ID]api.ID{n[0]: n[0], n[1]: n[1], n[3]: n[0], n[4]: n[1], n[6]: n[1], n[8]: n[1], n[9]: n[0]}},
		{1, 4, 4, map[api.ID]api.ID{n[0]: n[0], n[1]: n[0], n[3]: n[0], n[4]: n[0], n[6]: n[0], n[8]: n[0], n[9]: n[0]}},
		{0, 1, 2, nil},
		{0, 1, 3, nil},
		{0, 1, 5, nil},
		{1, 2, 1, nil},
		{45, 100, 4, nil},
	} {
		a := asked{beta(five(), x.num, x.den), bush(), crowd(), x.slot}
		for _, head := range slices.Concat(known(bush()), unknown(bush())) {
			id, is := x.tops[head]
			a.checkTop(t, head, topmost{id, is})
		}
	}
}

// sureUpTo is a line of blocks of which the first ones, as many as are told, are sure.
func sureUpTo(high, sure int) asked {
	l := line(high)
	all := known(l)
	// The votes of 0 to 3 make it sure, that of 4 alone, of one above, does not.
	return asked{even(5, 100), l, ballots(all[sure], all[high], all[sure], all[sure], all[sure]), nine}
}

// P15.2: of a line of which none, only the lowest, some, or all are sure, each head has as its top the last of these that is on its chain: only the first one of a chain, only the last one, or several.
func TestTopOfLine(t *testing.T) {
	for high := range 12 {
		for sure := range high + 1 {
			a := sureUpTo(high, sure)
			for at, head := range known(a.l) {
				want := min(at, sure)
				a.checkTop(t, head, topmost{known(a.l)[want], want > 0})
				a.checkSure(t, head, at <= sure)
			}
		}
	}
}

// P15.2: so it is of longer lines, also of as many blocks as the limits let be.
func TestTopOfLongLine(t *testing.T) {
	for high := 12; high <= api.MaxBlocks; high += 6 {
		for sure := range high + 1 {
			a := sureUpTo(high, sure)
			all := known(a.l)
			for _, at := range []int{0, 1, 2, sure - 1, sure, sure + 1, high/2 - 1, high / 2, high - 1, high} {
				if 0 <= at && at <= high {
					want := min(at, sure)
					a.checkTop(t, all[at], topmost{all[want], want > 0})
				}
			}
		}
	}
}

// P15.2: a block that is sure but not on the head's chain is not its top; what both chains have is, if it is a block.
func TestTopBesideChain(t *testing.T) {
	l, n := bush(), names(bush())
	for _, x := range []struct{ voted, head, top api.ID }{
		{n[8], n[4], n[1]}, {n[4], n[8], n[1]}, {n[8], n[3], n[0]}, {n[9], n[8], n[0]}, {n[8], n[5], beginning}, {n[5], n[8], beginning},
		{n[7], n[2], beginning}, {n[2], n[5], n[2]}, {n[5], n[2], n[2]}, {n[6], n[8], n[6]}, {n[8], n[6], n[6]}, {n[0], n[7], beginning},
	} {
		for slot := 1; slot <= 4; slot++ {
			a := asked{five(), l, castBy(upTo(5), slot, x.voted), slot}
			a.checkSure(t, x.voted, true)
			a.checkTop(t, x.head, topmost{x.top, x.top != beginning})
		}
	}
}

// P15.2: each block as what all vote for, and each as the head: the top is the first one that is on both chains.
func TestTopOfEachTwo(t *testing.T) {
	for _, l := range [][]api.Block{bush(), line(7), star(7), ladder(9)} {
		for _, voted := range append(known(l), api.ID{7, 7}) {
			a := asked{five(), l, castBy(upTo(5), 2, voted), 2}
			for _, head := range append(known(l), api.ID{7, 7}) {
				want := topmost{}
				for _, id := range tree.Chain(l, head) {
					if id != beginning && tree.Under(l, id, voted) {
						want = topmost{id, true}
						break
					}
				}
				a.checkTop(t, head, want)
			}
		}
	}
}

// P15.2: heads that are not known have no top, though all vote for them, or for a block; neither has the beginning, though it is sure.
func TestTopOfNone(t *testing.T) {
	l := bush()
	for i, head := range append(unknown(l), beginning) {
		slot := 1 + i%5
		for _, id := range append(known(l), head) {
			a := asked{beta(five(), 0, 1), l, castBy(upTo(5), slot, id), slot}
			a.checkTop(t, head, topmost{})
			a.checkTop(t, beginning, topmost{})
		}
	}
	a := asked{five(), l, castBy(upTo(5), 2, names(l)[8]), 2}
	a.checkSure(t, beginning, true)
	a.checkTop(t, beginning, topmost{})
}

// P15.2: where only the beginning is sure no head has a top.
func TestTopOfBeginningAlone(t *testing.T) {
	for _, l := range [][]api.Block{nil, line(1), bush(), star(api.MaxBlocks)} {
		for slot := 1; slot <= 5; slot++ {
			a := asked{five(), l, castBy(upTo(5), slot, beginning), slot}
			a.checkSure(t, beginning, true)
			for _, head := range known(l) {
				a.checkTop(t, head, topmost{})
			}
		}
	}
	// Two forks divide the committee, so that both together are enough, but none alone.
	l := bush()
	a := asked{even(4, 1), l, ballots(names(l)[0], names(l)[2], names(l)[7], names(l)[8]), nine}
	a.checkSure(t, beginning, true)
	for _, head := range known(l) {
		a.checkTop(t, head, topmost{})
	}
}

// P15.2: of a slot's votes alone: what was sure in the slot before, or will be in the next one, is none.
func TestTopOfOtherSlots(t *testing.T) {
	l, n := bush(), names(bush())
	v := append(castBy(upTo(5), 2, n[8]), castBy(upTo(5), 4, n[4])...)
	for slot, want := range []api.ID{2: n[8], 4: n[1], 6: beginning} {
		asked{five(), l, v, slot}.checkTop(t, n[8], topmost{want, want != beginning})
	}
	for _, slot := range append(wrongSlots(), 1, 3, 5, last) {
		a := asked{five(), l, append(v, castBy(upTo(5), min(slot, 0), n[8])...), slot}
		a.checkTop(t, n[8], topmost{})
		a.checkTop(t, n[4], topmost{})
	}
}

// P15.2: of confs that may not be, and of blocks that may not be, there is no top, whatever all vote for.
func TestTopOfWrong(t *testing.T) {
	l, n := bush(), names(bush())
	for why, c := range wrongConfs() {
		if duty.May(c) {
			t.Fatalf("%s may be", why)
		}
		for slot := range 6 {
			for _, head := range append(known(l), api.ID{7, 7}) {
				asked{c, l, castBy(upTo(5), slot, n[8]), slot}.checkTop(t, head, topmost{})
			}
		}
	}
	for why, wrong := range wrongBlocks() {
		if tree.May(wrong) {
			t.Fatalf("%s may be", why)
		}
		for _, head := range append(known(wrong), known(l)...) {
			for _, id := range append(known(wrong), head) {
				asked{beta(five(), 0, 1), wrong, castBy(upTo(5), 2, id), 2}.checkTop(t, head, topmost{})
			}
		}
	}
	if id, is := quick.Top(five(), api.View{}, 2, n[8]); id != beginning || is {
		t.Errorf("of a view of noughts the top is %x, %t", id, is)
	}
	if id, is := quick.Top(api.Conf{}, api.View{}, 0, beginning); id != beginning || is {
		t.Errorf("of noughts the top is %x, %t", id, is)
	}
}

// P15.1, P15.2: all trees of up to four blocks, with all lists of up to two votes, of the committee and of one beside it, in two slots.
func TestSmall(t *testing.T) {
	trees := [][]int{{}, {-1}}
	for p := range 2 {
		trees = append(trees, []int{-1, p - 1})
		for q := range 3 {
			trees = append(trees, []int{-1, p - 1, q - 1})
			for r := range 4 {
				trees = append(trees, []int{-1, p - 1, q - 1, r - 1})
			}
		}
	}
	for _, parents := range trees {
		l := grow(parents...)
		var v []api.Vote
		for _, head := range append(known(l), api.ID{7, 7}) {
			for _, who := range []int{0, 2, 4} {
				v = append(v, api.Vote{From: who, Slot: 1, Head: head}, api.Vote{From: who, Slot: 2, Head: head})
			}
		}
		for i, x := range v {
			asked{five(), l, []api.Vote{x}, 1 + i%2}.check(t)
			for k, y := range v[:i+1] {
				asked{beta(five(), k%3, 12), l, []api.Vote{x, y}, 1 + (i/2+k)%2}.check(t)
			}
		}
	}
}

// P15.1, P15.2: blocks and votes by pseudo-chance, and betas, against a plain going through votes and chains; often enough there is a top that is not the head.
func TestMany(t *testing.T) {
	tops, lower := 0, 0
	for seed := range uint64(200) {
		a := someAsked(seed)
		a.check(t)
		for _, head := range names(a.l) {
			switch x := a.top(head); {
			case x.is && x.id != head:
				lower++
			case x.is:
				tops++
			}
		}
	}
	if tops < 300 || lower < 500 {
		t.Errorf("only %d and %d have a top", tops, lower)
	}
}

// P15.2: it is the first block on tree's Chain that is Sure, the beginning left out.
func TestTopByOthers(t *testing.T) {
	for seed := range uint64(120) {
		a := someAsked(seed)
		for _, head := range append(known(a.l), api.ID{7, 7}) {
			chain := tree.Chain(a.l, head)
			want := topmost{}
			if i := slices.IndexFunc(chain, a.sure); i >= 0 && i < len(chain)-1 {
				want = topmost{chain[i], true}
			}
			a.checkTop(t, head, want)
		}
	}
}

// P15.1, P15.2: in whatever order blocks stand that may be, and votes, all is the same.
func TestOrder(t *testing.T) {
	for seed := range uint64(40) {
		a := someAsked(seed)
		p := a.plainly()
		for turn := range uint64(3) {
			b := a
			b.l, b.v = shuffled(a.l, turn), append(mixed(a.v, turn), a.v[:len(a.v)/2]...)
			for _, id := range known(a.l) {
				b.checkOn(t, id, p.on[id])
				b.checkSure(t, id, p.sure(id))
				b.checkTop(t, id, p.top(id))
			}
		}
	}
}

// P15.1, P15.2, P1: all edges at once: slots and epochs, confs and blocks that may be and that may not, votes of whole numbers' edges.
func TestEdges(t *testing.T) {
	confs := []api.Conf{{}, {W: []int{1}, Epoch: 0, Den: 1}, even(1, 0), even(12, heavy), even(13, 1), beta(even(12, 1), 0, 1), beta(five(), 1, 2)}
	for epoch := 1; epoch <= 8; epoch++ {
		confs = append(confs, conf(epoch, top, epoch), beta(conf(12, 0, epoch), 0, 1000))
	}
	var v []api.Vote
	for _, slot := range numbers() {
		for i, who := range numbers() {
			v = append(v, api.Vote{From: who, Slot: slot, Head: known(bush())[(i+slot&7)%11]})
		}
	}
	for _, c := range confs {
		for _, l := range [][]api.Block{nil, line(1), bush(), bush()[1:]} {
			for _, slot := range numbers() {
				asked{c, l, v, slot}.check(t)
			}
		}
	}
}

// P15.1, P15.2: as many blocks and votes as the limits let be, in a line, side by side, and in forks.
func TestFullView(t *testing.T) {
	fork := shape(api.MaxBlocks, func(i int) int { return (i+1)/2 - 1 })
	for _, l := range [][]api.Block{line(api.MaxBlocks), star(api.MaxBlocks), ladder(api.MaxBlocks), fork} {
		n := known(l)
		for turn := range 2 {
			var v []api.Vote
			for i := range api.MaxVotes {
				v = append(v, api.Vote{From: (i*5 + turn) % 14, Slot: 1 + i%7, Head: n[(i*i+turn*i)%len(n)]})
			}
			for _, c := range []api.Conf{conf(12, 7, 3), beta(conf(12, 7, 5), 0, 1), even(12, heavy)} {
				for slot := 1; slot < 9; slot += 2 {
					asked{c, l, v, slot}.check(t)
				}
			}
		}
	}
}

// P15.2, and P1: chains of far more blocks than a view may have are gone along in good time, be none of them sure, the lowest one, one between, or the head.
func TestTopFarMore(t *testing.T) {
	const high = 1 << 14
	l := line(high)
	all := known(l)
	for _, sure := range []int{0, 1, 2, 5, high/2 - 1, high / 2, high - 1, high} {
		a := asked{even(5, 100), l, castBy(upTo(4), nine, all[sure]), nine}
		for _, at := range []int{high, max(sure, 1), sure / 2} {
			want := min(at, sure)
			if got := a.top(all[at]); got != (topmost{all[want], want > 0}) {
				t.Errorf("of %d, of which %d are sure, the top of that of %d is %v", high, sure, at, got)
			}
		}
	}
}
