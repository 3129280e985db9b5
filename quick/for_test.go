package quick_test

import (
	"math"
	"slices"
	"testing"

	"marigold/api"
	"marigold/duty"
	"marigold/gold"
	"marigold/quick"
	"marigold/tree"
	"marigold/weigh"
)

// duties are who votes in a slot of n validators.
type duties struct {
	n     int
	seed  uint64
	epoch int
	slot  int
	who   []int
}

// written was worked out by another program, by the words of the chapters alone.
func written() []duties {
	return []duties{
		{1, 0, 1, 1, []int{0}},
		{1, 0, 1, last, []int{0}},
		{1, top, 8, 1, nil},
		{1, top, 8, 8, []int{0}},
		{5, 7, 2, 1, []int{0, 2}},
		{5, 7, 2, 2, []int{0, 1, 4}},
		{5, 7, 2, 3, []int{2, 3}},
		{5, 7, 2, 4, []int{1, 3, 4}},
		{5, 7, 2, last - 1, []int{1, 2}},
		{5, 7, 2, last, []int{0, 2, 4}},
		{12, 0, 1, 1, []int{0, 1, 2, 3, 4, 5, 6, 7, 8, 9, 10, 11}},
		{12, 0, 1, last, []int{0, 1, 2, 3, 4, 5, 6, 7, 8, 9, 10, 11}},
		{12, 0, 8, 1, []int{5, 6}},
		{12, 0, 8, 15, []int{7}},
		{12, 0, 8, last, []int{8, 9}},
		{12, top, 3, 1, []int{3, 8, 10, 11}},
		{12, top, 3, 5, []int{2, 3, 7, 9}},
		{12, top, 3, last, []int{2, 4, 7, 8}},
		{12, 1 << 63, 5, 5, []int{2, 4, 10}},
		{12, 1 << 63, 5, last, []int{5, 10, 11}},
		{7, 0x123456789abcdef, 4, 3, []int{1}},
		{7, 0x123456789abcdef, 4, last, []int{3, 6}},
		{3, 1, 8, 3, nil},
		{3, 1, 8, 10, []int{0}},
	}
}

// P15.1: how much of the crowd's votes is for each block in each slot, written out.
func TestForWritten(t *testing.T) {
	n := names(bush())
	for slot, want := range []map[api.ID]int{
		{},
		{beginning: 5, n[0]: 5, n[1]: 5, n[4]: 1, n[6]: 4, n[8]: 4},
		{beginning: 3, n[0]: 3, n[1]: 2, n[6]: 2, n[9]: 1},
		{beginning: 8},
		{beginning: 26, n[0]: 24, n[2]: 2, n[3]: 8},
		{},
		{},
	} {
		a := asked{five(), bush(), crowd(), slot}
		for _, id := range slices.Concat(known(bush()), unknown(bush())) {
			a.checkOn(t, id, want[id])
		}
	}
}

// P15.1: committees written out: where all validators vote for a block, and many strangers, in the slot and in those beside it, the committee's weight is for it, and for all that it stands on.
func TestForCommittees(t *testing.T) {
	l, n := bush(), names(bush())
	for _, x := range written() {
		var v []api.Vote
		for slot := x.slot - 2; slot <= x.slot+2; slot++ {
			v = append(v, castBy(slices.Concat(strangers(x.n), upTo(x.n)), slot, n[6])...)
		}
		all := 0
		for _, who := range x.who {
			all += 1 << who
		}
		a := asked{conf(x.n, x.seed, x.epoch), l, mixed(v, x.seed), x.slot}
		for _, id := range []api.ID{n[6], n[1], n[0], beginning} {
			a.checkOn(t, id, all)
		}
		for _, id := range []api.ID{n[2], n[3], n[4], n[5], n[7], n[8], n[9], {7, 7}} {
			a.checkOn(t, id, 0)
		}
	}
}

// P15.1: the first slot and the last one have votes that are for a block; one below, one above, and others that are no slots have none, though votes bear them.
func TestForSlots(t *testing.T) {
	l, n := bush(), names(bush())
	for epoch := 1; epoch <= 8; epoch++ {
		c := conf(12, 7, epoch)
		for _, slot := range wrongSlots() {
			a := asked{c, l, castBy(append(strangers(12), upTo(12)...), slot, n[6]), slot}
			a.checkNothing(t, known(l))
		}
		for _, slot := range []int{1, 2, epoch, epoch + 1, 8, 9, last - epoch, last - 1, last} {
			a := asked{c, l, castBy(upTo(12), slot, n[6]), slot}
			a.checkOn(t, n[1], weightOf(c, members(c, slot)))
			if a.on(n[1]) == 0 {
				t.Errorf("%v: nothing is for it", a)
			}
		}
	}
}

// P15.1: votes of other slots are for nothing, be they just beside it, or such as would be the slot, if they were cut to four bytes.
func TestForOtherSlots(t *testing.T) {
	c, l, n := conf(12, 7, 1), bush(), names(bush())
	for _, slot := range []int{1, 2, 100, last - 1, last} {
		var v []api.Vote
		for _, other := range append(numbers(), slot-1, slot+1, slot+1<<32, slot-1<<32, -slot) {
			if other != slot {
				v = append(v, castBy(upTo(12), other, n[8])...)
			}
		}
		asked{c, l, v, slot}.checkNothing(t, known(l))
		a := asked{c, l, mixed(append(v, castBy([]int{0, 3, 11}, slot, n[8])...), 1), slot}
		for _, id := range known(l) {
			if tree.Under(l, id, n[8]) {
				a.checkOn(t, id, 1+1<<3+1<<11)
			} else {
				a.checkOn(t, id, 0)
			}
		}
	}
}

// P15.1: who is not in the committee, and who is no validator, is for nothing.
func TestForStrangers(t *testing.T) {
	l, n := bush(), names(bush())
	for size := 1; size <= 12; size++ {
		for epoch := 1; epoch <= 8; epoch++ {
			for slot := 1; slot <= 9; slot++ {
				c := conf(size, 1, epoch)
				in := members(c, slot)
				out := slices.DeleteFunc(append(strangers(size), upTo(size)...), func(who int) bool { return slices.Contains(in, who) })
				asked{c, l, castBy(out, slot, n[4]), slot}.checkNothing(t, []api.ID{beginning, n[0], n[1], n[4]})
				a := asked{c, l, mixed(append(castBy(out, slot, n[4]), castBy(in, slot, n[6])...), 3), slot}
				a.checkOn(t, n[1], weightOf(c, in))
				a.checkOn(t, n[4], 0)
			}
		}
	}
}

// P15.1: who is double in the slot is for nothing, also not for what both heads stand on; who is so in another slot is, and who has one vote twice weighs once.
func TestForDouble(t *testing.T) {
	l, n := bush(), names(bush())
	for _, heads := range [][]api.ID{{n[4], n[6]}, {n[6], n[4]}, {n[0], n[1]}, {n[1], beginning}, {n[1], {7, 7}}, {{7, 7}, {7, 8}}, {n[1], n[1], n[2]}, {n[1], n[2], n[1]}} {
		for who := range 5 {
			for slot := 1; slot <= 4; slot++ {
				var v []api.Vote
				for _, head := range heads {
					v = append(v, api.Vote{From: who, Slot: slot, Head: head})
				}
				asked{five(), l, v, slot}.checkNothing(t, known(l))
				left := slices.DeleteFunc(members(five(), slot), func(x int) bool { return x == who })
				all := mixed(append(v, castBy(upTo(5), slot, n[1])...), uint64(who))
				asked{five(), l, all, slot}.checkOn(t, n[0], weightOf(five(), left))
				later := append(v, castBy(upTo(5), slot+1, n[1])...)
				asked{five(), l, later, slot + 1}.checkOn(t, n[0], weightOf(five(), members(five(), slot+1)))
			}
		}
	}
}

// P15.1: a vote that is there twice, or often, weighs once.
func TestForTwice(t *testing.T) {
	l, n := bush(), names(bush())
	for slot := 1; slot <= 5; slot++ {
		for often := 1; often < 30; often += 7 {
			a := asked{five(), l, mixed(slices.Repeat(castBy(upTo(5), slot, n[8]), often), uint64(often)), slot}
			a.checkOn(t, n[6], weightOf(five(), members(five(), slot)))
			a.checkOn(t, beginning, weightOf(five(), members(five(), slot)))
		}
	}
}

// P15.1: without votes nothing is for any block.
func TestForNoVotes(t *testing.T) {
	for _, c := range []api.Conf{{}, conf(1, 0, 1), five(), beta(five(), 0, 1), conf(12, top, 8)} {
		for _, slot := range numbers() {
			asked{c, bush(), nil, slot}.checkNothing(t, known(bush()))
			asked{c, bush(), []api.Vote{}, slot}.checkNothing(t, known(bush())[:3])
		}
	}
}

// P15.1: votes for what nobody knows are for nothing, those for the beginning for that alone.
func TestForNowhere(t *testing.T) {
	l := bush()
	for i, head := range unknown(l) {
		slot := 1 + i%5
		a := asked{beta(five(), 0, 1), l, castBy(upTo(5), slot, head), slot}
		a.checkNothing(t, append(known(l), head))
	}
	for slot := 1; slot <= 5; slot++ {
		a := asked{beta(five(), 0, 1), l, castBy(upTo(5), slot, beginning), slot}
		a.checkOn(t, beginning, weightOf(five(), members(five(), slot)))
		a.checkNothing(t, append(names(l), unknown(l)...))
	}
}

// P15.1: for IDs that are not known is nothing, whatever votes are for, also for these.
func TestForUnknown(t *testing.T) {
	l := bush()
	for i, id := range unknown(l) {
		slot := 1 + i%5
		v := append(castBy(upTo(5), slot, names(l)[6]), castBy([]int{1, 3}, slot+1, id)...)
		asked{five(), l, v, slot}.checkNothing(t, []api.ID{id})
		asked{five(), l, v, slot + 1}.checkNothing(t, []api.ID{id})
	}
}

// P15.1: a name of which one word is 0 is not the beginning's.
func TestForHalfNoughts(t *testing.T) {
	for _, b := range []api.Block{{Slot: 1, Salt: 11113000728493481852}, {Slot: 1, Salt: 229301427494338721}} {
		l := []api.Block{b, {Slot: 2}, {Slot: 2, Parent: tree.Name(b)}}
		n := names(l)
		if n[0][0] != 0 && n[0][1] != 0 {
			t.Fatalf("%x has no nought", n[0])
		}
		a := asked{five(), l, castBy(upTo(5), 2, n[0]), 2}
		a.checkOn(t, n[0], 19)
		a.checkOn(t, n[1], 0)
		a.checkTop(t, n[0], topmost{n[0], true})
		a.checkTop(t, n[1], topmost{})
		a.checkTop(t, n[2], topmost{n[0], true})
		a.check(t)
	}
}

// P15.1: without blocks votes for the beginning are for it, and for nothing else.
func TestForNoBlocks(t *testing.T) {
	for _, l := range [][]api.Block{nil, {}} {
		a := asked{five(), l, crowd(), 3}
		a.checkOn(t, beginning, 8)
		a.checkNothing(t, unknown(bush()))
		a.checkNothing(t, names(bush()))
		a.v = castBy(upTo(5), 3, beginning)
		a.checkOn(t, beginning, 12)
		a.checkSure(t, beginning, true)
		a.checkTop(t, beginning, topmost{})
	}
}

// P15.1: of a conf that may not be nothing is for any block, in whatever slot.
func TestForWrongConfs(t *testing.T) {
	l := bush()
	for why, c := range wrongConfs() {
		if duty.May(c) {
			t.Fatalf("%s may be", why)
		}
		for _, slot := range append(numbers(), 3, 8) {
			asked{c, l, castBy([]int{-1, 0, 1, 2, 3, 4, 5, 12}, slot, names(l)[6]), slot}.checkNothing(t, known(l)[:3])
		}
		asked{c, l, crowd(), 4}.checkNothing(t, append(known(l), api.ID{7, 7}))
	}
}

// P15.1, and P1: of blocks that may not be nothing is for any of them, also not for the beginning, with any conf.
func TestForWrongBlocks(t *testing.T) {
	confs := wrongConfs()
	confs["right"] = five()
	confs["right, without beta"] = beta(five(), 0, 1)
	for why, l := range wrongBlocks() {
		if tree.May(l) {
			t.Fatalf("%s may be", why)
		}
		for _, c := range confs {
			for slot := range 3 {
				asked{c, l, append(crowd(), castBy(upTo(5), slot, beginning)...), slot}.checkNothing(t, known(l))
				asked{c, l, castBy(upTo(5), slot, tree.Name(l[0])), slot}.checkNothing(t, known(l)[:2])
			}
		}
	}
}

// P15.1: it is weigh's On of the view's blocks, and of gold's Of of its votes; of all votes it may be more.
func TestForByOthers(t *testing.T) {
	others := 0
	for seed := range uint64(300) {
		a := someAsked(seed)
		of := gold.Of(a.c, a.v, a.slot)
		for _, id := range append(known(a.l), api.ID{7, 7}) {
			a.checkOn(t, id, weigh.On(a.c, a.l, of, id))
			if a.on(id) != weigh.On(a.c, a.l, a.v, id) {
				others++
			}
		}
	}
	if others < 1000 {
		t.Errorf("only %d are others", others)
	}
}

// P15.1: with weights on the edges it is their sum.
func TestForWeights(t *testing.T) {
	l, n := two(3), names(two(3))
	for size := 1; size <= 12; size++ {
		for _, w := range []int{0, 1, heavy - 1, heavy} {
			a := asked{even(size, w), l, castBy(upTo(size), nine, n[1]), nine}
			a.checkOn(t, n[1], size*w)
			a.checkOn(t, beginning, size*w)
			a.checkOn(t, n[0], 0)
			a.c.W[size-1] = 7
			a.checkOn(t, n[1], (size-1)*w+7)
		}
	}
}

// P15.1, and P1: far more blocks and votes than a view may have are counted in good time.
func TestForFarMore(t *testing.T) {
	const high, many = 1 << 14, 1 << 16
	var v []api.Vote
	l := line(high)
	n := names(l)
	for i := range many {
		v = append(v, api.Vote{From: i + 12, Slot: nine, Head: n[i%high]}, api.Vote{From: i % 12, Slot: nine + 1 + i, Head: n[high-1]})
	}
	a := asked{conf(12, 7, 1), l, append(v, ballots(n[5], n[high-1], n[high/2])...), nine}
	for _, x := range []struct{ at, want int }{{0, 7}, {5, 7}, {6, 6}, {high / 2, 6}, {high/2 + 1, 2}, {high - 1, 2}} {
		if got := a.on(n[x.at]); got != x.want {
			t.Errorf("of the line's %d for it is %d", x.at, got)
		}
	}
	if got := quick.For(a.c, a.view(), math.MaxInt, n[0]); got != 0 {
		t.Errorf("in no slot for it is %d", got)
	}
}
