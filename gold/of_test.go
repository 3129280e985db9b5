package gold_test

import (
	"math"
	"slices"
	"testing"

	"marigold/api"
	"marigold/duty"
	"marigold/gold"
	"marigold/votes"
)

// duties are who votes in a slot of n validators.
type duties struct {
	n     int
	seed  uint64
	epoch int
	slot  int
	who   []int
}

// written was worked out by another program, by the words of the chapters alone.
func written() []duties {
	return []duties{
		{1, 0, 1, 1, []int{0}},
		{1, 0, 1, last, []int{0}},
		{1, top, 8, 1, nil},
		{1, top, 8, 8, []int{0}},
		{1, top, 8, 9, nil},
		{5, 7, 2, 1, []int{0, 2}},
		{5, 7, 2, 2, []int{0, 1, 4}},
		{5, 7, 2, 3, []int{2, 3}},
		{5, 7, 2, 4, []int{1, 3, 4}},
		{5, 7, 2, 5, []int{0, 2}},
		{5, 7, 2, last - 1, []int{1, 2}},
		{5, 7, 2, last, []int{0, 2, 4}},
		{12, 0, 1, 1, []int{0, 1, 2, 3, 4, 5, 6, 7, 8, 9, 10, 11}},
		{12, 0, 1, last, []int{0, 1, 2, 3, 4, 5, 6, 7, 8, 9, 10, 11}},
		{12, 0, 8, 1, []int{5, 6}},
		{12, 0, 8, 7, []int{10}},
		{12, 0, 8, 8, []int{0, 2}},
		{12, 0, 8, 9, []int{1, 3}},
		{12, 0, 8, 15, []int{7}},
		{12, 0, 8, 16, []int{7, 8}},
		{12, 0, 8, last, []int{8, 9}},
		{12, top, 3, 1, []int{3, 8, 10, 11}},
		{12, top, 3, 2, []int{0, 4, 5, 7}},
		{12, top, 3, 3, []int{1, 4, 5, 8}},
		{12, top, 3, 4, []int{0, 6, 10, 11}},
		{12, top, 3, 5, []int{2, 3, 7, 9}},
		{12, top, 3, last, []int{2, 4, 7, 8}},
		{12, 1 << 63, 5, 4, []int{5, 7}},
		{12, 1 << 63, 5, 5, []int{2, 4, 10}},
		{12, 1 << 63, 5, 1000, []int{3, 7, 9}},
		{12, 1 << 63, 5, last, []int{5, 10, 11}},
		{7, 0x123456789abcdef, 4, 3, []int{1}},
		{7, 0x123456789abcdef, 4, 4, []int{3, 4}},
		{7, 0x123456789abcdef, 4, last, []int{3, 6}},
		{2, top, 2, 1, []int{1}},
		{2, top, 2, 2, []int{1}},
		{2, top, 2, 3, []int{0}},
		{3, 1, 8, 3, nil},
		{3, 1, 8, 10, []int{0}},
	}
}

// P14.1: the chapter's example: a vote of who is not in the committee does not count, be it alone or with others.
func TestExample(t *testing.T) {
	l, n := two(0), names(two(0))
	for who := range 5 {
		a := asked{five(), l, castBy([]int{who}, 1, n[0]), 1}
		if who == 0 || who == 2 {
			a.checkOf(t, a.v)
			a.checkHead(t, n[0])
		} else {
			a.checkOf(t, nil)
			a.checkHead(t, n[1])
		}
	}
	a := asked{five(), l, append(castBy([]int{1, 3, 4}, 1, n[1]), castBy([]int{2}, 1, n[0])...), 1}
	a.checkOf(t, castBy([]int{2}, 1, n[0]))
	a.checkHead(t, n[0])
}

// P14.1: the crowd's votes of each slot that count, written out.
func TestOfWritten(t *testing.T) {
	n := names(bush())
	for slot, want := range [][]api.Vote{
		nil,
		{{From: 0, Slot: 1, Head: n[4]}, {From: 2, Slot: 1, Head: n[8]}},
		{{From: 0, Slot: 2, Head: n[9]}, {From: 1, Slot: 2, Head: n[6]}},
		{{From: 2, Slot: 3, Head: api.ID{7, 7}}, {From: 3, Slot: 3}},
		{{From: 1, Slot: 4, Head: n[2]}, {From: 3, Slot: 4, Head: n[3]}, {From: 4, Slot: 4, Head: n[0]}},
		nil,
		nil,
	} {
		asked{five(), nil, crowd(), slot}.checkOf(t, want)
	}
}

// P14.1: committees written out: where all validators vote, and many strangers, in the slot and in those beside it, just the committee's votes of the slot count.
func TestOfCommittees(t *testing.T) {
	for _, x := range written() {
		var v []api.Vote
		for slot := x.slot - 2; slot <= x.slot+2; slot++ {
			v = append(v, castBy(slices.Concat(strangers(x.n), upTo(x.n)), slot, api.ID{1, uint64(slot)})...)
		}
		want := castBy(x.who, x.slot, api.ID{1, uint64(x.slot)})
		for turn := range uint64(3) {
			asked{conf(x.n, x.seed, x.epoch), nil, mixed(v, turn), x.slot}.checkOf(t, want)
		}
	}
}

// P14.1: where epochs have one slot all validators' votes count, in each slot.
func TestOfEpochOfOne(t *testing.T) {
	for n := 1; n <= 12; n++ {
		for _, seed := range []uint64{0, 7, 1 << 63, top} {
			for _, slot := range []int{1, 2, 7, 64, 1000, last - 1, last} {
				a := asked{conf(n, seed, 1), nil, castBy(upTo(n), slot, api.ID{3, 3}), slot}
				a.checkOf(t, a.v)
			}
		}
	}
}

// P14.1: where all vote in all slots, each validator's vote counts in just one slot of each epoch.
func TestOfEachEpoch(t *testing.T) {
	for n := 1; n <= 12; n++ {
		for epoch := 1; epoch <= 8; epoch++ {
			for first := epoch; first < 5*epoch; first += epoch {
				var all []int
				for slot := first; slot < first+epoch; slot++ {
					for _, x := range gold.Of(conf(n, 3, epoch), castBy(upTo(n), slot, beginning), slot) {
						all = append(all, x.From)
					}
				}
				if slices.Sort(all); !slices.Equal(all, upTo(n)) && !t.Failed() {
					t.Errorf("%d, epochs of %d: from slot %d on there count %v", n, epoch, first, all)
				}
			}
		}
	}
}

// P14.1: the first slot and the last one have votes that count; one below, one above, and others that are no slots have none, though votes bear them.
func TestOfSlots(t *testing.T) {
	for epoch := 1; epoch <= 8; epoch++ {
		c := conf(12, 7, epoch)
		for _, slot := range wrongSlots() {
			asked{c, nil, castBy(upTo(12), slot, beginning), slot}.checkOf(t, nil)
			asked{c, nil, castBy([]int{-1, 12, math.MinInt, math.MaxInt}, slot, beginning), slot}.checkOf(t, nil)
		}
		for _, slot := range []int{1, 2, epoch, epoch + 1, 8, 9, last - epoch, last - 1, last} {
			a := asked{c, nil, castBy(upTo(12), slot, beginning), slot}
			a.checkOf(t, castBy(members(c, slot), slot, beginning))
			if len(a.of()) == 0 {
				t.Errorf("%v: none counts", a)
			}
		}
	}
}

// P14.1: votes of other slots do not count, be they just beside it, or such as would be the slot, if they were cut to four bytes; and a slot that is none does not get those of one that is.
func TestOfOtherSlots(t *testing.T) {
	c := conf(12, 7, 1)
	for _, slot := range []int{1, 2, 100, last - 1, last} {
		var v []api.Vote
		for _, other := range append(numbers(), slot-1, slot+1, slot+1<<32, slot-1<<32, -slot) {
			if other != slot {
				v = append(v, castBy(upTo(12), other, api.ID{1, 1})...)
			}
		}
		asked{c, nil, v, slot}.checkOf(t, nil)
		mine := castBy(upTo(12), slot, api.ID{2, 2})
		asked{c, nil, mixed(append(v, mine...), 1), slot}.checkOf(t, mine)
		for _, wrong := range wrongSlots() {
			asked{c, nil, mine, wrong}.checkOf(t, nil)
		}
	}
}

// P14.1: who is no validator is in no committee; who would be one with one weight more is not.
func TestOfStrangers(t *testing.T) {
	for n := 1; n <= 12; n++ {
		for epoch := 1; epoch <= 8; epoch++ {
			for slot := 1; slot <= 9; slot++ {
				c := conf(n, 1, epoch)
				asked{c, nil, castBy(strangers(n), slot, beginning), slot}.checkOf(t, nil)
				for _, who := range strangers(n) {
					asked{c, nil, castBy([]int{who}, slot, api.ID{1, 1}), slot}.checkOf(t, nil)
				}
				v := mixed(castBy(append(strangers(n), upTo(n)...), slot, api.ID{1, 1}), uint64(slot))
				asked{c, nil, v, slot}.checkOf(t, castBy(members(c, slot), slot, api.ID{1, 1}))
			}
		}
	}
}

// P14.1: who is double in the slot does not count, whatever the heads are, and however often each is there; who is so in another slot does.
func TestOfDouble(t *testing.T) {
	n := names(bush())
	for _, heads := range [][]api.ID{{n[0], n[1]}, {n[1], n[0]}, {n[0], beginning}, {beginning, n[0]}, {n[0], {7, 7}}, {{7, 7}, {7, 8}}, {{7, 7}, {8, 7}}, {{0, 1}, {1, 0}, {0, 1}}, {n[1], n[1], n[2]}, {n[1], n[2], n[1], n[2]}, {n[1], n[2], n[3]}} {
		for slot := 1; slot <= 4; slot++ {
			others := castBy(upTo(5), slot, n[4])
			for who := range 5 {
				var v []api.Vote
				for _, head := range heads {
					v = append(v, api.Vote{From: who, Slot: slot, Head: head})
				}
				for turn := range uint64(3) {
					all := mixed(append(v, others...), turn)
					left := slices.DeleteFunc(members(five(), slot), func(x int) bool { return x == who })
					asked{five(), nil, all, slot}.checkOf(t, castBy(left, slot, n[4]))
					asked{five(), nil, all, slot + 1}.checkOf(t, nil)
				}
				later := castBy(upTo(5), slot+1, n[4])
				asked{five(), nil, append(v, later...), slot + 1}.checkOf(t, castBy(members(five(), slot+1), slot+1, n[4]))
				asked{five(), nil, append(later, v...), slot}.checkOf(t, nil)
			}
		}
	}
}

// P14.1: one who is not in the committee, or is no validator, changes nothing by being double; neither do votes of one for two heads in two slots.
func TestOfDoubleOthers(t *testing.T) {
	n := names(bush())
	for slot := 1; slot <= 5; slot++ {
		in := members(five(), slot)
		want := castBy(in, slot, n[3])
		v := slices.Clone(want)
		for who := -3; who < 9; who++ {
			if !slices.Contains(in, who) {
				v = append(v, castBy([]int{who, who}, slot, n[3])...)
				v = append(v, castBy([]int{who}, slot, n[5])...)
			}
			v = append(v, castBy([]int{who}, slot-1, n[1])...)
			v = append(v, castBy([]int{who}, slot+1, n[2])...)
		}
		for turn := range uint64(5) {
			asked{five(), nil, mixed(v, turn), slot}.checkOf(t, want)
		}
	}
}

// P14.1: a vote that is there twice, or often, counts once.
func TestOfTwice(t *testing.T) {
	for slot := 1; slot <= 5; slot++ {
		one := castBy(upTo(5), slot, api.ID{1, 2})
		want := castBy(members(five(), slot), slot, api.ID{1, 2})
		for often := 1; often < 50; often += 7 {
			asked{five(), nil, mixed(slices.Repeat(one, often), uint64(often)), slot}.checkOf(t, want)
		}
	}
	for slot := range 7 {
		a := asked{five(), nil, slices.Concat(crowd(), crowd()), slot}
		a.checkOf(t, gold.Of(five(), crowd(), slot))
	}
}

// P14.1: without votes none counts.
func TestOfNoVotes(t *testing.T) {
	for _, c := range []api.Conf{{}, conf(1, 0, 1), five(), conf(12, top, 8)} {
		for _, slot := range numbers() {
			asked{c, nil, nil, slot}.checkOf(t, nil)
			asked{c, nil, []api.Vote{}, slot}.checkOf(t, nil)
		}
	}
}

// P14.1: whatever a vote is for, be it known to nobody or the beginning, it counts, as it is.
func TestOfHeads(t *testing.T) {
	for i, head := range append(unknown(bush()), known(bush())...) {
		slot := 1 + i%5
		a := asked{five(), nil, castBy(upTo(5), slot, head), slot}
		a.checkOf(t, castBy(members(five(), slot), slot, head))
	}
}

// P14.1: in whatever order votes stand, what counts is rising by who it is, and no vote stands for another one's.
func TestOfRises(t *testing.T) {
	c := conf(12, 5, 2)
	for slot := 1; slot <= 8; slot++ {
		var v []api.Vote
		for _, who := range append(strangers(12), upTo(12)...) {
			v = append(v, api.Vote{From: who, Slot: slot, Head: api.ID{uint64(who), top - uint64(who)}})
		}
		var want []api.Vote
		for _, who := range members(c, slot) {
			want = append(want, api.Vote{From: who, Slot: slot, Head: api.ID{uint64(who), top - uint64(who)}})
		}
		for turn := range uint64(50) {
			asked{c, nil, mixed(v, turn), slot}.checkOf(t, want)
		}
		slices.Reverse(v)
		asked{c, nil, v, slot}.checkOf(t, want)
	}
}

// P14.1: of a conf that may not be none counts, in whatever slot.
func TestOfWrongConfs(t *testing.T) {
	for why, c := range wrongConfs() {
		if duty.May(c) {
			t.Fatalf("%s may be", why)
		}
		for _, slot := range append(numbers(), 3, 8) {
			asked{c, nil, castBy([]int{-1, 0, 1, 2, 3, 4, 5, 12}, slot, api.ID{1, 1}), slot}.checkOf(t, nil)
			asked{c, nil, crowd(), slot}.checkOf(t, nil)
		}
	}
}

// P14.1: confs on the edges of what may be have votes that count, also of who weighs nothing; weights and beta do not matter for it.
func TestOfRightConfs(t *testing.T) {
	for n := 1; n <= 12; n++ {
		for epoch := 1; epoch <= 8; epoch++ {
			v := castBy(upTo(n), 8, api.ID{1, 1})
			want := castBy(members(conf(n, 9, epoch), 8), 8, api.ID{1, 1})
			for _, w := range []int{0, 1, heavy - 1, heavy} {
				for _, beta := range [][2]int{{0, 1}, {1, 1}, {0, 1000}, {1000, 1000}} {
					c := api.Conf{W: slices.Repeat([]int{w}, n), Seed: 9, Epoch: epoch, Num: beta[0], Den: beta[1]}
					asked{c, nil, v, 8}.checkOf(t, want)
				}
			}
		}
	}
}

// P14.1: it is votes' Of, without those of whom duty's In does not tell.
func TestOfByOthers(t *testing.T) {
	for seed := range uint64(300) {
		a := someAsked(seed)
		first := a.slot - 10
		for slot := first; slot < first+20; slot++ {
			a.slot = slot
			a.checkOf(t, slices.DeleteFunc(votes.Of(a.v, slot), func(x api.Vote) bool { return !duty.In(a.c, slot, x.From) }))
		}
	}
}

// P14.1: all lists of up to three votes, of the committee, of others and of a stranger, in two slots, for three heads.
func TestOfSmall(t *testing.T) {
	var one []api.Vote
	for _, who := range []int{0, 1, 2, 5} {
		for slot := 1; slot <= 2; slot++ {
			for _, head := range []api.ID{{}, {1, 1}, {1, 2}} {
				one = append(one, api.Vote{From: who, Slot: slot, Head: head})
			}
		}
	}
	check := func(v ...api.Vote) {
		for slot := range 4 {
			a := asked{five(), nil, v, slot}
			a.checkOf(t, a.counted())
		}
	}
	for _, x := range one {
		check(x)
		for _, y := range one {
			check(x, y)
			for _, z := range one {
				check(x, y, z)
			}
		}
	}
}

// P14.1, and P1: far more votes than a view may have, most of them of strangers.
func TestOfFarMore(t *testing.T) {
	const many = 1 << 17
	var v []api.Vote
	for i := range many {
		v = append(v, api.Vote{From: i - many/2, Slot: 3, Head: api.ID{1, uint64(i)}}, api.Vote{From: i % 12, Slot: i, Head: api.ID{2, uint64(i)}})
	}
	for epoch := 1; epoch <= 8; epoch++ {
		for _, slot := range []int{2, 3, 4, 1000, many - 1, many} {
			a := asked{conf(12, 7, epoch), nil, v, slot}
			want := a.counted()
			if got := a.of(); !slices.Equal(got, want) && !t.Failed() {
				t.Errorf("epochs of %d, slot %d: there count %v, not %v", epoch, slot, got, want)
			}
		}
	}
}

// R3: what is answered has none of the votes that do not count behind its end.
func TestOfRoom(t *testing.T) {
	for seed := range uint64(100) {
		a := someAsked(seed)
		a.v = append(a.v, castBy(append(strangers(12), upTo(12)...), a.slot, api.ID{1, 1})...)
		got := a.of()
		for _, x := range got[len(got):cap(got)] {
			if x != (api.Vote{}) && !t.Failed() {
				t.Errorf("%v: behind %v stands %v", a, got, x)
			}
		}
	}
}
