package quick_test

import (
	"math"
	"slices"
	"testing"

	"marigold/api"
	"marigold/duty"
	"marigold/tree"
)

// never is more than any committee weighs.
const never = math.MaxInt

// least is the least weight of a committee's that makes a block sure, beta being num of den.
type least struct {
	num, den int
	all      int
	enough   int
}

// leasts are written out by hand.
func leasts() []least {
	return []least{
		{0, 1, 1, 1}, {0, 1, 2, 2}, {0, 1, 3, 2}, {0, 1, 100, 51}, {0, 1, 101, 51}, {0, 1000, 100, 51}, {0, 999, 101, 51},
		{1, 4, 1, 1}, {1, 4, 2, 2}, {1, 4, 3, 3}, {1, 4, 4, 4}, {1, 4, 5, 4}, {1, 4, 100, 76}, {1, 4, 101, 76}, {250, 1000, 100, 76},
		{1, 3, 3, 3}, {1, 3, 5, 5}, {1, 3, 6, 6}, {1, 3, 7, 6}, {1, 3, 100, 84}, {333, 999, 6, 6},
		{1, 10, 9, 6}, {1, 10, 10, 7}, {1, 10, 100, 61}, {1, 1000, 100, 51}, {1, 1000, 500, 251}, {1, 1000, 1000, 502},
		{499, 1000, 500, 500}, {499, 1000, 999, 999}, {499, 1000, 1000, 1000}, {499, 1000, 1001, 1000}, {499, 999, 999, 999}, {499, 999, 1998, 1998},
		{1, 2, 1, never}, {1, 2, 2, never}, {1, 2, 100, never}, {500, 1000, 101, never}, {501, 1000, 1000, never}, {500, 999, 1000, never},
		{3, 4, 4, never}, {1, 1, 1, never}, {1, 1, 2, never}, {1000, 1000, 100, never}, {999, 1000, 100, never},
	}
}

// P15.1: just as much as is asked for is not enough, one unit of weight more is, and nothing less: held at each weight, whatever the others are for, with Num of 0, of a quarter, of a half and above it.
func TestSureLeast(t *testing.T) {
	l, n := two(3), names(two(3))
	for _, x := range leasts() {
		for some := range x.all + 1 {
			a := asked{beta(weighing(some, x.all-some), x.num, x.den), l, ballots(n[1], [...]api.ID{n[0], beginning, {7, 7}}[some%3]), nine}
			if some%4 == 0 {
				a.v = a.v[:1]
			}
			a.checkOn(t, n[1], some)
			a.checkSure(t, n[1], some >= x.enough)
		}
	}
}

// P15.1: the chapter's example: with a beta of a quarter more than three quarters of a committee make a block sure.
func TestSureExample(t *testing.T) {
	l, n := bush(), names(bush())
	for size := 1; size <= 12; size++ {
		for voters := range size + 1 {
			a := asked{even(size, 100), l, castBy(upTo(voters), nine, n[4]), nine}
			for _, id := range []api.ID{n[4], n[1], n[0], beginning} {
				a.checkSure(t, id, 4*voters > 3*size)
			}
			a.checkSure(t, n[2], false)
		}
	}
}

// P15.1: DOC.md's example: of four validators three votes do not make a block sure, four do; and of one validator its own does.
func TestSureWholeExample(t *testing.T) {
	l, n := two(0), names(two(0))
	for _, w := range []int{1, 7, heavy} {
		a := asked{even(4, w), l, ballots(n[0], n[0], n[0]), nine}
		a.checkSure(t, n[0], false)
		a.v = ballots(n[0], n[0], n[0], n[1])
		a.checkSure(t, n[0], false)
		a.v = ballots(n[0], n[0], n[0], n[0])
		a.checkSure(t, n[0], true)
		asked{even(1, w), l, ballots(n[0]), nine}.checkSure(t, n[0], true)
	}
}

// P15.1: what is asked for is of what the slot's committee weighs, not of what all weigh: each set of voters is held, and those that are enough are written out.
func TestSureCommittee(t *testing.T) {
	l, n := bush(), names(bush())
	for slot, enough := range [][][]int{
		nil,
		{{2}, {0, 2}},
		{{4}, {0, 4}, {1, 4}, {0, 1, 4}},
		{{2, 3}},
		{{3, 4}, {1, 3, 4}},
	} {
		in := members(five(), slot)
		for way := range 32 {
			who := slices.DeleteFunc(upTo(5), func(x int) bool { return way>>x&1 == 0 })
			of := slices.DeleteFunc(slices.Clone(who), func(x int) bool { return !slices.Contains(in, x) })
			is := slices.ContainsFunc(enough, func(x []int) bool { return slices.Equal(x, of) })
			a := asked{five(), l, castBy(who, slot, n[8]), slot}
			a.checkSure(t, n[6], is)
			a.checkSure(t, n[8], is)
			a.checkSure(t, n[4], false)
		}
	}
}

// P15.1: the whole committee is asked, also who does not vote, is double, or is for something else, or for nothing that is known.
func TestSureOfWhole(t *testing.T) {
	l, n := bush(), names(bush())
	for _, others := range [][]api.Vote{
		nil,
		castBy([]int{1, 3}, 4, n[2]),
		castBy([]int{1, 3}, 4, beginning),
		castBy([]int{1, 3}, 4, api.ID{7, 7}),
		castBy([]int{1, 3}, 3, n[8]),
		append(castBy([]int{1, 3}, 4, n[8]), castBy([]int{1, 3}, 4, n[6])...),
	} {
		a := asked{five(), l, append(castBy([]int{4}, 4, n[8]), others...), 4}
		a.checkOn(t, n[8], 16)
		a.checkSure(t, n[8], false)
		a.v = append(a.v, castBy([]int{0, 2}, 4, n[8])...)
		a.checkSure(t, n[8], false)
		a.c.W = []int{1, 2, 4, 3, 16}
		a.checkSure(t, n[8], true)
	}
}

// P15.1: committees written out: all of one make a block sure where that weighs something, without the one that weighs most they do not.
func TestSureCommittees(t *testing.T) {
	l, n := bush(), names(bush())
	for _, x := range written() {
		for _, b := range [][2]int{{0, 1}, {1, 4}, {499, 1000}, {1, 2}} {
			c := beta(conf(x.n, x.seed, x.epoch), b[0], b[1])
			for _, id := range []api.ID{n[6], n[1], n[0], beginning} {
				a := asked{c, l, castBy(upTo(x.n), x.slot, n[6]), x.slot}
				a.checkSure(t, id, len(x.who) > 0 && b[1] != 2)
				if len(x.who) > 0 {
					a.v = castBy(x.who[:len(x.who)-1], x.slot, n[6])
					a.checkSure(t, id, false)
				}
			}
		}
	}
}

// P15.1: what is sure in the crowd's slots, by beta, written out.
func TestSureWritten(t *testing.T) {
	n := names(bush())
	for _, x := range []struct {
		num, den int
		sure     [][]api.ID
	}{
		{1, 4, [][]api.ID{1: {beginning, n[0], n[1], n[6], n[8]}, 4: {beginning, n[0]}, 6: {}}},
		{3, 10, [][]api.ID{1: {beginning, n[0], n[1]}, 4: {beginning, n[0]}, 6: {}}},
		{45, 100, [][]api.ID{1: {beginning, n[0], n[1]}, 4: {beginning}, 6: {}}},
		{0, 1, [][]api.ID{1: {beginning, n[0], n[1], n[6], n[8]}, 3: {beginning}, 4: {beginning, n[0]}, 6: {}}},
		{1, 2, [][]api.ID{6: {}}},
	} {
		for slot, sure := range x.sure {
			a := asked{beta(five(), x.num, x.den), bush(), crowd(), slot}
			for _, id := range slices.Concat(known(bush()), unknown(bush())) {
				a.checkSure(t, id, slices.Contains(sure, id))
			}
		}
	}
}

// P15.1: where a committee weighs nothing, or nobody is in it, no block is sure, not even for Num of 0, and though all vote for it; who weighs nothing changes nothing for others.
func TestSureOfNothing(t *testing.T) {
	l, n := bush(), names(bush())
	for _, b := range [][2]int{{0, 1}, {0, 1000}, {1, 4}, {1, 2}, {1, 1}} {
		for size := 1; size <= 12; size++ {
			a := asked{beta(even(size, 0), b[0], b[1]), l, castBy(upTo(size), nine, n[6]), nine}
			a.checkNothing(t, known(l))
			a.c.W[0] = 1
			a.checkSure(t, n[6], 2*b[0] < b[1])
			a.v = castBy(upTo(size)[1:], nine, n[6])
			a.checkNothing(t, known(l))
		}
		c := beta(five(), b[0], b[1])
		c.W = []int{heavy, 0, heavy, heavy, 0}
		asked{c, l, castBy(upTo(5), 4, n[6]), 4}.checkSure(t, n[6], 2*b[0] < b[1])
		c.W[3] = 0
		asked{c, l, castBy(upTo(5), 4, n[6]), 4}.checkNothing(t, known(l))
		// Of these committees nobody is.
		for _, a := range []asked{{conf(1, top, 8), l, castBy(upTo(1), 1, n[6]), 1}, {conf(3, 1, 8), l, castBy(upTo(3), 3, n[6]), 3}} {
			a.c = beta(a.c, b[0], b[1])
			a.checkNothing(t, known(l))
		}
	}
}

// P15.1: of the greatest weights one unit still tells.
func TestSureHeavy(t *testing.T) {
	l, n := two(3), names(two(3))
	for voters := range 13 {
		v := castBy(upTo(voters), nine, n[1])
		asked{even(12, heavy), l, v, nine}.checkSure(t, n[1], voters > 9)
		asked{beta(even(12, heavy), 0, 1000), l, v, nine}.checkSure(t, n[1], voters > 6)
		asked{beta(even(12, heavy), 499, 1000), l, v, nine}.checkSure(t, n[1], voters > 11)
		asked{beta(even(12, heavy), 500, 1000), l, v, nine}.checkSure(t, n[1], false)
		asked{beta(even(12, heavy), 1000, 1000), l, v, nine}.checkSure(t, n[1], false)
	}
	// Three quarters of all eight are just six of the greatest.
	a := asked{weighing(heavy, heavy, heavy, heavy, heavy, heavy, 1, heavy, heavy-1), l, castBy(upTo(6), nine, n[1]), nine}
	a.checkSure(t, n[1], false)
	a.v = castBy(upTo(7), nine, n[1])
	a.checkSure(t, n[1], true)
	a.v = castBy([]int{0, 1, 2, 3, 4, 6, 8}, nine, n[1])
	a.checkSure(t, n[1], false)
	// Of a thousand parts 999 are asked for.
	const part = 1 << 33
	for _, more := range []int{-1, 0, 1} {
		c := weighing(heavy, heavy, heavy, heavy, heavy, heavy, heavy, 103*part+more, part-more)
		asked{beta(c, 499, 1000), l, castBy(upTo(8), nine, n[1]), nine}.checkSure(t, n[1], more > 0)
	}
}

// P15.1: in what is no slot nothing is sure, in the first slot and in the last one what all are for is.
func TestSureSlots(t *testing.T) {
	l, n := bush(), names(bush())
	for epoch := 1; epoch <= 8; epoch++ {
		c := beta(conf(12, 7, epoch), 499, 1000)
		for _, slot := range append(wrongSlots(), 1, 2, epoch, epoch+1, 8, 9, last-epoch, last-1, last) {
			a := asked{c, l, castBy(upTo(12), slot, n[8]), slot}
			for _, id := range []api.ID{n[8], n[6], n[1], n[0], beginning} {
				a.checkSure(t, id, 1 <= slot && slot <= 1<<20)
			}
			a.checkSure(t, n[4], false)
		}
	}
}

// P15.1: a conf whose beta may not be makes nothing sure, though what it wraps to would.
func TestSureWrongBeta(t *testing.T) {
	l, n := bush(), names(bush())
	for _, num := range []int{math.MinInt, math.MinInt / 2, -1 << 40, -1000, -2, -1, 0, 1, 3, 4, 5, 500, 1001, 1 << 40, 1 << 62, math.MaxInt} {
		for _, den := range []int{math.MinInt, -1000, -4, -1, 0, 1, 2, 4, 1000, 1001, 1 << 40, 1 << 62, math.MaxInt} {
			a := asked{beta(five(), num, den), l, castBy(upTo(5), 4, n[8]), 4}
			if !duty.May(a.c) {
				a.checkNothing(t, known(l))
				continue
			}
			a.checkSure(t, n[8], 2*num < den)
			a.checkOn(t, n[8], 26)
		}
	}
}

// P15.1: each beta that may be, with all weights of two committees of two: it is held against the plain one.
func TestSureAllBetas(t *testing.T) {
	l := two(3)
	v := ballots(names(l)[1], names(l)[0])
	for den := 1; den <= 1000; den += 1 + den/7 {
		for num := range den + 1 {
			for _, w := range [][]int{{den + 2*num, den - 2*num}, {den + 2*num + 1, den - 2*num - 1}, {den + 2*num - 1, den - 2*num + 1}, {num, den - num}, {1, 0}} {
				if w[0] < 0 || w[1] < 0 {
					continue
				}
				a := asked{beta(weighing(w...), num, den), l, v, nine}
				p := a.plainly()
				for _, id := range known(l) {
					a.checkSure(t, id, p.sure(id))
				}
			}
		}
	}
}

// P15.1: just what half of the committee and beta of it are together is not enough, by one unit more it is, for each beta below a half.
func TestSureEachBeta(t *testing.T) {
	l, n := two(3), names(two(3))
	for den := 3; den <= 1000; den += 1 + den/9 {
		for num := range (den + 1) / 2 {
			// Of twice den, den and twice num are just so much.
			for _, more := range []int{-1, 0, 1} {
				w := []int{den + 2*num + more, den - 2*num - more}
				if w[1] >= 0 {
					asked{beta(weighing(w...), num, den), l, ballots(n[1]), nine}.checkSure(t, n[1], more > 0)
				}
			}
		}
	}
}

// P15.1: the beginning is sure where the committee's votes for whatever is known are enough.
func TestSureBeginning(t *testing.T) {
	l := bush()
	for i, id := range known(l) {
		heads := []api.ID{id, known(l)[(i+3)%11], known(l)[(i+5)%11], beginning, {7, 7}}
		asked{even(5, 1), l, ballots(heads...), nine}.checkSure(t, beginning, true)
		asked{even(5, 1), l, ballots(heads[1:]...), nine}.checkSure(t, beginning, false)
		asked{even(5, 1), l, ballots(heads[:4]...), nine}.checkSure(t, beginning, true)
	}
}

// P15.1: what stands on a block makes it sure, wherever that is, and what it stands on does not.
func TestSureByAbove(t *testing.T) {
	l := bush()
	for _, low := range known(l) {
		for _, id := range known(l) {
			a := asked{five(), l, castBy(upTo(5), 2, id), 2}
			a.checkSure(t, low, tree.Under(l, low, id))
		}
	}
}
