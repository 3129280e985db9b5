package view_test

import (
	"math"
	"slices"
	"strconv"
	"testing"

	"marigold/api"
	"marigold/tree"
)

// P16.2: a block comes behind its child: both are counted, in the order in which they can be.
func TestExample(t *testing.T) {
	c := five()
	l := line(c, 2)
	a := asked{c, api.View{}, of(l[1], l[0]), 2}
	a.checkTake(t, taken{w: of(l[0], l[1])})
	a.w = of(l[0])
	a.checkTake(t, taken{w: of(l[0], l[1])})
	a.in = of(l[1])
	a.checkTake(t, taken{w: of(l[0], l[1])})
	a.slot = 1
	a.checkTake(t, taken{w: of(l[0]), left: of(l[1])})
}

// P16.2: rounds, written out: what can be counted in one is so ahead of what can be only in the next one, and the votes of a round are counted ahead of the blocks of the next one.
func TestRoundsWritten(t *testing.T) {
	c := five()
	x := line(c, 3)
	y := block(c, 1, beginning, 1)
	n := names(x)
	vote := func(who int, b api.Block) api.Vote { return api.Vote{From: who, Slot: 4, Head: tree.Name(b)} }
	in := api.View{B: []api.Block{x[1], y, x[0], x[2]}, V: []api.Vote{vote(1, x[2]), vote(1, y), vote(3, x[1]), vote(3, x[0]), {From: 4, Slot: 4}}}
	a := asked{c, api.View{}, in, 4}
	a.checkTake(t, taken{w: api.View{
		B: []api.Block{y, x[0], x[1], x[2]},
		V: []api.Vote{vote(1, y), vote(3, x[0]), {From: 4, Slot: 4}, vote(1, x[2]), vote(3, x[1])},
	}})
	a.in.B = []api.Block{x[2], x[1], x[0], y}
	a.checkTake(t, taken{w: api.View{
		B: []api.Block{x[0], y, x[1], x[2]},
		V: []api.Vote{vote(1, y), vote(3, x[0]), {From: 4, Slot: 4}, vote(3, x[1]), vote(1, x[2])},
	}})
	a.in.B = []api.Block{x[0], x[1], x[2], y}
	a.checkTake(t, taken{w: api.View{B: a.in.B, V: a.in.V}})
	a.slot = 3
	a.checkTake(t, taken{w: of(a.in.B...), left: cast(a.in.V...)})
	a.slot, a.in.V = 2, append(castBy([]int{0, 1, 4}, 2, n[1]), castBy([]int{2}, 3, n[2])...)
	a.checkTake(t, taken{w: api.View{B: []api.Block{x[0], x[1], y}, V: a.in.V[:3]}, left: api.View{B: x[2:], V: a.in.V[3:]}})
}

// P16.2: a whole chain in the wrong order, and its votes ahead of it, take a round for each block.
func TestChainTurned(t *testing.T) {
	c := five()
	for n := range 61 {
		l := line(c, n)
		var v []api.Vote
		for i, id := range names(l) {
			v = append(v, castBy(members(c, i+1), i+1, id)...)
		}
		asked{c, api.View{}, api.View{B: turned(l), V: v}, 60}.checkTake(t, taken{w: api.View{B: l, V: v}})
		// Each round's votes come of one block alone: in that order they stand, of each block from behind on.
		var want []api.Vote
		for i, id := range names(l) {
			want = append(want, turned(castBy(members(c, i+1), i+1, id))...)
		}
		asked{c, api.View{}, api.View{B: turned(l), V: turned(v)}, 60}.checkTake(t, taken{w: api.View{B: l, V: want}})
		asked{c, of(l[:n/2]...), of(turned(l)...), 60}.checkTake(t, taken{w: of(l...)})
		asked{c, of(l[:n/2]...), of(turned(l[n/2:])...), 60}.checkTake(t, taken{w: of(l...)})
		asked{c, api.View{}, of(turned(l)...), n / 2}.checkTake(t, taken{w: of(l[:n/2]...), left: of(turned(l[n/2:])...)})
	}
}

// P16.2: a vote that comes alone waits for its block, and one that comes with it does not.
func TestVoteAhead(t *testing.T) {
	c := five()
	l := line(c, 5)
	v := castBy([]int{0, 2}, 5, names(l)[4])
	first := asked{c, of(l[:4]...), cast(v...), 9}
	first.checkTake(t, taken{w: of(l[:4]...), left: cast(v...)})
	x := first.take()
	x.left.B = l[4:]
	asked{c, x.w, x.left, 9}.checkTake(t, taken{w: api.View{B: l, V: v}})
	asked{c, of(l[:4]...), api.View{B: l[4:], V: v}, 9}.checkTake(t, taken{w: api.View{B: l, V: v}})
	asked{c, of(l[:4]...), api.View{B: l[4:], V: v}, 5}.checkTake(t, taken{w: api.View{B: l, V: v}})
	asked{c, of(l[:4]...), api.View{B: l[4:], V: v}, 4}.checkTake(t, taken{w: of(l[:4]...), left: api.View{B: l[4:], V: v}})
}

// P16.2: of a view that may not be nothing is counted, and all that came stays, in order, also what may not come, and what would be lost.
func TestTakeWrongView(t *testing.T) {
	c := five()
	l := bush(c)
	odd := api.View{B: []api.Block{l[1], {}, l[0], l[0], {From: -1}, nameless()}, V: []api.Vote{{From: 0, Slot: 5}, {}, {From: 0, Slot: 5}, {From: 99, Slot: -1}}}
	for _, w := range wrong() {
		for _, in := range []api.View{odd, {}, w, of(l...), both(odd, w)} {
			for _, slot := range []int{math.MinInt, 0, 1, 5, last, math.MaxInt} {
				asked{c, w, in, slot}.checkTake(t, taken{w, in, false})
			}
		}
	}
	full := of(star(c, 61)...)
	asked{c, full, of(star(c, 70)...), 5}.checkTake(t, taken{full, of(star(c, 70)...), false})
}

// P16.2: by a conf that may not be nothing may come to a view without anything, and all others may not be.
func TestTakeWrongConfs(t *testing.T) {
	l := bush(five())
	in := api.View{B: l, V: append(castBy([]int{0, 2}, 5, beginning), api.Vote{From: -1, Slot: 1})}
	for _, c := range wrongConfs() {
		for _, slot := range []int{math.MinInt, 0, 5, last, math.MaxInt} {
			asked{c, api.View{}, in, slot}.checkTake(t, taken{})
			asked{c, of(l[0]), in, slot}.checkTake(t, taken{w: of(l[0]), left: in})
			asked{c, api.View{}, api.View{}, slot}.checkTake(t, taken{})
		}
	}
}

// P16.2: where nothing comes, or nothing that may, the view stays as it was, and nothing is left.
func TestTakeNothing(t *testing.T) {
	c := five()
	not := api.View{
		B: []api.Block{{}, {Slot: 1}, {Slot: 6, From: 2}, {From: -1}, {Slot: last + 1, From: -1}, nameless(), {Slot: -3, From: 1}},
		V: []api.Vote{{}, {From: 1, Slot: 1}, {From: 5, Slot: 1}, {From: -1, Slot: 1}, {From: 0, Slot: last + 1}, {From: 0, Slot: -1}},
	}
	for _, w := range right() {
		for _, slot := range numbers() {
			for _, in := range []api.View{{}, {B: []api.Block{}, V: []api.Vote{}}, not} {
				asked{c, w, in, slot}.checkTake(t, taken{w: w})
			}
		}
	}
	l := bush(c)
	v := castBy([]int{0, 2}, 5, names(l)[2])
	for i := range not.B {
		in := of(l...)
		in.B = slices.Insert(slices.Clone(l), i, not.B[i], not.B[i])
		in.V = slices.Insert(slices.Clone(v), i%3, not.V[i%len(not.V)])
		asked{c, api.View{}, in, 20}.checkTake(t, taken{w: api.View{B: l, V: v}})
	}
}

// fate is what becomes of what comes.
type fate int

const (
	lost  fate = iota // whatever the slot is
	waits             // whatever the slot is
	comes             // it is counted from its own slot on
)

// one comes to the view.
type one struct {
	why   string
	w, in api.View
	fate  fate
}

// ones are blocks and votes that come alone, to a view that has as well a block of slot 5, and votes of later slots.
func ones() []one {
	c := five()
	l := bush(c)
	n := names(l)
	v := append(castBy([]int{0, 2}, 5, n[4]), castBy([]int{1, 3, 4}, 6, beginning)...)
	w := api.View{B: l, V: v}
	x := twins()
	a, b := of(append(parentsOfTwins(), x[0])...), of(parentsOfTwins()[0], x[0])
	voted := api.View{B: a.B, V: castBy([]int{2}, 3, tree.Name(x[0]))}
	return []one{
		{"a block that is there", w, of(l[0]), lost},
		{"a block of a later slot that is there", w, of(l[9]), lost},
		{"a twin of what is there", a, of(x[1]), lost},
		{"a twin of what is there, on what is not", b, of(x[1]), lost},
		{"a block on one of its slot", w, of(block(c, 5, n[4], 0)), lost},
		{"a block on one of the slot behind its own", w, of(block(c, 4, n[4], 0)), lost},
		{"a block on one of a far later slot", w, of(block(c, 1, n[9], 0)), lost},
		{"a vote that is there", w, cast(v[0]), lost},
		{"a vote for the beginning that is there", w, cast(v[3]), lost},
		{"a vote for one of a later slot", w, cast(api.Vote{From: 1, Slot: 4, Head: n[4]}), lost},
		{"a vote for one of a far later slot", w, cast(api.Vote{From: 0, Slot: 1, Head: n[9]}), lost},
		{"a vote for a twin that is there", voted, cast(voted.V[0]), lost},

		{"a block on the beginning", w, of(block(c, 3, beginning, 5)), comes},
		{"a block of slot 1", w, of(block(c, 1, beginning, 5)), comes},
		{"a block of slot 1 to nothing", api.View{}, of(l[0]), comes},
		{"a block of the last slot", w, of(block(c, last, beginning, 0)), comes},
		{"a block on one of the slot ahead", w, of(block(c, 6, n[4], 7)), comes},
		{"a block on one of a far earlier slot", w, of(block(c, last, n[0], 0)), comes},
		{"a block beside one by its salt", w, of(block(c, 2, n[0], 1)), comes},
		{"a twin whose name is not there", of(parentsOfTwins()[1]), of(x[1]), comes},
		{"a vote for the beginning", w, cast(api.Vote{From: 0, Slot: 1}), comes},
		{"a vote for the beginning to nothing", api.View{}, cast(api.Vote{From: 0, Slot: 1}), comes},
		{"a vote of the slot of its block", w, cast(api.Vote{From: 2, Slot: 3, Head: n[2]}), comes},
		{"a vote of a later slot than its block", w, cast(api.Vote{From: 4, Slot: last, Head: n[2]}), comes},
		{"a vote of who has another one", w, cast(api.Vote{From: 0, Slot: 5, Head: n[3]}), comes},
		{"a vote for the same of another slot", w, cast(api.Vote{From: 0, Slot: 7, Head: n[4]}), comes},
		{"a vote for the same of another one", w, cast(api.Vote{From: 1, Slot: 6, Head: n[4]}), comes},

		{"a twin whose parent is not there", of(parentsOfTwins()[0]), of(x[1]), waits},
		{"a vote for a twin that is not there", of(parentsOfTwins()...), cast(api.Vote{From: 2, Slot: 3, Head: tree.Name(x[0])}), waits},
		{"a block to nothing whose parent is not there", api.View{}, of(l[1]), waits},
		{"a vote to nothing whose block is not there", api.View{}, cast(v[0]), waits},
		{"a block on what is not known", w, of(block(c, 7, stranger, 0)), waits},
		{"a vote for what is not known", w, cast(api.Vote{From: 4, Slot: 4, Head: stranger}), waits},
	}
}

// nowhere are blocks on what is not known, and votes for it, which come alone to the view of the first one.
func nowhere() []one {
	c := five()
	w := ones()[0].w
	var all []one
	for i, id := range unknown(w.B) {
		slot := 1 + i%12
		all = append(all, one{"a block nowhere " + strconv.Itoa(i), w, of(block(c, slot, id, 0)), waits})
		all = append(all, one{"a vote nowhere " + strconv.Itoa(i), w, cast(api.Vote{From: members(c, slot)[0], Slot: slot, Head: id}), waits})
	}
	return all
}

// slotOf is that of the one thing that comes.
func (x one) slotOf() int {
	for _, b := range x.in.B {
		return b.Slot
	}
	return x.in.V[0].Slot
}

// take is what becomes of it in the slot.
func (x one) take(slot int) taken {
	switch {
	case x.fate == lost:
		return taken{w: x.w}
	case x.fate == waits || x.slotOf() > slot:
		return taken{w: x.w, left: x.in}
	default:
		return taken{w: both(x.w, x.in)}
	}
}

// P16.2: what is lost is there no more in any slot, what can't be counted yet waits, and what can be is counted from its slot on: each reason alone, in slots at all edges.
func TestOneComes(t *testing.T) {
	c := five()
	for _, x := range append(ones(), nowhere()...) {
		if !mayOf(c, x.w) || !same(x.in, onlyOf(c, x.in)) {
			t.Errorf("%s: it may not come at all, or the view may not be", x.why)
		}
		for _, slot := range append(numbers(), 3, x.slotOf()-1, x.slotOf(), x.slotOf()+1) {
			asked{c, x.w, x.in, slot}.checkTake(t, x.take(slot))
			if t.Failed() {
				t.Fatalf("%s, in slot %d", x.why, slot)
			}
			if got := x.take(slot); len(got.left.B)+len(got.left.V) == 0 {
				continue
			}
			// What waits does so however often it comes.
			asked{c, x.w, both(x.in, x.in), slot}.checkTake(t, taken{w: x.w, left: both(x.in, x.in)})
		}
		// What comes twice is counted once.
		asked{c, x.w, both(x.in, both(x.in, x.in)), last}.checkTake(t, taken{w: x.take(last).w, left: asked{c, x.w, both(x.in, both(x.in, x.in)), last}.plainly().left})
		if x.fate != waits {
			asked{c, x.w, both(x.in, x.in), last}.checkTake(t, x.take(last))
		}
	}
}

// P16.2: so it is of each of them, while another one comes as well.
func TestTwoCome(t *testing.T) {
	c := five()
	all := ones()
	held := 0
	for _, x := range all {
		for _, y := range all {
			if !same(x.w, all[0].w) || !same(y.w, all[0].w) {
				continue
			}
			for _, slot := range []int{0, 1, 4, 5, 6, last} {
				a := asked{c, x.w, both(x.in, y.in), slot}
				a.checkTake(t, a.plainly())
				held++
			}
		}
	}
	if held < 1000 {
		t.Errorf("only %d were held", held)
	}
}

// P16.2: the same block, and the same vote, twice: the first one is counted, the second one lost; two of one name likewise, of which the first one stands.
func TestTwice(t *testing.T) {
	c := five()
	l := line(c, 3)
	v := castBy([]int{2, 3}, 3, names(l)[2])
	in := api.View{B: []api.Block{l[0], l[0], l[1], l[0], l[2], l[1], l[2]}, V: []api.Vote{v[1], v[1], v[0], v[1], v[0]}}
	want := api.View{B: l, V: []api.Vote{v[1], v[0]}}
	asked{c, api.View{}, in, 3}.checkTake(t, taken{w: want})
	asked{c, api.View{}, both(in, in), 3}.checkTake(t, taken{w: want})
	in.B = turned(in.B)
	asked{c, api.View{}, in, 3}.checkTake(t, taken{w: want})
	asked{c, api.View{}, in, 2}.checkTake(t, taken{w: of(l[:2]...), left: api.View{B: []api.Block{l[2], l[2]}, V: in.V}})
	p, x := parentsOfTwins(), twins()
	asked{c, api.View{}, of(append(p, x...)...), 3}.checkTake(t, taken{w: of(append(p, x[0])...)})
	asked{c, api.View{}, of(append(p, x[1], x[0])...), 3}.checkTake(t, taken{w: of(append(p, x[1])...)})
	asked{c, api.View{}, of(append(x, p...)...), 3}.checkTake(t, taken{w: of(append(p, x[0])...)})
	asked{c, api.View{}, of(x[0], x[1], p[1]), 3}.checkTake(t, taken{w: of(p[1], x[1])})
	asked{c, of(p...), of(x...), 2}.checkTake(t, taken{w: of(p...), left: of(x...)})
}

// P16.2: what is of a later slot, but lost as well, is lost, not left.
func TestLostOfLaterSlot(t *testing.T) {
	c := five()
	l := line(c, 8)
	n := names(l)
	v := castBy([]int{0, 2}, 7, n[6])
	w := api.View{B: l, V: v}
	in := api.View{
		B: []api.Block{l[7], block(c, 6, n[6], 0), block(c, 8, n[7], 1), l[4], block(c, 9, n[7], 0)},
		V: []api.Vote{v[1], {From: 0, Slot: 7, Head: n[7]}, {From: 1, Slot: 6, Head: n[6]}, {From: 2, Slot: 9, Head: n[7]}},
	}
	for slot := -1; slot < 9; slot++ {
		asked{c, w, in, slot}.checkTake(t, taken{w: w, left: api.View{B: in.B[4:], V: in.V[3:]}})
	}
	asked{c, w, in, 9}.checkTake(t, taken{w: both(w, api.View{B: in.B[4:], V: in.V[3:]})})
}

// P16.2: what turns out to be lost only by what is counted later in the same call is not left either.
func TestLostByWhatComes(t *testing.T) {
	c := five()
	l := line(c, 3)
	n := names(l)
	low := block(c, 2, n[2], 0)
	early := api.Vote{From: 0, Slot: 2, Head: n[2]}
	on := block(c, 4, tree.Name(low), 0)
	in := api.View{B: []api.Block{on, low, l[2], l[1], l[0]}, V: []api.Vote{early}}
	asked{c, api.View{}, in, 9}.checkTake(t, taken{w: of(l...), left: of(on)})
	asked{c, api.View{}, in, 2}.checkTake(t, taken{w: of(l[:2]...), left: api.View{B: []api.Block{on, low, l[2]}, V: in.V}})
	in.B = in.B[:4]
	asked{c, api.View{}, in, 9}.checkTake(t, taken{left: in})
}

// P16.2: what was left comes again: in the same slot nothing is counted, nor lost; in later ones what is of them is.
func TestTakeAgain(t *testing.T) {
	c := five()
	l := line(c, 6)
	var v []api.Vote
	for i, id := range names(l) {
		v = append(v, castBy(members(c, i+1)[:1], i+1, id)...)
	}
	x := taken{left: api.View{B: turned(l), V: v}}
	for slot := range 8 {
		a := asked{c, x.w, x.left, slot}
		k := min(slot, 6)
		a.checkTake(t, taken{w: api.View{B: l[:k], V: v[:k]}, left: api.View{B: turned(l[k:]), V: v[k:]}})
		x = a.take()
		asked{c, x.w, x.left, slot}.checkTake(t, x)
		if slot > 0 {
			asked{c, x.w, x.left, slot - 1}.checkTake(t, x)
		}
	}
}

// P16.2: of all lists of up to four blocks out of few, in all slots, to nothing and to what is there.
func TestTakeSmall(t *testing.T) {
	c := five()
	l := line(c, 3)
	n := names(l)
	blocks := []api.Block{l[0], l[1], l[2], block(c, 1, n[0], 0), block(c, 2, n[2], 0), block(c, 4, tree.Name(block(c, 2, n[2], 0)), 0), block(c, 3, stranger, 0)}
	for _, in := range lists(blocks, 4) {
		for slot := range 5 {
			a := asked{c, api.View{}, of(in...), slot}
			a.checkTake(t, a.plainly())
			a.w = of(l[0])
			a.checkTake(t, a.plainly())
		}
	}
}

// P16.2: of all lists of up to three votes out of few, with two blocks in both orders, or one, or none.
func TestTakeSmallVotes(t *testing.T) {
	c := five()
	l := line(c, 2)
	n := names(l)
	votes := []api.Vote{{From: 0, Slot: 1}, {From: 0, Slot: 1, Head: n[0]}, {From: 0, Slot: 1, Head: n[1]}, {From: 0, Slot: 2, Head: n[1]}, {From: 3, Slot: 4, Head: n[0]}, {From: 2, Slot: 3, Head: stranger}, {From: 1, Slot: 1, Head: n[0]}}
	for _, v := range lists(votes, 3) {
		for _, some := range lists(l, 2) {
			for _, slot := range []int{0, 1, 2, 4} {
				a := asked{c, api.View{}, api.View{B: some, V: v}, slot}
				a.checkTake(t, a.plainly())
				a.w = api.View{B: l[:1], V: votes[:2]}
				a.checkTake(t, a.plainly())
			}
		}
	}
}

// P16.1, P16.2: all calls against the plain ones, of many views, and of what comes in no order, twice, and of who may not.
func TestMany(t *testing.T) {
	full, wrong := 0, 0
	for seed := range uint64(300) {
		a := someAsked(seed)
		a.check(t)
		x := a.take()
		if x.full {
			full++
		}
		if !mayOf(a.c, a.w) {
			wrong++
		}
	}
	if full < 5 || wrong < 50 {
		t.Errorf("only %d had no room, and %d may not be", full, wrong)
	}
}

// P1: at all edges of numbers, in each field, nothing panics.
func TestTakeEdges(t *testing.T) {
	for _, c := range []api.Conf{five(), alone(), {}, {W: []int{1, 2}, Epoch: 1}} {
		for _, x := range numbers() {
			for _, y := range numbers() {
				in := api.View{B: []api.Block{{Slot: x, From: y}, {Slot: y, From: 0}}, V: []api.Vote{{Slot: x, From: y}, {Slot: y, From: 0}}}
				for _, slot := range []int{math.MinInt, x, y, math.MaxInt} {
					asked{c, api.View{}, in, slot}.check(t)
					asked{c, in, in, slot}.check(t)
				}
			}
		}
	}
}
