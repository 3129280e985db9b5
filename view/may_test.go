package view_test

import (
	"slices"
	"strconv"
	"testing"

	"marigold/api"
	"marigold/duty"
	"marigold/tree"
	"marigold/view"
)

// right are views that may be in five.
func right() map[string]api.View {
	c := five()
	l := bush(c)
	n := names(l)
	high := block(c, last, n[9], top)
	return map[string]api.View{
		"nothing":                       {},
		"lists without elements":        {B: []api.Block{}, V: []api.Vote{}},
		"one block":                     of(l[0]),
		"one block of the last slot":    of(block(c, last, beginning, 3)),
		"a vote for the beginning":      cast(api.Vote{From: 0, Slot: 1}),
		"a late vote for the beginning": cast(api.Vote{From: 0, Slot: last}),
		"a vote of the block's slot":    {B: l[:1], V: castBy([]int{0, 2}, 1, n[0])},
		"a vote of a later slot":        {B: l[:1], V: castBy([]int{1, 3, 4}, 4, n[0])},
		"a vote of the last slot":       {B: append(bush(c), high), V: castBy([]int{0, 2, 4}, last, tree.Name(high))},
		"somebody's votes for two":      {B: l, V: append(castBy([]int{0}, 5, n[0]), castBy([]int{0}, 5, n[1])...)},
		"somebody's votes of two slots": {B: l, V: append(castBy([]int{0}, 5, n[0]), castBy([]int{0}, 1, n[0])...)},
		"two blocks but for the salt":   of(l[0], block(c, 1, beginning, 1)),
		"a slot's later one ahead":      of(block(c, 4, beginning, 0), block(c, 1, beginning, 0)),
		"one of two twins":              of(append(parentsOfTwins(), twins()[1])...),
		"many":                          {B: l, V: append(castBy([]int{0, 2}, 5, n[4]), castBy([]int{1, 3, 4}, 6, beginning)...)},
	}
}

// wrong are views that may not be in five, each for one reason alone, by that.
func wrong() map[string]api.View {
	c := five()
	l := bush(c)
	n := names(l)
	with := func(v ...api.Vote) api.View { return api.View{B: l, V: v} }
	all := map[string]api.View{
		"a block of who does not propose":    of(append(bush(c), api.Block{Slot: 6, From: 4})...),
		"a block of nobody":                  of(append(bush(c), api.Block{Slot: 6, From: -1})...),
		"a block beyond the last slot":       of(append(bush(c), api.Block{Slot: last + 1, From: -1})...),
		"a block of no slot":                 of(api.Block{From: -1}),
		"a block of a slot below 1":          of(api.Block{Slot: -1, From: -1}),
		"a parent behind":                    of(l[1], l[0]),
		"a parent that is left out":          of(l[1:]...),
		"a parent that is not known":         of(append(bush(c), block(c, 11, stranger, 0))...),
		"a block on itself's slot":           of(append(bush(c), block(c, 4, n[3], 0))...),
		"a block on one of a later slot":     of(append(bush(c), block(c, 2, n[3], 0))...),
		"a block twice":                      of(append(bush(c), l[4])...),
		"a block alone twice":                of(l[0], l[0]),
		"twins":                              of(append(parentsOfTwins(), twins()...)...),
		"the beginning's name":               of(append(bush(c), nameless())...),
		"a vote of who is not in it":         with(api.Vote{From: 1, Slot: 5}),
		"a vote of who is no validator":      with(api.Vote{From: 5, Slot: 5}),
		"a vote of who has no number":        with(api.Vote{From: -1, Slot: 5}),
		"a vote of no slot":                  with(api.Vote{}),
		"a vote beyond the last slot":        with(api.Vote{From: 0, Slot: last + 1}),
		"a vote for a stranger":              with(api.Vote{From: 0, Slot: 5, Head: stranger}),
		"a vote without the block":           {B: l[:4], V: castBy([]int{0}, 5, n[4])},
		"a vote without blocks":              cast(api.Vote{From: 0, Slot: 5, Head: n[4]}),
		"a vote ahead of the block's slot":   with(api.Vote{From: 0, Slot: 1, Head: n[1]}),
		"a vote one slot too early":          with(api.Vote{From: 1, Slot: 4, Head: n[4]}),
		"a vote twice":                       with(api.Vote{From: 0, Slot: 5, Head: n[4]}, api.Vote{From: 0, Slot: 5, Head: n[4]}),
		"a vote twice, with others between":  with(api.Vote{From: 0, Slot: 5}, api.Vote{From: 2, Slot: 5}, api.Vote{From: 0, Slot: 1}, api.Vote{From: 0, Slot: 5}),
		"a vote for the beginning twice":     cast(api.Vote{From: 0, Slot: 5}, api.Vote{From: 0, Slot: 5}),
		"one block more than 60":             of(star(c, 61)...),
		"one block more than 60, in a line":  of(line(c, 61)...),
		"many blocks more than 60":           of(star(c, 300)...),
		"many votes more than 240, one each": {V: many(c, 300)},
		"one vote more than 240":             {V: many(c, 241)},
	}
	for _, id := range unknown(l) {
		name := strconv.FormatUint(id[0], 16) + ", " + strconv.FormatUint(id[1], 16)
		all["a vote for the unknown "+name] = with(api.Vote{From: 0, Slot: 5, Head: id})
		all["a block on the unknown "+name] = of(append(bush(c), block(c, 11, id, 0))...)
	}
	return all
}

// many are n votes for the beginning, of the committees in turn.
func many(c api.Conf, n int) []api.Vote {
	var v []api.Vote
	for slot := 1; len(v) < n; slot++ {
		v = append(v, castBy(members(c, slot), slot, beginning)...)
	}
	return v[:n]
}

// P16.1: what may be, written out, and what may not be for each reason alone.
func TestMayWritten(t *testing.T) {
	for why, w := range right() {
		if !view.May(five(), w) || !mayOf(five(), w) {
			t.Errorf("with %s it may not be", why)
		}
	}
	for why, w := range wrong() {
		if view.May(five(), w) || mayOf(five(), w) {
			t.Errorf("with %s it may be", why)
		}
	}
}

// P16.1: 60 blocks and 240 votes may be, and one more of either may not, whatever the others are.
func TestMayLimits(t *testing.T) {
	for _, c := range []api.Conf{five(), twelve(), alone()} {
		for _, n := range []int{0, 1, 59, 60, 61, 62, 120} {
			for _, k := range []int{0, 1, 239, 240, 241, 242, 480} {
				is := n <= 60 && k <= 240
				checkMay(t, c, api.View{B: star(c, n), V: many(c, k)}, is)
				checkMay(t, c, api.View{B: line(c, n), V: many(c, k)}, is)
			}
		}
	}
	// What is too much is so also where the rest might be left out as there already.
	l := star(five(), 60)
	checkMay(t, five(), of(append(l, l[0])...), false)
	v := many(five(), 240)
	checkMay(t, five(), cast(append(v, v[0])...), false)
}

// P16.1: a view that has something may not be by a conf that may not be; one that has nothing may, since all of it may come.
func TestMayWrongConfs(t *testing.T) {
	for _, c := range wrongConfs() {
		for _, w := range right() {
			checkMay(t, c, w, len(w.B)+len(w.V) == 0)
		}
		for _, w := range wrong() {
			checkMay(t, c, w, false)
		}
		for slot := range 4 {
			checkMay(t, c, of(api.Block{Slot: slot, From: -1}), false)
			checkMay(t, c, of(api.Block{Slot: slot}), false)
			checkMay(t, c, cast(api.Vote{From: -1, Slot: slot}), false)
		}
	}
}

// P16.1: a view that may be may be by another conf only if its duties are the same.
func TestMayByOthers(t *testing.T) {
	for name, w := range right() {
		for seed := range uint64(20) {
			checkMay(t, conf(5, seed, 2), w, mayOf(conf(5, seed, 2), w))
		}
		c := five()
		c.W, c.Num, c.Den = []int{0, heavy, 0, 3, 3}, 1000, 1000
		if !view.May(c, w) {
			t.Errorf("by other weights and another beta what has %s may not be", name)
		}
	}
}

// P16.1: the beginning, and what is cut off from behind, leave what may be so; what is cut off in front need not.
func TestMayParts(t *testing.T) {
	c := five()
	l, v := bush(c), many(c, 20)
	for i := range len(l) + 1 {
		for k := range len(v) + 1 {
			checkMay(t, c, api.View{B: l[:i], V: v[:k]}, true)
			checkMay(t, c, api.View{B: l[i:], V: v[k:]}, mayOf(c, of(l[i:]...)))
		}
	}
	last := append(many(c, 20), api.Vote{From: 1, Slot: 10, Head: names(l)[9]})
	for i := range len(l) + 1 {
		checkMay(t, c, api.View{B: l[:i], V: last}, i == len(l))
	}
}

// P16.1: each one of a view at each place, changed to what may not come, makes that it may not be.
func TestMayEachPlace(t *testing.T) {
	c := five()
	l := bush(c)
	v := castBy([]int{0, 2}, 5, names(l)[2])
	v = append(v, castBy([]int{1, 3, 4}, 6, names(l)[3])...)
	checkMay(t, c, api.View{B: l, V: v}, true)
	for i := range l {
		for _, b := range []api.Block{{}, {Slot: l[i].Slot, From: 3}, {Slot: last + 1, From: -1}, block(c, 12, stranger, 0)} {
			m := slices.Clone(l)
			m[i] = b
			checkMay(t, c, api.View{B: m}, false)
		}
	}
	for i := range v {
		for _, x := range []api.Vote{{}, {From: 5, Slot: 5}, {From: 1, Slot: 5}, {From: 0, Slot: 5, Head: stranger}, v[(i+1)%len(v)], {From: 0, Slot: 1, Head: names(l)[2]}} {
			m := slices.Clone(v)
			m[i] = x
			checkMay(t, c, api.View{B: l, V: m}, false)
		}
	}
}

// P16.1: of all lists of up to three blocks and of up to two votes out of few, against the plain words.
func TestMaySmall(t *testing.T) {
	c := five()
	l := line(c, 3)
	n := names(l)
	blocks := []api.Block{l[0], l[1], l[2], block(c, 1, n[0], 0), block(c, 1, n[1], 0), {Slot: 1}, block(c, 2, beginning, 0), block(c, 5, stranger, 0)}
	votes := []api.Vote{{From: 0, Slot: 1}, {From: 0, Slot: 1, Head: n[0]}, {From: 0, Slot: 1, Head: n[1]}, {From: 4, Slot: 2, Head: n[1]}, {From: 0, Slot: 5, Head: n[2]}, {From: 1, Slot: 1}}
	may := 0
	for _, some := range lists(blocks, 3) {
		for _, v := range lists(votes, 2) {
			w := api.View{B: some, V: v}
			checkMay(t, c, w, mayOf(c, w))
			if view.May(c, w) {
				may++
			}
		}
	}
	if may < 50 {
		t.Errorf("only %d may be", may)
	}
}

// P1: of all edges of numbers, in each field, nothing panics.
func TestMayEdges(t *testing.T) {
	for _, c := range []api.Conf{five(), {}, {W: []int{1, 2}, Epoch: 1, Den: 1}} {
		for _, x := range numbers() {
			for _, y := range numbers() {
				w := api.View{B: []api.Block{{Slot: x, From: y}}, V: []api.Vote{{Slot: x, From: y}}}
				checkMay(t, c, w, mayOf(c, w))
				checkMay(t, c, of(w.B...), mayOf(c, of(w.B...)))
				checkMay(t, c, cast(w.V...), mayOf(c, cast(w.V...)))
			}
		}
	}
	if !duty.May(five()) {
		t.Error("five may not be")
	}
}

// lists are all of up to n elements of l.
func lists[T any](l []T, n int) [][]T {
	all := [][]T{nil}
	for first := 0; n > 0; n-- {
		more := all[first:]
		first = len(all)
		for _, some := range more {
			for _, x := range l {
				all = append(all, append(slices.Clone(some), x))
			}
		}
	}
	return all
}
