package view_test

import (
	"slices"
	"testing"

	"marigold/api"
	"marigold/view"
)

// P16.1: what is there already is left out, what is there twice in the first stays so, and what is twice in the second is there once.
func TestJoinWritten(t *testing.T) {
	l := bush(five())
	a, b, d := l[0], l[1], l[2]
	for _, x := range [][3][]api.Block{
		{nil, nil, nil},
		{{}, {}, nil},
		{{a}, nil, {a}},
		{nil, {a}, {a}},
		{{a}, {a}, {a}},
		{{a}, {b}, {a, b}},
		{{b}, {a}, {b, a}},
		{{a, a}, nil, {a, a}},
		{{a, a}, {a}, {a, a}},
		{{a, a}, {a, a}, {a, a}},
		{nil, {a, a}, {a}},
		{nil, {b, a, b, a}, {b, a}},
		{{a}, {b, b}, {a, b}},
		{{a, b, a}, {b, d, b, a, d}, {a, b, a, d}},
		{{d}, {b, a, d, b}, {d, b, a}},
		{{a, b}, {b, a}, {a, b}},
		{{b, a}, {a, d, b}, {b, a, d}},
		{{a, b, d}, {d, d, d}, {a, b, d}},
	} {
		checkJoin(t, of(x[0]...), of(x[1]...), of(x[2]...))
		var v [3][]api.Vote
		for i := range x {
			for _, b := range x[i] {
				v[i] = append(v[i], api.Vote{From: b.From, Slot: b.Slot, Head: b.Parent})
			}
		}
		checkJoin(t, cast(v[0]...), cast(v[1]...), cast(v[2]...))
		checkJoin(t, api.View{B: x[0], V: v[1]}, api.View{B: x[1], V: v[0]}, api.View{B: x[2], V: joinOf(cast(v[1]...), cast(v[0]...)).V})
		checkJoin(t, api.View{B: x[0], V: v[0]}, api.View{B: x[1], V: v[1]}, api.View{B: x[2], V: v[2]})
	}
}

// P16.1: with nothing, and with itself, all is as it is.
func TestJoinNothing(t *testing.T) {
	for seed := range uint64(30) {
		w := someView(five(), seed)
		checkJoin(t, w, api.View{}, w)
		checkJoin(t, w, w, w)
		checkJoin(t, w, both(w, w), w)
		checkJoin(t, both(w, w), w, both(w, w))
		once := joinOf(api.View{}, w)
		checkJoin(t, api.View{}, w, once)
		checkJoin(t, api.View{}, both(w, w), once)
		checkJoin(t, once, w, once)
		checkJoin(t, api.View{B: w.B}, api.View{V: once.V}, api.View{B: w.B, V: once.V})
		checkJoin(t, api.View{V: w.V}, api.View{B: once.B}, api.View{B: once.B, V: w.V})
	}
}

// P16.1: blocks are told from others as they are, not by their names: twins are both there.
func TestJoinTwins(t *testing.T) {
	x := twins()
	checkJoin(t, of(x[0]), of(x[1]), of(x...))
	checkJoin(t, of(x[1]), of(x[0]), of(x[1], x[0]))
	checkJoin(t, api.View{}, of(x[0], x[1], x[0], x[1]), of(x...))
	checkJoin(t, of(x...), of(x[1], x[0]), of(x...))
}

// P16.1: what differs in one field alone is not the same.
func TestJoinOneField(t *testing.T) {
	b := api.Block{Slot: 5, From: 3, Parent: api.ID{4, 6}, Salt: 7}
	for i, change := range []func(b *api.Block){
		func(b *api.Block) { b.Slot++ },
		func(b *api.Block) { b.From++ },
		func(b *api.Block) { b.Parent[0]++ },
		func(b *api.Block) { b.Parent[1]++ },
		func(b *api.Block) { b.Parent = api.ID{6, 4} },
		func(b *api.Block) { b.Salt++ },
		func(b *api.Block) { b.Slot, b.From = 3, 5 },
	} {
		other := b
		change(&other)
		checkJoin(t, of(b), of(b, other, other), of(b, other))
		checkJoin(t, of(other), of(b), of(other, b))
		v, x := api.Vote{Slot: b.Slot, From: b.From, Head: b.Parent}, api.Vote{Slot: other.Slot, From: other.From, Head: other.Parent}
		if i != 5 {
			checkJoin(t, cast(v), cast(v, x, x), cast(v, x))
			checkJoin(t, cast(x), cast(v), cast(x, v))
		}
	}
}

// P16.1: what may not be at all is joined all the same, as it is.
func TestJoinWrong(t *testing.T) {
	for _, a := range wrong() {
		checkJoin(t, a, api.View{}, a)
		checkJoin(t, a, a, a)
		checkJoin(t, api.View{}, a, joinOf(api.View{}, a))
		for _, b := range right() {
			checkJoin(t, a, b, joinOf(a, b))
			checkJoin(t, b, a, joinOf(b, a))
		}
	}
	odd := api.View{B: []api.Block{{}, {Slot: -1}, {From: 99}, nameless(), {}}, V: []api.Vote{{}, {Slot: -1}, {From: 99, Head: stranger}, {}}}
	checkJoin(t, api.View{}, odd, api.View{B: odd.B[:4], V: odd.V[:3]})
	checkJoin(t, of(api.Block{}), odd, api.View{B: odd.B[:4], V: odd.V[:3]})
	checkJoin(t, odd, odd, odd)
}

// P16.1: of all lists of up to three of three each.
func TestJoinSmall(t *testing.T) {
	l, v := bush(five())[:3], many(five(), 3)
	some, votes := lists(l, 3), lists(v, 3)
	for i, a := range some {
		for k, b := range some {
			x, y := api.View{B: a, V: votes[k]}, api.View{B: b, V: votes[i]}
			checkJoin(t, x, y, joinOf(x, y))
		}
	}
}

// P16.1: there is no room that might be too small: with many more than a view may have, in order.
func TestJoinMany(t *testing.T) {
	l, v := star(twelve(), 1<<14), cheers(1<<17)
	all := api.View{B: l, V: v}
	half := api.View{B: l[:1<<13], V: v[:1<<16]}
	checkJoin(t, half, all, all)
	checkJoin(t, all, half, all)
	checkJoin(t, api.View{}, both(all, half), all)
	rest := api.View{B: l[1<<13:], V: v[1<<16:]}
	checkJoin(t, rest, all, both(rest, half))
}

// P16.1: joined step by step it is the same as at once.
func TestJoinSteps(t *testing.T) {
	for seed := range uint64(30) {
		a, b, d := someView(five(), seed), someView(five(), seed+1), someView(five(), seed+2)
		left := view.Join(view.Join(a, b), d)
		right := view.Join(a, view.Join(b, d))
		if !same(left, right) || !same(left, joinOf(joinOf(a, b), d)) {
			t.Errorf("%v, %v and %v are %v, and %v", a, b, d, left, right)
		}
		one := api.View{}
		for _, x := range a.B {
			one = view.Join(one, of(x))
		}
		for _, x := range a.V {
			one = view.Join(one, cast(x))
		}
		checkJoin(t, api.View{}, a, one)
		if !slices.Equal(left.B[:len(a.B)], a.B) || !slices.Equal(left.V[:len(a.V)], a.V) {
			t.Errorf("%v does not begin by %v", left, a)
		}
	}
}
