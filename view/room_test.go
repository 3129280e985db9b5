package view_test

import (
	"slices"
	"testing"

	"marigold/api"
	"marigold/tree"
)

// P16.2: of blocks that could all be counted the first 60 are, the others stay, in order, and true is told only if there are some.
func TestRoomBlocks(t *testing.T) {
	c := five()
	l := star(c, 130)
	for _, n := range []int{0, 1, 2, 58, 59, 60, 61, 62, 130} {
		k := min(n, 60)
		asked{c, api.View{}, of(l[:n]...), 1}.checkTake(t, taken{of(l[:k]...), of(l[k:n]...), n > 60})
		for _, had := range []int{1, 30, 59, 60} {
			if had <= n {
				asked{c, of(l[:had]...), of(l[had:n]...), 1}.checkTake(t, taken{of(l[:k]...), of(l[k:n]...), n > 60})
				asked{c, of(l[:had]...), of(l[:n]...), 1}.checkTake(t, taken{of(l[:k]...), of(l[k:n]...), n > 60})
			}
		}
	}
}

// P16.2: so it is of votes, of which there is room for 240.
func TestRoomVotes(t *testing.T) {
	c := twelve()
	v := cheers(500)
	for _, n := range []int{0, 1, 2, 238, 239, 240, 241, 242, 500} {
		k := min(n, 240)
		asked{c, api.View{}, cast(v[:n]...), 99}.checkTake(t, taken{cast(v[:k]...), cast(v[k:n]...), n > 240})
		for _, had := range []int{1, 100, 239, 240} {
			if had <= n {
				asked{c, cast(v[:had]...), cast(v[had:n]...), 99}.checkTake(t, taken{cast(v[:k]...), cast(v[k:n]...), n > 240})
				asked{c, cast(v[:had]...), cast(v[:n]...), 99}.checkTake(t, taken{cast(v[:k]...), cast(v[k:n]...), n > 240})
			}
		}
	}
}

// P16.2: where there is no room for blocks votes are counted all the same, and blocks where there is none for votes; 60 and 240 have room at once.
func TestRoomApart(t *testing.T) {
	c := twelve()
	l, v := star(c, 61), cheers(241)
	n := names(l)
	late := api.Vote{From: 3, Slot: 21, Head: n[59]}
	on := api.Vote{From: 3, Slot: 21, Head: n[60]}
	asked{c, api.View{}, api.View{B: l[:60], V: v[:240]}, 50}.checkTake(t, taken{w: api.View{B: l[:60], V: v[:240]}})
	asked{c, of(l[:60]...), api.View{B: l[60:], V: append([]api.Vote{late}, v[:9]...)}, 50}.checkTake(t, taken{api.View{B: l[:60], V: append([]api.Vote{late}, v[:9]...)}, of(l[60]), true})
	asked{c, cast(v[:240]...), api.View{B: l[:3], V: v[240:]}, 50}.checkTake(t, taken{api.View{B: l[:3], V: v[:240]}, cast(v[240]), true})
	asked{c, api.View{B: l[:60], V: v[:240]}, api.View{B: l[60:], V: v[240:]}, 50}.checkTake(t, taken{api.View{B: l[:60], V: v[:240]}, api.View{B: l[60:], V: v[240:]}, true})
	// A vote for a block that had no room waits, so that it tells no true.
	asked{c, of(l[:60]...), cast(on), 50}.checkTake(t, taken{of(l[:60]...), cast(on), false})
	asked{c, of(l[:60]...), api.View{B: l[60:], V: []api.Vote{on}}, 50}.checkTake(t, taken{of(l[:60]...), api.View{B: l[60:], V: []api.Vote{on}}, true})
	asked{c, of(l[:59]...), api.View{B: l[60:], V: []api.Vote{on, late}}, 50}.checkTake(t, taken{api.View{B: append(slices.Clone(l[:59]), l[60]), V: []api.Vote{on}}, cast(late), false})
}

// P16.2: to a full view, what is lost is there no more, and what waits stays, and neither of them tells true; only what could be counted does, and stays.
func TestRoomFates(t *testing.T) {
	c := twelve()
	l, v := line(c, 60), cheers(240)
	n := names(l)
	w := api.View{B: l, V: v}
	fresh := api.View{B: []api.Block{block(c, 9, n[2], 5)}, V: []api.Vote{{From: 1, Slot: 30, Head: n[3]}}}
	gone := api.View{B: []api.Block{l[9], block(c, 2, n[2], 0), l[59]}, V: []api.Vote{v[7], {From: 1, Slot: 3, Head: n[9]}}}
	stays := api.View{B: []api.Block{block(c, 61, n[59], 0), block(c, 20, stranger, 0), block(c, 10, tree.Name(fresh.B[0]), 0)}, V: []api.Vote{{From: 0, Slot: 70}, {From: 0, Slot: 3, Head: stranger}, {From: 5, Slot: 12, Head: tree.Name(fresh.B[0])}}}
	asked{c, w, api.View{}, 60}.checkTake(t, taken{w: w})
	asked{c, w, gone, 60}.checkTake(t, taken{w: w})
	asked{c, w, stays, 60}.checkTake(t, taken{w: w, left: stays})
	asked{c, w, both(gone, stays), 60}.checkTake(t, taken{w: w, left: stays})
	asked{c, w, of(fresh.B...), 60}.checkTake(t, taken{w, of(fresh.B...), true})
	asked{c, w, cast(fresh.V...), 60}.checkTake(t, taken{w, cast(fresh.V...), true})
	asked{c, w, both(both(stays, fresh), gone), 60}.checkTake(t, taken{w, both(stays, fresh), true})
	asked{c, w, both(both(gone, fresh), stays), 60}.checkTake(t, taken{w, both(fresh, stays), true})
	asked{c, w, both(fresh, fresh), 60}.checkTake(t, taken{w, both(fresh, fresh), true})
	// In a slot ahead of them they wait, so that nothing is told.
	asked{c, w, fresh, 8}.checkTake(t, taken{w: w, left: fresh})
	asked{c, w, fresh, 29}.checkTake(t, taken{w, fresh, true})
	asked{c, w, cast(fresh.V...), 29}.checkTake(t, taken{w: w, left: cast(fresh.V...)})
	asked{c, w, stays, 61}.checkTake(t, taken{w, stays, true})
	asked{c, w, cast(stays.V...), 69}.checkTake(t, taken{w: w, left: cast(stays.V...)})
	asked{c, w, cast(stays.V...), 70}.checkTake(t, taken{w, cast(stays.V...), true})
}

// P16.2: who comes to the room first is told by rounds, not by slots: of a chain in the wrong order only one block is counted in each, while others all are in the first one.
func TestRoomRounds(t *testing.T) {
	c := five()
	chain := line(c, 40)
	var others []api.Block
	for i := range 40 {
		others = append(others, block(c, 50, beginning, uint64(i)))
	}
	in := of(append(turned(chain), others...)...)
	x := taken{of(slices.Concat(chain[:1], others, chain[1:20])...), of(turned(chain[20:])...), true}
	asked{c, api.View{}, in, 50}.checkTake(t, x)
	in = of(append(slices.Clone(chain), others...)...)
	asked{c, api.View{}, in, 50}.checkTake(t, taken{of(slices.Concat(chain, others[:20])...), of(others[20:]...), true})
	in = of(append(slices.Clone(others), chain...)...)
	asked{c, api.View{}, in, 50}.checkTake(t, taken{of(slices.Concat(others, chain[:20])...), of(chain[20:]...), true})
	// A line of 61: the last one has no room, in whatever order they come.
	long := line(c, 61)
	asked{c, api.View{}, of(long...), 99}.checkTake(t, taken{of(long[:60]...), of(long[60]), true})
	asked{c, api.View{}, of(turned(long)...), 99}.checkTake(t, taken{of(long[:60]...), of(long[60]), true})
	asked{c, api.View{}, of(turned(long)...), 60}.checkTake(t, taken{of(long[:60]...), of(long[60]), false})
}

// P16.2: so it is of votes: those for what is counted in a later round come behind those for the beginning.
func TestRoomRoundsOfVotes(t *testing.T) {
	c := twelve()
	l := line(c, 2)
	var on []api.Vote
	for i := range 100 {
		on = append(on, api.Vote{From: i % 12, Slot: 2 + i/12, Head: names(l)[1]})
	}
	v := cheers(200)
	in := api.View{B: turned(l), V: append(slices.Clone(on), v...)}
	asked{c, api.View{}, in, 50}.checkTake(t, taken{api.View{B: l, V: append(v, on[:40]...)}, cast(on[40:]...), true})
	in.B = l
	asked{c, api.View{}, in, 50}.checkTake(t, taken{api.View{B: l, V: slices.Concat(on, v[:140])}, cast(v[140:]...), true})
}

// P16.2: what had no room stays so however often it comes again, and is told so each time; where its slot's others come behind it they stay as well.
func TestRoomAgain(t *testing.T) {
	c := five()
	l := star(c, 63)
	a := asked{c, api.View{}, of(l...), 1}
	x := a.take()
	for slot := range 5 {
		want := x
		want.full = slot > 0
		asked{c, x.w, x.left, slot}.checkTake(t, want)
		more := block(c, 2, names(l)[5], 0)
		want.left = of(append(slices.Clone(x.left.B), more)...)
		asked{c, x.w, want.left, slot}.checkTake(t, want)
	}
	// In a view of fewer blocks it has room.
	asked{c, of(l[:57]...), x.left, 1}.checkTake(t, taken{w: of(append(slices.Clone(l[:57]), l[60:]...)...)})
}

// P16.2: where blocks are many, and votes, of which few have room: against the plain words, in many orders.
func TestRoomMany(t *testing.T) {
	c := twelve()
	l := slices.Concat(star(c, 20), line(c, 30), bush(c)[1:], star(c, 30)[25:], line(c, 40)[30:])
	var v []api.Vote
	for i, id := range append(names(l), beginning, stranger) {
		v = append(v, castBy([]int{i % 12, (i + 1) % 12, (i + 5) % 12, i % 12}, 1+i%50, id)...)
	}
	full := 0
	for seed := range uint64(60) {
		a := asked{c, api.View{}, mixedView(api.View{B: l, V: v}, seed), 10 + int(seed)}
		want := a.plainly()
		a.checkTake(t, want)
		asked{c, want.w, want.left, a.slot}.checkTake(t, want)
		if want.full {
			full++
		}
	}
	if full < 30 || full == 60 {
		t.Errorf("%d had no room", full)
	}
}

// P16.2: far more comes than there is room for: of each kind some are lost, some wait, and some have no room.
func TestFarMore(t *testing.T) {
	c := twelve()
	l, v := star(c, 1<<14), cheers(1<<17)
	a := asked{c, api.View{}, api.View{B: l, V: v}, last}
	a.checkTake(t, taken{api.View{B: l[:60], V: v[:240]}, api.View{B: l[60:], V: v[240:]}, true})
	a.slot = 1
	a.checkTake(t, taken{api.View{B: l[:60], V: v[:12]}, api.View{B: l[60:], V: v[12:]}, true})
	a.slot = 0
	a.checkTake(t, taken{left: api.View{B: l, V: v}})
	a.w = api.View{B: l[:1], V: v[:1]}
	a.in = api.View{B: slices.Repeat(l[:1], 1<<14), V: slices.Repeat(v[:1], 1<<17)}
	a.checkTake(t, taken{w: a.w})
	wait := api.View{B: slices.Repeat([]api.Block{block(c, 5, stranger, 0)}, 1<<14), V: slices.Repeat([]api.Vote{{Slot: 9, Head: stranger}}, 1<<16)}
	long := line(c, 60)
	a = asked{c, api.View{}, both(of(turned(long)...), wait), 60}
	a.checkTake(t, taken{of(long...), wait, false})
	a.w = api.View{B: l, V: v}
	a.checkTake(t, taken{a.w, a.in, false})
	checkMay(t, c, a.w, false)
}
