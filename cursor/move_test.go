package cursor_test

import (
	"math"
	"testing"

	"marigold/api"
	"marigold/cursor"
	"marigold/tree"
)

// P17.1: the chapter's example, and the whole's first one: a block is confirmed, the head leaves it, and the cursor is at the beginning, and was revoked once.
func TestExample(t *testing.T) {
	l := star(2)
	n := names(l)
	c := cursor.Move(api.Cursor{}, l, n[0], n[0], true, 1)
	if c != (api.Cursor{ID: n[0], Slot: 1}) {
		t.Fatalf("it is %+v", c)
	}
	c = cursor.Move(c, l, n[1], beginning, false, 2)
	if c != (api.Cursor{Slot: 2, Revoked: 1}) {
		t.Errorf("it is %+v", c)
	}
}

// P17.1: the head is 8, whose chain is 8, 6, 1, 0 and the beginning: answers written out, by where the cursor is and what was found.
func TestWritten(t *testing.T) {
	l := bush()
	n := names(l)
	b, s := beginning, stranger
	for i, x := range []struct {
		from, found api.ID
		want        api.Cursor
	}{
		// What was found is above the cursor, on the way to the head, or the head itself.
		{b, n[0], moved(n[0])}, {b, n[1], moved(n[1])}, {b, n[8], moved(n[8])}, {n[0], n[1], moved(n[1])}, {n[0], n[6], moved(n[6])}, {n[0], n[8], moved(n[8])}, {n[6], n[8], moved(n[8])},
		// It is the cursor's own.
		{b, b, stays(b)}, {n[0], n[0], stays(n[0])}, {n[1], n[1], stays(n[1])}, {n[8], n[8], stays(n[8])},
		// It is below the cursor, or the beginning.
		{n[1], n[0], stays(n[1])}, {n[8], n[6], stays(n[8])}, {n[8], n[0], stays(n[8])}, {n[6], b, stays(n[6])}, {n[0], b, stays(n[0])}, {n[8], b, stays(n[8])},
		// It is above the cursor, and beside the head.
		{b, n[2], stays(b)}, {b, n[7], stays(b)}, {n[0], n[3], stays(n[0])}, {n[0], n[4], stays(n[0])}, {n[1], n[4], stays(n[1])},
		// It is beside both.
		{n[1], n[3], stays(n[1])}, {n[6], n[4], stays(n[6])}, {n[8], n[5], stays(n[8])}, {n[0], n[2], stays(n[0])},
		// It is not there.
		{b, s, stays(b)}, {n[1], s, stays(n[1])}, {n[8], s, stays(n[8])},
		// The cursor is beside the head, or not there: it is revoked, and goes up to what was found, if the head stands on that.
		{n[2], n[0], revoked(n[0])}, {n[5], n[8], revoked(n[8])}, {n[4], n[1], revoked(n[1])}, {n[9], n[6], revoked(n[6])}, {s, n[1], revoked(n[1])}, {n[3], n[0], revoked(n[0])},
		{n[2], n[2], revoked(b)}, {n[2], n[5], revoked(b)}, {n[5], n[2], revoked(b)}, {n[4], n[4], revoked(b)}, {n[4], n[9], revoked(b)}, {n[7], b, revoked(b)}, {n[3], s, revoked(b)}, {s, s, revoked(b)}, {s, n[2], revoked(b)}, {s, b, revoked(b)},
	} {
		a := asked{at(x.from), l, n[8], x.found, true, nine}
		if got := a.move(); got != x.want {
			t.Errorf("%d: it is %+v, not %+v", i, got, x.want)
		}
		// Where is is not set what was found is nothing.
		a.is = false
		want := stays(x.from)
		if x.want.Revoked > want.Revoked {
			want = revoked(b)
		}
		if got := a.move(); got != want {
			t.Errorf("%d: without is it is %+v, not %+v", i, got, want)
		}
	}
}

// P17.1: the head is 1, on which 4, 6 and 8 stand: what is above it is not under it, be it the cursor's ID or what was found.
func TestAboveHead(t *testing.T) {
	l := bush()
	n := names(l)
	for _, x := range []struct {
		from, found api.ID
		want        api.Cursor
	}{
		{n[6], n[8], revoked(beginning)}, {n[8], n[8], revoked(beginning)}, {n[8], n[6], revoked(beginning)}, {n[4], n[4], revoked(beginning)}, {n[8], beginning, revoked(beginning)},
		{n[8], n[1], revoked(n[1])}, {n[6], n[0], revoked(n[0])}, {n[4], n[1], revoked(n[1])},
		{n[1], n[6], stays(n[1])}, {n[1], n[8], stays(n[1])}, {n[0], n[4], stays(n[0])}, {beginning, n[8], stays(beginning)}, {n[1], n[1], stays(n[1])}, {n[0], n[1], moved(n[1])},
	} {
		asked{at(x.from), l, n[1], x.found, true, nine}.wants(t, x.want)
	}
}

// P17.1: with the beginning as head only a cursor there stays, and nothing that was found moves it.
func TestHeadIsBeginning(t *testing.T) {
	for _, l := range [][]api.Block{nil, {}, line(1), bush(), star(api.MaxBlocks)} {
		all := append(known(l), stranger)
		for _, found := range all {
			for _, is := range []bool{true, false} {
				for _, id := range all {
					want := revoked(beginning)
					if id == beginning {
						want = stays(beginning)
					}
					asked{at(id), l, beginning, found, is, nine}.wants(t, want)
				}
			}
		}
	}
}

// P17.1: with the cursor's own ID as head it stays, and nothing that was found moves it: all of it is below, above or beside.
func TestHeadIsOwn(t *testing.T) {
	for _, l := range [][]api.Block{nil, line(1), line(5), bush(), star(9)} {
		for _, id := range known(l) {
			for _, found := range append(known(l), unknown(l)...) {
				asked{at(id), l, id, found, true, nine}.wants(t, stays(id))
				asked{at(id), l, id, found, false, nine}.wants(t, stays(id))
			}
		}
	}
}

// P17.1: nothing is under a head that is not there: all cursors are revoked, also one at that head's ID and one at the beginning, and none moves.
func TestHeadIsNotThere(t *testing.T) {
	for _, l := range [][]api.Block{nil, {}, line(3), bush()} {
		for _, head := range unknown(l) {
			for _, id := range append(known(l), head, stranger) {
				for _, found := range append(known(l), head, stranger) {
					asked{at(id), l, head, found, true, nine}.wants(t, revoked(beginning))
					asked{at(id), l, head, found, false, nine}.wants(t, revoked(beginning))
				}
			}
		}
	}
}

// P17.1: a cursor whose ID is not there is revoked, though it differ from a block's name in a bit alone; so it is with what was found, which moves none.
func TestNotThere(t *testing.T) {
	l := bush()
	n := names(l)
	for _, id := range unknown(l) {
		asked{at(id), l, n[8], id, true, nine}.wants(t, revoked(beginning))
		asked{at(id), l, n[8], n[6], true, nine}.wants(t, revoked(n[6]))
		asked{at(id), l, n[8], n[6], false, nine}.wants(t, revoked(beginning))
		asked{at(n[0]), l, n[8], id, true, nine}.wants(t, stays(n[0]))
		asked{at(n[5]), l, n[8], id, true, nine}.wants(t, revoked(beginning))
	}
}

// P17.1: where there are no blocks only the beginning is under itself.
func TestNoBlocks(t *testing.T) {
	for _, l := range [][]api.Block{nil, {}, bush()[:0]} {
		asked{at(beginning), l, beginning, beginning, true, nine}.wants(t, stays(beginning))
		asked{at(stranger), l, beginning, stranger, true, nine}.wants(t, revoked(beginning))
		asked{at(beginning), l, stranger, stranger, true, nine}.wants(t, revoked(beginning))
		asked{at(stranger), l, stranger, stranger, true, nine}.wants(t, revoked(beginning))
	}
	asked{}.wants(t, api.Cursor{})
}

// P17.1, and P6.1: of blocks that may not be nothing is under anything: all cursors are revoked, also one at the beginning by that as head.
func TestWrongBlocks(t *testing.T) {
	for why, l := range wrongBlocks() {
		if tree.May(l) {
			t.Fatalf("%s may be", why)
		}
		all := append(known(l), names(bush())[8], stranger)
		for i, id := range all {
			for _, head := range all {
				asked{at(id), l, head, all[(i+3)%len(all)], true, nine}.wants(t, revoked(beginning))
				asked{at(id), l, head, head, true, nine}.wants(t, revoked(beginning))
				asked{at(id), l, head, head, false, nine}.wants(t, revoked(beginning))
			}
		}
	}
}

// P17.1: one that is revoked and then moves has the slot of now, and is revoked once more, as if it had only moved up from the beginning; where it was neither, it has its own slot still, though that be the slot of now or a later one.
func TestBothAtOnce(t *testing.T) {
	l := bush()
	n := names(l)
	for _, own := range numbers() {
		for _, slot := range numbers() {
			c := api.Cursor{ID: n[5], Slot: own, Revoked: 3}
			asked{c, l, n[8], n[6], true, slot}.wants(t, api.Cursor{ID: n[6], Slot: slot, Revoked: 4})
			asked{c, l, n[8], n[2], true, slot}.wants(t, api.Cursor{ID: beginning, Slot: slot, Revoked: 4})
			asked{c, l, n[5], n[2], true, slot}.wants(t, c)
			c.ID = n[0]
			asked{c, l, n[8], n[6], true, slot}.wants(t, api.Cursor{ID: n[6], Slot: slot, Revoked: 3})
			asked{c, l, n[8], n[6], false, slot}.wants(t, c)
		}
	}
}

// P17.1, and R7: slots and Revoked may be any whole numbers; one more than the greatest one is the least one.
func TestNumbers(t *testing.T) {
	l := bush()
	n := names(l)
	for _, times := range numbers() {
		more := times + 1
		if times == math.MaxInt {
			more = math.MinInt
		}
		for _, slot := range numbers() {
			for _, own := range []int{math.MinInt, -1, 0, 1, slot, math.MaxInt} {
				for _, id := range []api.ID{beginning, n[0], n[2], n[6], stranger} {
					for _, found := range []api.ID{beginning, n[1], n[2], n[8]} {
						asked{api.Cursor{ID: id, Slot: own, Revoked: times}, l, n[8], found, slot%2 == 0, slot}.check(t)
					}
				}
				asked{api.Cursor{ID: n[5], Slot: own, Revoked: times}, l, n[8], n[5], true, slot}.wants(t, api.Cursor{Slot: slot, Revoked: more})
				asked{api.Cursor{ID: n[5], Slot: own, Revoked: times}, l, n[8], n[8], true, slot}.wants(t, api.Cursor{ID: n[8], Slot: slot, Revoked: more})
				asked{api.Cursor{ID: n[6], Slot: own, Revoked: times}, l, n[8], n[8], true, slot}.wants(t, api.Cursor{ID: n[8], Slot: slot, Revoked: times})
				asked{api.Cursor{ID: n[6], Slot: own, Revoked: times}, l, n[8], n[1], true, slot}.wants(t, api.Cursor{ID: n[6], Slot: own, Revoked: times})
			}
		}
	}
}

// P17.1: the slots of blocks are nothing to it: only what stands on what.
func TestSlotsOfBlocks(t *testing.T) {
	low := api.Block{Slot: 1 << 40, From: math.MinInt, Salt: top}
	high := api.Block{Slot: math.MaxInt, From: math.MaxInt, Parent: tree.Name(low)}
	beside := api.Block{Slot: 1, From: -1}
	l := []api.Block{low, beside, high}
	n := names(l)
	for _, slot := range numbers() {
		asked{at(n[0]), l, n[2], n[2], true, slot}.wants(t, api.Cursor{ID: n[2], Slot: slot, Revoked: 2001})
		asked{at(n[1]), l, n[2], n[0], true, slot}.wants(t, api.Cursor{ID: n[0], Slot: slot, Revoked: 2002})
		asked{at(n[2]), l, n[1], n[0], true, slot}.wants(t, api.Cursor{ID: beginning, Slot: slot, Revoked: 2002})
	}
}

// P17.1: all trees of up to four blocks, with each ID, and one that is not there, as the cursor's, the head and what was found.
func TestSmall(t *testing.T) {
	for _, l := range smallTrees() {
		all := append(known(l), stranger)
		for _, id := range all {
			for _, head := range all {
				for _, found := range all {
					for i, slot := range []int{0, 1, 2, 1001} {
						asked{at(id), l, head, found, i%2 == 0, slot}.check(t)
						asked{api.Cursor{ID: id, Slot: slot, Revoked: i}, l, head, found, i%2 == 1, nine}.check(t)
					}
				}
			}
		}
	}
}

// P17.1: each three IDs of the bush, of a line and of a star, is set and not set.
func TestEachThree(t *testing.T) {
	for _, l := range [][]api.Block{bush(), line(8), star(8)} {
		all := append(known(l), stranger)
		for _, id := range all {
			for _, head := range all {
				for _, found := range all {
					asked{at(id), l, head, found, true, nine}.check(t)
					asked{at(id), l, head, found, false, nine}.check(t)
				}
			}
		}
	}
}

// P17.1: blocks and IDs by pseudo-chance, against a plain going along the chains, in whatever order the blocks stand; often enough each of the four things comes to be.
func TestMany(t *testing.T) {
	var stayed, rose, fell, both int
	for seed := range uint64(300) {
		l := someBlocks(seed)
		all := append(known(l), stranger)
		turned := shuffled(l, seed)
		for i := range 20 {
			id, head, found := all[some(seed, 200+i, len(all))], all[len(all)-1-some(seed, 300+i, 9)%len(all)], all[some(seed, 400+i, len(all))]
			a := asked{at(id), l, head, found, i%4 > 0, nine}
			a.check(t)
			switch c := a.move(); {
			case c == a.c:
				stayed++
			case c.Revoked == a.c.Revoked:
				rose++
			case c.ID == beginning:
				fell++
			default:
				both++
			}
			want := a.move()
			a.l = turned
			a.wants(t, want)
		}
	}
	if min(stayed, rose, fell, both) < 300 {
		t.Errorf("only %d, %d, %d and %d", stayed, rose, fell, both)
	}
}

// P17.1, and P1: of far more blocks than a view may have it tells in good time.
func TestFarMore(t *testing.T) {
	const high = 1 << 14
	l := append(line(high), api.Block{Slot: 1, Salt: 77})
	all := known(l)
	beside := all[high+1]
	for _, head := range []int{1, high / 2, high} {
		asked{at(beginning), l, all[head], all[head], true, nine}.wants(t, moved(all[head]))
		asked{at(all[head/2]), l, all[head], all[head/2+1], true, nine}.wants(t, moved(all[head/2+1]))
		asked{at(all[head]), l, all[head], all[head-1], true, nine}.wants(t, stays(all[head]))
		asked{at(beside), l, all[head], all[head-1], true, nine}.wants(t, revoked(all[head-1]))
		asked{at(beside), l, all[head], beside, true, nine}.wants(t, revoked(beginning))
		asked{at(all[head]), l, beside, all[head], true, nine}.wants(t, revoked(beginning))
	}
}

// P17.1: IDs are told apart by both words: the blocks were searched for, so that each has one word of its name from what it stands on.
func TestOneWordAlike(t *testing.T) {
	low := api.Block{Slot: 1}
	for word, salt := range []uint64{5875036217894973696, 12443267887753845491} {
		l := []api.Block{low, {Slot: 2, Parent: tree.Name(low), Salt: salt}}
		n := names(l)
		if n[0][word] != n[1][word] {
			t.Fatalf("their names are %x", n)
		}
		asked{at(n[0]), l, n[1], n[1], true, nine}.wants(t, moved(n[1]))
		asked{at(n[1]), l, n[1], n[0], true, nine}.wants(t, stays(n[1]))
		asked{at(n[1]), l, n[0], n[1], true, nine}.wants(t, revoked(beginning))
		asked{at(n[1]), l, n[0], n[0], true, nine}.wants(t, revoked(n[0]))
	}
}
