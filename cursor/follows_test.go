package cursor_test

import (
	"slices"
	"sync"
	"testing"

	"marigold/api"
	"marigold/cursor"
	"marigold/tree"
)

// someAsked are calls by words that hang on the seed alone; of four one has no found block.
func someAsked(seed uint64, head api.ID) []asked {
	l := someBlocks(seed)
	all := append(known(l), stranger)
	var asks []asked
	for i := range 12 {
		id, found := all[some(seed, 500+i, len(all))], all[some(seed, 600+i, len(all))]
		asks = append(asks, asked{at(id), l, head, found, i%4 > 0, nine})
	}
	return asks
}

// P17.2: where the head is known the cursor is under it behind the call; it is revoked just if it was not under it ahead, and else it stays, or moves up to what was found.
func TestFollows(t *testing.T) {
	var lost, up int
	for seed := range uint64(120) {
		for _, head := range known(someBlocks(seed)) {
			for _, a := range someAsked(seed, head) {
				was, c := tree.Under(a.l, a.c.ID, head), a.move()
				if !tree.Under(a.l, c.ID, head) || was != (c.Revoked == a.c.Revoked) || !was != (c.Revoked == a.c.Revoked+1) {
					t.Fatalf("%+v: it is %+v", a, c)
				}
				if was && (!tree.Under(a.l, a.c.ID, c.ID) || c != a.c && (c.ID != a.found || !a.is)) {
					t.Fatalf("%+v: without a revocation it is %+v", a, c)
				}
				if !was {
					lost++
				} else if c != a.c {
					up++
				}
			}
		}
	}
	if lost < 300 || up < 30 {
		t.Errorf("only %d were lost, and %d moved up", lost, up)
	}
}

// P17.2: so it is of all trees of up to four blocks, of each ID that is there as head.
func TestFollowsOfSmall(t *testing.T) {
	for _, l := range smallTrees() {
		for _, head := range known(l) {
			chain := chainOf(l, head)
			for _, id := range append(known(l), stranger) {
				for _, found := range append(known(l), stranger) {
					for _, is := range []bool{true, false} {
						a := asked{at(id), l, head, found, is, nine}
						c := a.move()
						was, now := slices.Index(chain, id), slices.Index(chain, c.ID)
						if now < 0 || (was < 0) != (c.Revoked > a.c.Revoked) || was >= 0 && now > was {
							t.Fatalf("%+v: it is %+v", a, c)
						}
					}
				}
			}
		}
	}
}

// P17.2: the same call again changes nothing, where the head is known, whatever the slot is then.
func TestAgain(t *testing.T) {
	for seed := range uint64(120) {
		for _, head := range known(someBlocks(seed)) {
			for _, a := range someAsked(seed, head)[:6] {
				a.c = a.move()
				a.wants(t, a.c)
				a.slot++
				a.wants(t, a.c)
			}
		}
	}
}

// P17.1: where the head is not known the same call again revokes once more each time, since not even the beginning is under it.
func TestAgainUnknown(t *testing.T) {
	l := bush()
	for _, blocks := range [][]api.Block{l, l[1:], nil} {
		c := api.Cursor{ID: names(l)[1], Slot: 1}
		for i := 1; i < 10; i++ {
			c = cursor.Move(c, blocks, stranger, names(l)[1], true, 20-i)
			if want := (api.Cursor{Slot: 20 - i, Revoked: i}); c != want {
				t.Fatalf("it is %+v, not %+v", c, want)
			}
		}
	}
}

// P17.2: by heads each of which stands on the one ahead, or is that, no cursor is ever revoked, while blocks come, whatever is found; and it never goes down.
func TestNeverRevoked(t *testing.T) {
	up := 0
	for seed := range uint64(200) {
		l := someBlocks(seed)
		all := append(known(l), stranger)
		way := chainOf(l, all[len(all)-2])
		slices.Reverse(way)
		c := api.Cursor{}
		for slot, place := 0, 0; place < len(way); place += some(seed, 700+slot, 3) {
			// Only what stands up to the head is known by now, and some more.
			seen := l[:max(tree.Find(l, way[place])+1, len(l)-some(seed, 800+slot, len(l)))]
			next := cursor.Move(c, seen, way[place], all[some(seed, 900+slot, len(all))], true, slot)
			if next.Revoked != 0 || !tree.Under(l, c.ID, next.ID) || next.Slot < c.Slot {
				t.Fatalf("%d: %+v became %+v", seed, c, next)
			}
			if next.ID != c.ID {
				up++
			}
			c = next
			slot++
		}
	}
	if up < 200 {
		t.Errorf("only %d moved up", up)
	}
}

// P17.2: by heads of any way a cursor is revoked as often as the head leaves it.
func TestAsOftenAsLeft(t *testing.T) {
	l := bush()
	n := names(l)
	c := api.Cursor{}
	for slot, x := range []struct {
		head, found, id api.ID
		revoked         int
	}{
		{n[0], n[0], n[0], 0}, {n[8], n[6], n[6], 0}, {n[8], n[0], n[6], 0}, {n[4], n[4], n[4], 1}, {n[1], n[4], beginning, 2}, {n[8], n[5], beginning, 2},
		{n[5], n[5], n[5], 2}, {n[2], n[2], n[2], 3}, {n[7], n[2], beginning, 4}, {n[7], n[7], n[7], 4}, {beginning, n[7], beginning, 5}, {n[9], n[9], n[9], 5}, {n[9], n[9], n[9], 5},
	} {
		was := c
		c = cursor.Move(c, l, x.head, x.found, true, slot)
		if c.ID != x.id || c.Revoked != x.revoked || c != was && c.Slot != slot {
			t.Fatalf("%d: it is %+v", slot, c)
		}
	}
}

// R3: the list that is handed in stays as it was, also behind its end, whether a cursor stays, moves or is revoked.
func TestHandedInStays(t *testing.T) {
	l := bush()
	for k := range len(l) + 1 {
		all := append(known(l), stranger)
		for i, id := range all {
			for j, head := range all {
				asked{at(id), l[:k], head, all[(i+j)%len(all)], true, nine}.move()
			}
		}
	}
	for why, wrong := range wrongBlocks() {
		asked{at(stranger), wrong, stranger, stranger, true, nine}.move()
		if !slices.Equal(wrong, wrongBlocks()[why]) {
			t.Errorf("%s: it became %v", why, wrong)
		}
	}
	if !slices.Equal(l, bush()) {
		t.Errorf("it became %v", l)
	}
}

// R3, R5: later changes to the list change nothing of what was answered, but what is answered later.
func TestChangedLater(t *testing.T) {
	l := bush()
	n := names(l)
	a := asked{at(n[0]), l, n[8], n[6], true, nine}
	c := a.move()
	l[7] = api.Block{}
	if c != moved(n[6]) {
		t.Errorf("it became %+v", c)
	}
	a.wants(t, revoked(beginning))
	l[7] = bush()[7]
	a.wants(t, moved(n[6]))
}

// R5: nothing hangs on what was asked before, or by whom at the same time.
func TestManyAsk(t *testing.T) {
	l := bush()
	all := append(known(l), stranger)
	var group sync.WaitGroup
	for i := range 8 {
		group.Go(func() {
			for k := range 200 {
				asked{at(all[(i+k)%len(all)]), l, all[(i*k)%len(all)], all[(k/3)%len(all)], k%5 > 0, k}.check(t)
			}
		})
	}
	group.Wait()
}
