package view_test

import (
	"cmp"
	"slices"
	"sync"
	"testing"

	"marigold/api"
	"marigold/tree"
	"marigold/view"
)

// sorted is w in an order that hangs on what is there alone.
func sorted(w api.View) api.View {
	w = copyOf(w)
	slices.SortFunc(w.B, func(a, b api.Block) int {
		x, y := tree.Name(a), tree.Name(b)
		return slices.Compare(x[:], y[:])
	})
	slices.SortFunc(w.V, func(a, b api.Vote) int {
		return cmp.Or(cmp.Compare(a.From, b.From), cmp.Compare(a.Slot, b.Slot), slices.Compare(a.Head[:], b.Head[:]))
	})
	return w
}

// reached is what is counted of w and of what comes, if there is room for all of it: each block that may come and stands on something that is reached, and each vote that may come for that, whatever order they are in.
func reached(c api.Conf, w, in api.View, slot int) api.View {
	slots := map[api.ID]int{beginning: 0}
	for _, b := range w.B {
		slots[tree.Name(b)] = b.Slot
	}
	all := copyOf(w)
	var reach func(id api.ID)
	reach = func(id api.ID) {
		for _, b := range in.B {
			_, have := slots[tree.Name(b)]
			if b.Parent == id && slots[id] < b.Slot && b.Slot <= slot && !have && blockMay(c, b) {
				slots[tree.Name(b)] = b.Slot
				all.B = append(all.B, b)
				reach(tree.Name(b))
			}
		}
	}
	for _, id := range append(names(w.B), beginning) {
		reach(id)
	}
	for _, v := range in.V {
		of, is := slots[v.Head]
		if is && of <= v.Slot && v.Slot <= slot && voteMay(c, v) && !slices.Contains(all.V, v) {
			all.V = append(all.V, v)
		}
	}
	return sorted(all)
}

// roomy is asked of a view that may be, where there is room for all that comes.
func roomy(seed uint64) asked {
	a := asked{c: someConf(seed), slot: some(seed, 600, 60)}
	l := someBlocks(a.c, seed, some(seed, 601, 50))
	a.in = api.View{B: l, V: someVotes(a.c, seed, l, some(seed, 602, 200))}
	first := api.View{B: l[:some(seed, 603, len(l)+1)], V: a.in.V[:some(seed, 604, len(a.in.V)+1)]}
	a.w = asked{a.c, api.View{}, first, some(seed, 605, 60)}.take().w
	return a
}

// checkCounted holds that just these are counted, in whatever order.
func (a asked) checkCounted(t *testing.T, want api.View) {
	t.Helper()
	if got := a.take(); (!same(sorted(got.w), want) || got.full) && !t.Failed() {
		t.Errorf("%v: counted are %v, not %v; full is %t", a, got.w, want, got.full)
	}
}

// P16.3: a view that may be stays so, and begins by what it was; each thing that came is in it, or left, or lost, and nothing else is in it, nor left.
func TestViewStays(t *testing.T) {
	counted := 0
	for seed := range uint64(400) {
		a := someAsked(seed)
		if !view.May(a.c, a.w) {
			continue
		}
		x := a.take()
		if !view.May(a.c, x.w) {
			t.Fatalf("%v: %v may not be", a, x.w)
		}
		n, k := len(a.w.B), len(a.w.V)
		if !slices.Equal(x.w.B[:n], a.w.B) || !slices.Equal(x.w.V[:k], a.w.V) {
			t.Fatalf("%v: %v does not begin by what it was", a, x.w)
		}
		counted += len(x.w.B) - n
		came := onlyOf(a.c, a.in)
		for _, b := range slices.Concat(x.w.B[n:], x.left.B) {
			if !slices.Contains(came.B, b) {
				t.Fatalf("%v: %v did not come", a, b)
			}
		}
		for _, v := range slices.Concat(x.w.V[k:], x.left.V) {
			if !slices.Contains(came.V, v) {
				t.Fatalf("%v: %v did not come", a, v)
			}
		}
		a.checkGone(t, x)
	}
	if counted < 2000 {
		t.Errorf("only %d were counted", counted)
	}
}

// checkGone holds that what is neither counted nor left was lost, and that what is left was not.
func (a asked) checkGone(t *testing.T, x taken) {
	t.Helper()
	came := onlyOf(a.c, a.in)
	for _, b := range came.B {
		slot, is := tree.Slot(x.w.B, b.Parent)
		gone := tree.Find(x.w.B, tree.Name(b)) >= 0 || is && slot >= b.Slot
		if gone == slices.Contains(x.left.B, b) {
			t.Fatalf("%v: that %v is lost, or counted, is %t", a, b, gone)
		}
	}
	for _, v := range came.V {
		slot, is := tree.Slot(x.w.B, v.Head)
		gone := slices.Contains(x.w.V, v) || is && slot > v.Slot
		if gone == slices.Contains(x.left.V, v) {
			t.Fatalf("%v: that %v is lost, or counted, is %t", a, v, gone)
		}
	}
}

// P16.3: whatever comes in a row, in slots that rise or fall, the view may be, and what it had once it has ever after.
func TestViewGrows(t *testing.T) {
	for seed := range uint64(40) {
		c := someConf(seed)
		var x taken
		for turn := range 12 {
			in := someView(c, seed+uint64(turn%3)<<32)
			i, k := some(seed, 700+turn, len(in.B)+1), some(seed, 720+turn, len(in.V)+1)
			before := x.w
			came := api.View{B: in.B[i:], V: in.V[k:]}
			x = asked{c, x.w, view.Join(x.left, came), some(seed, 740+turn, 70)}.take()
			if !view.May(c, x.w) || !same(api.View{B: x.w.B[:len(before.B)], V: x.w.V[:len(before.V)]}, before) {
				t.Fatalf("%v became %v", before, x.w)
			}
		}
	}
}

// P16.3: with room the order of what comes does not matter to what is counted, nor does what comes twice.
func TestOrder(t *testing.T) {
	counted := 0
	for seed := range uint64(150) {
		a := roomy(seed)
		want := reached(a.c, a.w, a.in, a.slot)
		counted += len(want.B) - len(a.w.B)
		a.checkCounted(t, want)
		left := sorted(a.take().left)
		for turn := range uint64(6) {
			b := a
			b.in = mixedView(a.in, turn)
			b.checkCounted(t, want)
			if got := b.take().left; !same(sorted(got), left) && !t.Failed() {
				t.Errorf("%v: left are %v, not %v", b, got, left)
			}
			b.in = mixedView(both(a.in, a.in), turn)
			b.checkCounted(t, want)
			b.in = mixedView(both(a.in, a.w), turn)
			b.checkCounted(t, want)
		}
		b := a
		b.in = api.View{B: turned(a.in.B), V: turned(a.in.V)}
		b.checkCounted(t, want)
		b.in = view.Join(api.View{}, a.in)
		b.checkCounted(t, want)
		b.in = view.Only(a.c, a.in)
		b.checkCounted(t, want)
	}
	if counted < 1000 {
		t.Errorf("only %d were counted", counted)
	}
}

// P16.3: all orders of six blocks, of which some wait for others, and of four votes.
func TestAllOrders(t *testing.T) {
	c := five()
	l := grow(c, -1, 0, 1, 1, -1)
	n := names(l)
	l = append(l, block(c, 1, n[3], 0))
	v := []api.Vote{{From: 0, Slot: 5, Head: n[2]}, {From: 0, Slot: 1, Head: n[4]}, {From: 2, Slot: 5, Head: n[4]}, {From: 2, Slot: 5}}
	var want api.View
	want.B, want.V = l[:5], []api.Vote{v[0], v[2], v[3]}
	want = sorted(want)
	votes := orders(v)
	for i, some := range orders(l) {
		a := asked{c, api.View{}, api.View{B: some, V: votes[i%len(votes)]}, 5}
		a.checkCounted(t, want)
		if x := a.take(); len(x.left.B)+len(x.left.V) > 0 {
			t.Fatalf("%v: left are %v", a, x.left)
		}
	}
}

// orders are all orders of l.
func orders[T any](l []T) [][]T {
	if len(l) == 0 {
		return [][]T{nil}
	}
	var all [][]T
	for _, some := range orders(l[1:]) {
		for i := range len(l) {
			all = append(all, slices.Insert(slices.Clone(some), i, l[0]))
		}
	}
	return all
}

// P16.3: with room it does not matter in how many parts it comes, if what was left comes with the next one, nor how often a part comes.
func TestParts(t *testing.T) {
	for seed := range uint64(150) {
		a := roomy(seed)
		want := reached(a.c, a.w, a.in, a.slot)
		for turn := range uint64(4) {
			in := mixedView(a.in, turn)
			x := taken{w: a.w}
			for len(in.B)+len(in.V) > 0 {
				i, k := (1+len(in.B))/2, (2+len(in.V))/3
				part := api.View{B: in.B[:i], V: in.V[:k]}
				in = api.View{B: in.B[i:], V: in.V[k:]}
				x = asked{a.c, x.w, view.Join(x.left, part), a.slot}.take()
				x = asked{a.c, x.w, both(part, x.left), a.slot}.take()
			}
			if (!same(sorted(x.w), want) || x.full) && !t.Failed() {
				t.Errorf("%v: in parts counted are %v, not %v", a, x.w, want)
			}
		}
	}
}

// P16.3: one by one, each with all that was left.
func TestOneByOne(t *testing.T) {
	for seed := range uint64(60) {
		a := roomy(seed)
		x := taken{w: a.w}
		for _, v := range a.in.V {
			x = asked{a.c, x.w, both(x.left, cast(v)), a.slot}.take()
		}
		for _, b := range turned(a.in.B) {
			x = asked{a.c, x.w, both(of(b), x.left), a.slot}.take()
		}
		if want := reached(a.c, a.w, a.in, a.slot); !same(sorted(x.w), want) && !t.Failed() {
			t.Errorf("%v: one by one counted are %v, not %v", a, x.w, want)
		}
	}
}

// P16.3: with room it does not matter whether slots go by between: what was left is counted in a later one as if it came then.
func TestSlotsBetween(t *testing.T) {
	for seed := range uint64(100) {
		a := roomy(seed)
		x := taken{w: a.w, left: a.in}
		for slot := range a.slot + 1 {
			x = asked{a.c, x.w, x.left, slot}.take()
			if want := reached(a.c, a.w, a.in, slot); !same(sorted(x.w), want) && !t.Failed() {
				t.Errorf("%v: in slot %d counted are %v, not %v", a, slot, x.w, want)
			}
		}
		if got := a.take(); !same(sorted(got.w), sorted(x.w)) || !same(sorted(got.left), sorted(x.left)) {
			t.Errorf("%v: at once it is %v, in all slots %v", a, got, x)
		}
	}
}

// P16.3: what one view counted is so by any other one to which it comes, in whatever order; two that all of each other comes to count the same.
func TestEachOther(t *testing.T) {
	met := 0
	for seed := range uint64(150) {
		a := roomy(seed)
		c := a.c
		half := func(turn uint64) api.View {
			in := mixedView(a.in, turn)
			return asked{c, api.View{}, api.View{B: in.B[:len(in.B)*3/4], V: in.V[:len(in.V)*3/4]}, 10 + some(seed, 800+int(turn), 60)}.take().w
		}
		x, y := half(1), half(2)
		all := sorted(joinOf(x, y))
		asked{c, x, y, 100}.checkTake(t, taken{w: asked{c, x, y, 100}.plainly().w})
		for turn := range uint64(4) {
			asked{c, x, mixedView(y, turn), 100}.checkCounted(t, all)
			asked{c, y, mixedView(x, turn), 100}.checkCounted(t, all)
			asked{c, api.View{}, mixedView(both(x, y), turn), 100}.checkCounted(t, all)
		}
		if !same(sorted(x), sorted(y)) && len(all.B) > 0 {
			met++
		}
	}
	if met < 100 {
		t.Errorf("only %d were not the same", met)
	}
}

// P16.3: where two blocks have one name two views may each keep the one that came first, and a view that one is in loses the other one.
func TestTwinsApart(t *testing.T) {
	c := five()
	p, x := parentsOfTwins(), twins()
	a, b := of(append(p, x[0])...), of(p[1], p[0], x[1])
	asked{c, a, b, 9}.checkTake(t, taken{w: a})
	asked{c, b, a, 9}.checkTake(t, taken{w: b})
	v := castBy([]int{2, 3}, 3, tree.Name(x[0]))
	a.V = v
	asked{c, b, a, 9}.checkTake(t, taken{w: api.View{B: b.B, V: v}})
}

// P16.3: nobody can keep blocks or votes from being counted by others, if once one view counts them; what can't be counted by one yet is so by all as soon as it can.
func TestPassedOn(t *testing.T) {
	c := five()
	l := bush(c)
	v := append(castBy([]int{0, 2}, 7, names(l)[3]), castBy([]int{1, 3, 4}, 6, names(l)[5])...)
	first := asked{c, api.View{}, api.View{B: turned(l), V: turned(v)}, 20}.take()
	for i := range 4 {
		part := api.View{B: l[i*2 : i*2+3], V: v[i : i+1]}
		next := asked{c, api.View{}, part, 20}.take()
		next = asked{c, next.w, both(next.left, first.w), 20}.take()
		if !same(sorted(next.w), sorted(api.View{B: l, V: v})) || len(next.left.B)+len(next.left.V) > 0 {
			t.Errorf("%d: %v", i, next)
		}
	}
}

// room is l with room behind it, in which there is something.
func room[T any](l []T, behind T) []T {
	more := append(slices.Clone(l), behind, behind, behind)
	return more[:len(l)]
}

// R3: what is handed in stays as it was, also behind the end of a list.
func TestHandedInStays(t *testing.T) {
	c := five()
	c.W = room(c.W, 99)[:5]
	odd, strange := api.Block{Slot: -5, From: 77, Salt: 1}, api.Vote{Slot: -5, From: 77}
	for seed := range uint64(80) {
		in := someView(five(), seed)
		ws := []api.View{{}, asked{five(), api.View{}, in, 20}.plainly().w, in, of(star(five(), 61)...)}
		for _, w := range ws {
			a, b := api.View{B: room(w.B, odd), V: room(w.V, strange)}, api.View{B: room(in.B, odd), V: room(in.V, strange)}
			view.May(c, a)
			view.Only(c, b)
			view.Join(a, b)
			view.Join(b, a)
			view.Take(c, a, b, int(seed))
			view.Take(c, b, a, int(seed))
			view.Take(c, b, b, int(seed))
			if !same(a, w) || !same(b, in) || !slices.Equal(c.W, five().W) {
				t.Fatalf("they became %v, %v, %v", c, a, b)
			}
			for i := range 3 {
				if a.B[:len(a.B)+3][len(a.B)+i] != odd || b.B[:len(b.B)+3][len(b.B)+i] != odd || a.V[:len(a.V)+3][len(a.V)+i] != strange || b.V[:len(b.V)+3][len(b.V)+i] != strange {
					t.Fatalf("what is behind %v, or %v, is another one", a, b)
				}
			}
		}
	}
	if !slices.Equal(c.W[:8], append(five().W, 99, 99, 99)) {
		t.Errorf("the weights became %v", c.W[:8])
	}
}

// spoil changes all that can be come to from a view.
func spoil(w api.View) {
	clear(w.B[:cap(w.B)])
	clear(w.V[:cap(w.V)])
}

// checkApart holds that of all of these, each of which is by now as it was first, none changes while another one is spoilt.
func checkApart(t *testing.T, what string, all ...api.View) {
	t.Helper()
	for i := range all {
		var kept []api.View
		for _, w := range all {
			kept = append(kept, copyOf(w))
		}
		whole := copyOf(all[i])
		spoil(all[i])
		for k := range all {
			if k != i && !same(all[k], kept[k]) {
				t.Fatalf("%s: what is handed in, or answered, at %d became %v by a change at %d", what, k, all[k], i)
			}
		}
		copy(all[i].B, whole.B)
		copy(all[i].V, whole.V)
	}
}

// R3: later changes to what was handed in change nothing of what was answered, nor do those to one answer of another one, or of what was handed in: also where all of it is answered as it was.
func TestAnswersApart(t *testing.T) {
	c := five()
	w := asked{c, api.View{}, api.View{B: bush(c), V: many(c, 20)}, 20}.plainly().w
	more := api.View{B: append(star(c, 3)[1:], block(c, 15, stranger, 0)), V: []api.Vote{{From: 0, Slot: 12}, {From: 0, Slot: 12, Head: stranger}}}
	bad := both(w, w)
	for _, in := range []api.View{more, w, both(more, w), of(star(c, 90)...), cast(many(c, 300)...), {}} {
		for _, from := range []api.View{w, bad, {}, of(w.B...), cast(w.V...)} {
			a, b := api.View{B: room(from.B, api.Block{}), V: room(from.V, api.Vote{})}, api.View{B: room(in.B, api.Block{}), V: room(in.V, api.Vote{})}
			checkApart(t, "Join", a, b, view.Join(a, b), view.Join(b, a), view.Join(a, b), view.Join(a, api.View{}), view.Join(api.View{}, b))
			checkApart(t, "Only", a, b, view.Only(c, a), view.Only(c, b), view.Only(c, b))
			for _, slot := range []int{0, 5, 20} {
				x, left, _ := view.Take(c, a, b, slot)
				y, rest, _ := view.Take(c, a, b, slot)
				z, last, _ := view.Take(c, a, a, slot)
				checkApart(t, "Take", a, b, x, left, y, rest, z, last)
			}
		}
	}
}

// R3: one view handed in as both is not shared by both answers.
func TestOneAsBoth(t *testing.T) {
	c := five()
	bad := of(bush(c)[1:]...)
	w, left, full := view.Take(c, bad, bad, 9)
	if !same(w, bad) || !same(left, bad) || full {
		t.Fatalf("%v, %v, %t", w, left, full)
	}
	clear(w.B)
	if want := of(bush(c)[1:]...); !same(left, want) || !same(bad, want) {
		t.Errorf("they became %v, and %v", left, bad)
	}
	good := of(bush(c)...)
	asked{c, good, good, 20}.checkTake(t, taken{w: good})
}

// R5: nothing hangs on what was asked before, or by whom at the same time.
func TestManyAsk(t *testing.T) {
	a := someAsked(5)
	var all sync.WaitGroup
	for i := range 8 {
		all.Go(func() {
			for k := range 10 {
				b := a
				b.slot = i * k % 40
				b.check(t)
				someAsked(uint64(i * k)).check(t)
			}
		})
	}
	all.Wait()
}
