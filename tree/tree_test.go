package tree_test

import (
	"math"
	"slices"
	"sync"
	"testing"

	"marigold/api"
	"marigold/mix"
	"marigold/tree"
)

const top = 1<<64 - 1

// beginning is spelt out here once more, as the document has it.
var beginning = api.ID{0, 0}

// nameOf says the same as the chapter's word NAME, without the package's help.
func nameOf(b api.Block) api.ID {
	return mix.Of([]uint64{1, uint64(b.Slot), uint64(b.From), b.Parent[0], b.Parent[1], b.Salt})
}

// mayOf says the same as BLOCKS MAY BE, holding each block against each other one.
func mayOf(l []api.Block) bool {
	for i, b := range l {
		parent := b.Parent == beginning
		for j, other := range l {
			if i != j && nameOf(b) == nameOf(other) {
				return false
			}
			parent = parent || j < i && b.Parent == nameOf(other) && other.Slot < b.Slot
		}
		if nameOf(b) == beginning || b.Slot < 1 || !parent {
			return false
		}
	}
	return true
}

// findOf is where the block of that Name is, by going through l.
func findOf(l []api.Block, id api.ID) int {
	return slices.IndexFunc(l, func(b api.Block) bool { return nameOf(b) == id })
}

// chainOf says the same as P6.2, a block at a time.
func chainOf(l []api.Block, id api.ID) []api.ID {
	if id == beginning {
		return []api.ID{beginning}
	}
	if i := findOf(l, id); i >= 0 {
		return append([]api.ID{id}, chainOf(l, l[i].Parent)...)
	}
	return nil
}

// kidsOf says the same as P6.2: whose chain has id at the second place.
func kidsOf(l []api.Block, id api.ID) []api.ID {
	var kids []api.ID
	for _, b := range l {
		if x := chainOf(l, nameOf(b)); len(x) > 1 && x[1] == id {
			kids = append(kids, nameOf(b))
		}
	}
	return kids
}

// strangers are neither the beginning nor a Name of any block here; the last ones differ from these in a word or a bit.
func strangers(l []api.Block) []api.ID {
	all := []api.ID{{0, 1}, {1, 0}, {1, 1}, {5, 5}, {top, top}, {0, top}, {top, 0}, {1 << 63, 1 << 63}, nameOf(api.Block{Slot: 999, From: 999})}
	for _, b := range l {
		x := nameOf(b)
		all = append(all, api.ID{x[1], x[0]}, api.ID{x[0], 0}, api.ID{0, x[1]}, api.ID{x[0], x[1] ^ 1}, api.ID{x[0] ^ 1<<63, x[1]})
	}
	return all
}

// ids are the beginning, all Names, and strangers.
func ids(l []api.Block) []api.ID {
	all := []api.ID{beginning}
	for _, b := range l {
		all = append(all, nameOf(b))
	}
	return append(all, strangers(l)...)
}

// checkNothing holds all calls against what is told of blocks that may not be.
func checkNothing(t *testing.T, l []api.Block, asked []api.ID) {
	t.Helper()
	if tree.May(l) {
		t.Errorf("%v may be", l)
		return // a chain of such blocks might have no end
	}
	for _, id := range asked {
		if i := tree.Find(l, id); i != -1 {
			t.Errorf("%v: %x is at %d", l, id, i)
		}
		if s, is := tree.Slot(l, id); s != 0 || is {
			t.Errorf("%v: %x has slot %d, %t", l, id, s, is)
		}
		if x := tree.Kids(l, id); len(x) != 0 {
			t.Errorf("%v: on %x stand %x", l, id, x)
		}
		if x := tree.Chain(l, id); len(x) != 0 {
			t.Errorf("%v: the chain of %x is %x", l, id, x)
		}
		for _, low := range asked {
			if tree.Under(l, low, id) {
				t.Errorf("%v: %x is under %x", l, low, id)
			}
		}
	}
}

// checkAll holds all calls against a plain going through the blocks.
func checkAll(t *testing.T, l []api.Block) {
	t.Helper()
	asked := ids(l)
	if !mayOf(l) {
		checkNothing(t, l, asked)
		return
	}
	if !tree.May(l) {
		t.Errorf("%v may not be", l)
	}
	for _, id := range asked {
		i, chain := findOf(l, id), chainOf(l, id)
		if got := tree.Find(l, id); got != i {
			t.Errorf("%v: %x is at %d, not %d", l, id, got, i)
		}
		slot, known := 0, id == beginning || i >= 0
		if i >= 0 {
			slot = l[i].Slot
		}
		if got, is := tree.Slot(l, id); got != slot || is != known {
			t.Errorf("%v: %x has slot %d, %t, not %d, %t", l, id, got, is, slot, known)
		}
		if got, want := tree.Kids(l, id), kidsOf(l, id); !slices.Equal(got, want) {
			t.Errorf("%v: on %x stand %x, not %x", l, id, got, want)
		}
		if got := tree.Chain(l, id); !slices.Equal(got, chain) {
			t.Errorf("%v: the chain of %x is %x, not %x", l, id, got, chain)
		}
		for _, low := range asked {
			if got := tree.Under(l, low, id); got != slices.Contains(chain, low) {
				t.Errorf("%v: %x is under %x: %t", l, low, id, got)
			}
		}
	}
}

// grow makes blocks by where their parents are (-1: on the beginning), each with the slot and a salt of its own.
func grow(parents, slots []int) []api.Block {
	var l []api.Block
	for i, p := range parents {
		b := api.Block{Slot: slots[i], From: i, Salt: uint64(i)}
		if p >= 0 {
			b.Parent = nameOf(l[p])
		}
		l = append(l, b)
	}
	return l
}

// line is n blocks, each on the one ahead of it.
func line(n int) []api.Block {
	l := make([]api.Block, n)
	var last api.ID
	for i := range l {
		l[i] = api.Block{Slot: 2*i + 1, From: i % 12, Parent: last}
		last = tree.Name(l[i])
	}
	return l
}

// bush has forks at several heights, and three blocks on the beginning, in an order that neither slots nor Names have.
func bush() []api.Block {
	return grow([]int{-1, 0, -1, 0, 1, 2, 1, -1, 6, 0}, []int{2, 9, 1, 3, 11, 8, 10, 5, 12, 4})
}

// orders are all orders of n places.
func orders(n int) [][]int {
	if n == 0 {
		return [][]int{{}}
	}
	var all [][]int
	for _, o := range orders(n - 1) {
		for at := range n {
			all = append(all, slices.Insert(slices.Clone(o), at, n-1))
		}
	}
	return all
}

// counts are all lists of numbers of which each is below its limit.
func counts(limits []int) [][]int {
	all := [][]int{{}}
	for _, limit := range limits {
		var next [][]int
		for _, l := range all {
			for k := range limit {
				next = append(next, append(slices.Clone(l), k))
			}
		}
		all = next
	}
	return all
}

// P6.2: the chapter's example.
func TestExample(t *testing.T) {
	b := api.Block{Slot: 1}
	l := []api.Block{b}
	if x := tree.Chain(l, tree.Name(b)); !slices.Equal(x, []api.ID{tree.Name(b), beginning}) {
		t.Errorf("the chain is %x", x)
	}
}

// P6.1: Names, worked out elsewhere and written as numbers.
func TestNamesWritten(t *testing.T) {
	for _, x := range written() {
		if got := tree.Name(x.b); got != x.name {
			t.Errorf("%+v is named %#x, not %#x", x.b, got, x.name)
		}
	}
}

// P6.1: Names are mix's Of of the chapter's words, whether such a block may be or not.
func TestName(t *testing.T) {
	numbers := []int{math.MinInt, -1 << 32, -1, 0, 1, 2, 12, 1 << 20, 1<<20 + 1, 1 << 32, math.MaxInt}
	words := []uint64{0, 1, 1 << 32, 1 << 63, top - 1, top}
	for _, slot := range numbers {
		for _, from := range numbers {
			for _, first := range words {
				for _, second := range words {
					for _, salt := range words {
						b := api.Block{Slot: slot, From: from, Parent: api.ID{first, second}, Salt: salt}
						if got, want := tree.Name(b), nameOf(b); got != want {
							t.Fatalf("%+v is named %#x, not %#x", b, got, want)
						}
					}
				}
			}
		}
	}
}

// P6.1: blocks that differ in one bit of one field alone have other Names, and may stand side by side.
func TestOneFieldAlone(t *testing.T) {
	base := api.Block{Slot: 3, From: 2, Salt: 7}
	l := []api.Block{base}
	for i := range 64 {
		b, c := base, base
		b.From ^= 1 << i
		c.Salt ^= 1 << i
		l = append(l, b, c)
		if d := base; i > 1 && i < 63 {
			d.Slot ^= 1 << i
			l = append(l, d)
		}
	}
	seen := map[api.ID]api.Block{}
	for i, b := range l {
		name := tree.Name(b)
		if other, is := seen[name]; is {
			t.Errorf("%+v and %+v are both named %x", b, other, name)
		}
		seen[name] = b
		if got := tree.Find(l, name); got != i {
			t.Errorf("%+v is at %d, not %d", b, got, i)
		}
	}
	if !tree.May(l) || len(tree.Kids(l, beginning)) != len(l) {
		t.Error("they may not stand side by side")
	}
	for i := range 64 {
		b := base
		for _, p := range []api.ID{{1 << i, 0}, {0, 1 << i}} {
			b.Parent = p
			if _, is := seen[tree.Name(b)]; is {
				t.Errorf("%+v has a Name of another one", b)
			}
		}
	}
	checkAll(t, []api.Block{base, {Slot: 3, From: 2, Salt: 8}, {Slot: 3, From: 1, Salt: 7}, {Slot: 4, From: 2, Salt: 7}, {Slot: 4, From: 2, Salt: 7, Parent: tree.Name(base)}})
}

// P6.1, P6.2: no blocks may be, and there is the beginning.
func TestNoBlocks(t *testing.T) {
	for _, l := range [][]api.Block{nil, {}} {
		if !tree.May(l) {
			t.Error("no blocks may not be")
		}
		if s, is := tree.Slot(l, beginning); s != 0 || !is {
			t.Errorf("the beginning has slot %d, %t", s, is)
		}
		if i := tree.Find(l, beginning); i != -1 {
			t.Errorf("the beginning is at %d", i)
		}
		if x := tree.Chain(l, beginning); !slices.Equal(x, []api.ID{beginning}) {
			t.Errorf("the chain of the beginning is %x", x)
		}
		if x := tree.Kids(l, beginning); len(x) != 0 {
			t.Errorf("on the beginning stand %x", x)
		}
		if !tree.Under(l, beginning, beginning) {
			t.Error("the beginning is not under itself")
		}
		checkAll(t, l)
	}
}

// P6.1, P6.2: one block, with all edges of its fields.
func TestOneBlock(t *testing.T) {
	for _, slot := range []int{1, 2, 1<<20 - 1, 1 << 20, 1<<20 + 1, 1 << 32, 1 << 62, math.MaxInt - 1, math.MaxInt} {
		for _, from := range []int{0, 1, 11, 12, -1, math.MinInt, math.MaxInt} {
			for _, salt := range []uint64{0, 1, 1 << 63, top} {
				b := api.Block{Slot: slot, From: from, Salt: salt}
				l, name := []api.Block{b}, tree.Name(b)
				if s, is := tree.Slot(l, name); !tree.May(l) || tree.Find(l, name) != 0 || s != slot || !is {
					t.Errorf("%+v: it has slot %d, %t", b, s, is)
				}
				if s, is := tree.Slot(l, beginning); s != 0 || !is {
					t.Errorf("%+v: the beginning has slot %d, %t", b, s, is)
				}
				checkAll(t, l)
			}
		}
	}
}

// P6.1, P6.2: slots may be as great as there are numbers, and stand on one another up to there.
func TestGreatSlots(t *testing.T) {
	checkAll(t, grow([]int{-1, 0, 1, 2, -1, 0}, []int{1, 2, math.MaxInt - 1, math.MaxInt, math.MaxInt, math.MaxInt}))
	for _, l := range [][]api.Block{
		grow([]int{-1, 0}, []int{1, math.MaxInt}),
		grow([]int{-1, 0}, []int{math.MaxInt - 1, math.MaxInt}),
		grow([]int{-1, -1}, []int{math.MaxInt, 1}),
		grow([]int{-1, -1}, []int{math.MaxInt, math.MaxInt}),
	} {
		if !tree.May(l) {
			t.Errorf("%v may not be", l)
		}
	}
	for _, l := range [][]api.Block{
		grow([]int{-1, 0}, []int{math.MaxInt, math.MaxInt}),
		grow([]int{-1, 0}, []int{math.MaxInt, 1}),
		grow([]int{-1, 0}, []int{math.MaxInt, math.MinInt}),
		grow([]int{-1, 0}, []int{1, math.MinInt}),
	} {
		checkNothing(t, l, ids(l))
	}
}

// P6.1, P6.2: one chain, of up to so many blocks as a view may have, and far more.
func TestOneChain(t *testing.T) {
	for _, n := range []int{2, 3, 10} {
		checkAll(t, line(n))
	}
	for _, n := range []int{60, 1 << 14} {
		l := line(n)
		if !tree.May(l) {
			t.Fatalf("%d blocks in a line may not be", n)
		}
		chain := tree.Chain(l, tree.Name(l[n-1]))
		if len(chain) != n+1 || chain[n] != beginning {
			t.Fatalf("the chain of %d blocks has %d IDs", n, len(chain))
		}
		for i, b := range l {
			if chain[n-1-i] != tree.Name(b) {
				t.Fatalf("at %d of the chain is %x", n-1-i, chain[n-1-i])
			}
		}
		if !tree.Under(l, tree.Name(l[0]), tree.Name(l[n-1])) || tree.Under(l, tree.Name(l[n-1]), tree.Name(l[n-2])) {
			t.Error("Under is wrong along a line")
		}
		if x := tree.Kids(l, tree.Name(l[n/2])); !slices.Equal(x, []api.ID{tree.Name(l[n/2+1])}) {
			t.Errorf("on one in the middle stand %x", x)
		}
	}
}

// P6.1, P6.2: forks at several heights, written out.
func TestForks(t *testing.T) {
	l := bush()
	n := make([]api.ID, len(l))
	for i, b := range l {
		n[i] = tree.Name(b)
	}
	checkAll(t, l)
	for _, x := range []struct {
		id          api.ID
		kids, chain []api.ID
	}{
		{beginning, []api.ID{n[0], n[2], n[7]}, []api.ID{beginning}},
		{n[0], []api.ID{n[1], n[3], n[9]}, []api.ID{n[0], beginning}},
		{n[1], []api.ID{n[4], n[6]}, []api.ID{n[1], n[0], beginning}},
		{n[2], []api.ID{n[5]}, []api.ID{n[2], beginning}},
		{n[6], []api.ID{n[8]}, []api.ID{n[6], n[1], n[0], beginning}},
		{n[7], nil, []api.ID{n[7], beginning}},
		{n[8], nil, []api.ID{n[8], n[6], n[1], n[0], beginning}},
	} {
		if got := tree.Kids(l, x.id); !slices.Equal(got, x.kids) {
			t.Errorf("on %x stand %x, not %x", x.id, got, x.kids)
		}
		if got := tree.Chain(l, x.id); !slices.Equal(got, x.chain) {
			t.Errorf("the chain of %x is %x, not %x", x.id, got, x.chain)
		}
	}
	for i, b := range l {
		if s, is := tree.Slot(l, n[i]); s != b.Slot || !is || tree.Find(l, n[i]) != i {
			t.Errorf("block %d is at %d, with slot %d, %t", i, tree.Find(l, n[i]), s, is)
		}
	}
}

// P6.2: Kids stand in the list's order, whatever that is.
func TestKidsInOrder(t *testing.T) {
	kids := grow([]int{-1, -1, -1, -1, -1}, []int{5, 1, math.MaxInt, 5, 2})
	for _, order := range orders(len(kids)) {
		var l []api.Block
		var want []api.ID
		for _, i := range order {
			l = append(l, kids[i])
			want = append(want, nameOf(kids[i]))
		}
		if got := tree.Kids(l, beginning); !tree.May(l) || !slices.Equal(got, want) {
			t.Errorf("%v: on the beginning stand %x, not %x", l, got, want)
		}
	}
}

// smallTrees are all trees of n blocks with all so many slots from the least one on, in all orders.
func smallTrees(n, least, many int) [][]api.Block {
	var all [][]api.Block
	for _, parents := range counts([]int{1, 2, 3, 4}[:n]) {
		for i := range parents {
			parents[i]--
		}
		for _, slots := range counts(slices.Repeat([]int{many}, n)) {
			for i := range slots {
				slots[i] += least
			}
			blocks := grow(parents, slots)
			for _, order := range orders(n) {
				var l []api.Block
				for _, i := range order {
					l = append(l, blocks[i])
				}
				all = append(all, l)
			}
		}
	}
	return all
}

// P6.1, P6.2: small trees of all shapes; of the many ones all calls are held for some.
func TestSmallTrees(t *testing.T) {
	few := slices.Concat(smallTrees(1, -1, 6), smallTrees(2, -1, 6))
	many := slices.Concat(smallTrees(3, -1, 6), smallTrees(4, 1, 3))
	held := map[bool]int{}
	for i, l := range slices.Concat(few, many) {
		may := mayOf(l)
		held[may]++
		if got := tree.May(l); got != may {
			t.Fatalf("%v may be: %t, not %t", l, got, may)
		}
		if i < len(few) || i%37 == 0 {
			checkAll(t, l)
		}
	}
	if held[true] < 1000 || held[false] < 1000 {
		t.Errorf("only %d that may be and %d that may not were held", held[true], held[false])
	}
}

// P6.1, P6.2, and P1: blocks that may not be, each for one reason, and all calls tell nothing of them.
func TestMayNot(t *testing.T) {
	l := bush()
	on := nameOf
	without := func(i int) []api.Block { return slices.Delete(slices.Clone(l), i, i+1) }
	with := func(at int, b api.Block) []api.Block { return slices.Insert(slices.Clone(l), at, b) }
	swapped := func(i, j int) []api.Block {
		m := slices.Clone(l)
		m[i], m[j] = m[j], m[i]
		return m
	}
	end := len(l)
	for _, x := range []struct {
		why string
		l   []api.Block
	}{
		{"the first block twice, side by side", with(1, l[0])},
		{"the first block twice", with(end, l[0])},
		{"the last block twice", with(end, l[9])},
		{"a block in the middle twice", with(7, l[4])},
		{"a Parent that is left out", without(0)},
		{"another Parent that is left out", without(6)},
		{"a Parent that is no Name", with(end, api.Block{Slot: 99, Parent: api.ID{5, 5}})},
		{"a Parent of the greatest words, first of all", with(0, api.Block{Slot: 1, Parent: api.ID{top, top}})},
		{"a Parent whose first word is nought", with(3, api.Block{Slot: 99, Parent: api.ID{0, 1}})},
		{"a Parent whose second word is nought", with(3, api.Block{Slot: 99, Parent: api.ID{1, 0}})},
		{"a Parent with its words turned", with(end, api.Block{Slot: 99, Parent: api.ID{on(l[0])[1], on(l[0])[0]}})},
		{"a Parent that differs in a bit", with(end, api.Block{Slot: 99, Parent: api.ID{on(l[0])[0], on(l[0])[1] ^ 1}})},
		{"a Parent that stands later", swapped(0, 1)},
		{"a Parent that stands last", swapped(6, 9)},
		{"a Parent that stands right behind", with(8, api.Block{Slot: 99, Parent: on(l[8])})},
		{"a Parent of the same Slot", with(end, api.Block{Slot: 12, Parent: on(l[8])})},
		{"a Parent of a greater Slot", with(end, api.Block{Slot: 11, Parent: on(l[8])})},
		{"a Parent of a far greater Slot", with(end, api.Block{Slot: 1, Parent: on(l[8])})},
		{"a Slot of 0", with(end, api.Block{})},
		{"a Slot of 0, ahead of all", with(0, api.Block{From: 3})},
		{"a Slot of 0 on a block", with(end, api.Block{Parent: on(l[2])})},
		{"a Slot of -1", with(end, api.Block{Slot: -1})},
		{"a Slot of -1, ahead of all", with(0, api.Block{Slot: -1})},
		{"a Slot of -1 on a block", with(end, api.Block{Slot: -1, Parent: on(l[2])})},
		{"the least Slot", with(end, api.Block{Slot: math.MinInt})},
		{"the least Slot on a block", with(end, api.Block{Slot: math.MinInt, Parent: on(l[2])})},
	} {
		if mayOf(x.l) {
			t.Fatalf("%s: not wrong at all", x.why)
		}
		if tree.May(x.l) {
			t.Errorf("%s: it may be", x.why)
		}
		checkNothing(t, x.l, ids(x.l))
	}
}

// P6.1: a chain may not begin at a slot of 0 or below, though its slots rise.
func TestSlotsBelowOne(t *testing.T) {
	for _, slots := range [][]int{{0, 1, 2}, {-1, 0, 1}, {-1, 1, 2}, {math.MinInt, -5, 3}, {-3, -2, -1}} {
		l := grow([]int{-1, 0, 1}, slots)
		checkNothing(t, l, ids(l))
	}
}

// P6.1: a block whose Name is the beginning's may not be, wherever it stands.
func TestNameOfTheBeginning(t *testing.T) {
	b := nameless()
	if tree.Name(b) != beginning {
		t.Fatalf("its Name is %x", tree.Name(b))
	}
	for _, l := range [][]api.Block{{b}, {{Slot: 1}, b}, {b, {Slot: 1}}, {b, {Slot: math.MaxInt}}} {
		checkNothing(t, l, ids(l))
	}
}

// P6.1: two blocks that are not the same but have one Name may not be both, though each may.
func TestTwoOfOneName(t *testing.T) {
	x := twins()
	if tree.Name(x[0]) != tree.Name(x[1]) || x[0] == x[1] {
		t.Fatal("they are no twins")
	}
	checkAll(t, x[:1])
	checkAll(t, x[1:])
	other := api.Block{Slot: 1}
	for _, l := range [][]api.Block{{x[0], x[1]}, {x[1], x[0]}, {x[0], other, x[1]}, {other, x[1], x[0]}} {
		checkNothing(t, l, ids(l))
	}
}

// P6.1, P6.2: IDs that are neither the beginning nor a Name, of blocks that may be.
func TestStrangers(t *testing.T) {
	for _, l := range [][]api.Block{nil, line(1), line(5), bush()} {
		for _, id := range strangers(l) {
			if i := tree.Find(l, id); i != -1 {
				t.Errorf("%x is at %d", id, i)
			}
			if s, is := tree.Slot(l, id); s != 0 || is {
				t.Errorf("%x has slot %d, %t", id, s, is)
			}
			if k, c := tree.Kids(l, id), tree.Chain(l, id); len(k) != 0 || len(c) != 0 {
				t.Errorf("on %x stand %x, its chain is %x", id, k, c)
			}
			for _, known := range ids(l) {
				if tree.Under(l, id, known) || tree.Under(l, known, id) {
					t.Errorf("%x is under %x, or that under it", id, known)
				}
			}
		}
	}
}

// P6.3: slots fall along each chain, down to the beginning.
func TestSlotsFall(t *testing.T) {
	for _, l := range [][]api.Block{line(30), bush(), grow([]int{-1, 0, 0, 2}, []int{1, math.MaxInt, 2, math.MaxInt})} {
		for _, b := range l {
			chain := tree.Chain(l, tree.Name(b))
			if len(chain) < 2 || chain[0] != tree.Name(b) || chain[len(chain)-1] != beginning {
				t.Fatalf("the chain of %+v is %x", b, chain)
			}
			last, is := tree.Slot(l, chain[0])
			if last != b.Slot || !is {
				t.Errorf("%+v has slot %d, %t", b, last, is)
			}
			for _, id := range chain[1:] {
				s, is := tree.Slot(l, id)
				if s >= last || !is {
					t.Errorf("below slot %d is slot %d, %t", last, s, is)
				}
				last = s
			}
			if last != 0 {
				t.Errorf("a chain ends at slot %d", last)
			}
		}
	}
}

// P6.3: of two blocks on a chain one is under the other one, and both are so only where they are one.
func TestOneIsUnderTheOther(t *testing.T) {
	for _, l := range [][]api.Block{line(12), bush()} {
		for _, b := range l {
			chain := tree.Chain(l, tree.Name(b))
			for i, x := range chain {
				for j, y := range chain {
					if tree.Under(l, x, y) != (i >= j) {
						t.Errorf("on a chain the place %d is under %d: %t", i, j, i < j)
					}
				}
			}
		}
	}
}

// P6.3: blocks of two branches are under none of each other.
func TestBranches(t *testing.T) {
	l := bush()
	for _, x := range [][2]int{{0, 2}, {7, 0}, {3, 1}, {3, 8}, {4, 6}, {4, 8}, {5, 8}, {9, 3}} {
		a, b := tree.Name(l[x[0]]), tree.Name(l[x[1]])
		if tree.Under(l, a, b) || tree.Under(l, b, a) {
			t.Errorf("of %d one is under the other one", x)
		}
	}
}

// askAll makes each call of l.
func askAll(l []api.Block) {
	tree.May(l)
	for _, id := range ids(l) {
		tree.Find(l, id)
		tree.Slot(l, id)
		tree.Kids(l, id)
		tree.Chain(l, id)
		tree.Under(l, id, beginning)
		tree.Under(l, beginning, id)
	}
}

// R3: what is handed in stays as it was, also behind the end of a list.
func TestHandedInStays(t *testing.T) {
	for _, blocks := range [][]api.Block{bush(), append(bush(), api.Block{}, api.Block{Slot: 9}), {{Slot: 1}, {Slot: 1}, {Slot: 1}}} {
		kept := slices.Clone(blocks)
		for n := range len(blocks) + 1 {
			askAll(blocks[:n])
		}
		if !slices.Equal(blocks, kept) {
			t.Errorf("%v became %v", kept, blocks)
		}
	}
}

// R3: what was answered stays as it was, and is nobody else's.
func TestAnsweredStays(t *testing.T) {
	l := bush()
	id := tree.Name(l[8])
	chain, kids := tree.Chain(l, id), tree.Kids(l, beginning)
	keptChain, keptKids := slices.Clone(chain), slices.Clone(kids)
	more, others := tree.Chain(l, id), tree.Kids(l, beginning)
	for i := range more {
		more[i] = api.ID{8, 8}
	}
	for i := range others {
		others[i] = api.ID{9, 9}
	}
	clear(l)
	if !slices.Equal(chain, keptChain) || !slices.Equal(kids, keptKids) {
		t.Error("what was answered changed")
	}
	checkAll(t, bush())
}

// R3: who changes or lengthens an answer changes no list that was handed in.
func TestAnswersAreTheCallersOwn(t *testing.T) {
	l := bush()
	for _, id := range ids(l) {
		for _, x := range [][]api.ID{tree.Chain(l, id), tree.Kids(l, id)} {
			clear(x)
			_ = append(x, api.ID{7, 7})
		}
	}
	if !slices.Equal(l, bush()) {
		t.Error("the blocks changed")
	}
}

// R5: nothing hangs on what was asked before, or by whom at the same time.
func TestManyAsk(t *testing.T) {
	lists := [][]api.Block{bush(), line(6), {{Slot: 1}, {Slot: 1}}, nil}
	var all sync.WaitGroup
	for range 8 {
		all.Go(func() {
			for _, l := range lists {
				checkAll(t, l)
			}
		})
	}
	all.Wait()
	for _, l := range lists {
		checkAll(t, l)
	}
}
