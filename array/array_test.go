package array_test

import (
	"math"
	"slices"
	"sync"
	"testing"

	"marigold/api"
	"marigold/array"
	"marigold/mix"
)

const (
	none  = -1
	most  = 1 << 50
	heavy = 1 << 40
	top   = 1<<64 - 1
)

// beginning is spelt out here once more, as the document has it.
var beginning = api.ID{0, 0}

// row is what an item is by itself: all else of it is worked out.
type row struct {
	id     api.ID
	parent int
	own    int
}

// greater holds IDs against each other word by word, the first one first.
func greater(a, b api.ID) bool {
	return slices.Compare(a[:], b[:]) > 0
}

// weights are what each item and all that stand on it own: what one owns is on all that it stands on.
func weights(rows []row) []int {
	w := make([]int, len(rows))
	for i, r := range rows {
		for ; i != none; i = rows[i].parent {
			w[i] += r.own
		}
	}
	return w
}

// bestOn is the one on i that none of the others there is better than; -1, if there is none.
func bestOn(rows []row, w []int, i int) int {
	for j, r := range rows {
		if r.parent != i {
			continue
		}
		better := func(k int) bool { return w[k] > w[j] || w[k] == w[j] && greater(rows[k].id, r.id) }
		beaten := false
		for k := range rows {
			beaten = beaten || rows[k].parent == i && better(k)
		}
		if !beaten {
			return j
		}
	}
	return none
}

// bests are the best one on each item.
func bests(rows []row) []int {
	w := weights(rows)
	var all []int
	for i := range rows {
		all = append(all, bestOn(rows, w, i))
	}
	return all
}

// headOf goes on from i to the best one as long as there is one.
func headOf(best []int, i int) int {
	for best[i] != none {
		i = best[i]
	}
	return i
}

// built is the array that may be of the rows, by the document's words.
func built(rows []row) []api.Item {
	w, best := weights(rows), bests(rows)
	var a []api.Item
	for i, r := range rows {
		a = append(a, api.Item{ID: r.id, Parent: r.parent, Own: r.own, W: w[i], Best: best[i], Head: headOf(best, i)})
	}
	return a
}

// topOf says the same as Top of the rows' array.
func topOf(rows []row) api.ID {
	if first := bestOn(rows, weights(rows), none); first != none {
		return rows[headOf(bests(rows), first)].id
	}
	return beginning
}

// mayBe goes through the document's words item by item, with each item's W, Best and Head as it is there.
func mayBe(a []api.Item) bool {
	if len(a) > 60 {
		return false
	}
	for i, x := range a {
		for j, y := range a {
			if x.ID == y.ID && i != j {
				return false
			}
		}
		if x.ID == beginning || x.Parent < -1 || x.Parent >= i || x.Own < 0 || x.Own > most || !isWorkedOut(a, i) {
			return false
		}
	}
	return true
}

func isWorkedOut(a []api.Item, i int) bool {
	sum, best := a[i].Own, none
	for j, y := range a {
		if y.Parent != i {
			continue
		}
		sum += y.W
		if best == none || y.W > a[best].W || y.W == a[best].W && greater(y.ID, a[best].ID) {
			best = j
		}
	}
	head := i
	if best != none {
		head = a[best].Head
	}
	return a[i].W == sum && a[i].Best == best && a[i].Head == head
}

// check holds that a is just the array of the rows, that it may be, and which top it has.
func check(t *testing.T, a []api.Item, rows []row) {
	t.Helper()
	if want := built(rows); !slices.Equal(a, want) {
		t.Errorf("%v: it is\n%v, not\n%v", rows, a, want)
	}
	if !array.May(a) || !mayBe(a) {
		t.Errorf("%v may not be", a)
	}
	if got, want := array.Top(a), topOf(rows); got != want {
		t.Errorf("%v: the top is %x, not %x", a, got, want)
	}
}

// checkWrong holds that a may not be, has no top, and that nothing can be done to it.
func checkWrong(t *testing.T, why string, a []api.Item) {
	t.Helper()
	if array.May(a) || mayBe(a) {
		t.Errorf("%s: %v may be", why, a)
	}
	if got := array.Top(a); got != beginning {
		t.Errorf("%s: the top is %x", why, got)
	}
	asked := []api.ID{beginning, {7, 7}, {1, 1}}
	for _, x := range a[:min(len(a), 5)] {
		asked = append(asked, x.ID)
	}
	for _, id := range asked {
		for _, parent := range asked {
			checkInsert(t, a, id, parent, api.ErrArg)
		}
		for _, by := range []int{0, 1, -1, most, most + 1, math.MinInt} {
			checkMove(t, a, id, by, api.ErrArg)
		}
	}
}

// checkInsert holds which error Insert tells, and that nothing else is answered with it.
func checkInsert(t *testing.T, a []api.Item, id, parent api.ID, e api.Errno) {
	t.Helper()
	if got, err := array.Insert(a, id, parent); len(got) != 0 || err != e {
		t.Errorf("%x on %x in %v: %v, %d, not %d", id, parent, a, got, err, e)
	}
}

// checkMove holds which error Move tells, and that nothing else is answered with it.
func checkMove(t *testing.T, a []api.Item, id api.ID, by int, e api.Errno) {
	t.Helper()
	if got, err := array.Move(a, id, by); len(got) != 0 || err != e {
		t.Errorf("%x by %d in %v: %v, %d, not %d", id, by, a, got, err, e)
	}
}

// moved is a with by more on id, which must be told without an error.
func moved(t *testing.T, a []api.Item, id api.ID, by int) []api.Item {
	t.Helper()
	b, err := array.Move(a, id, by)
	if err != api.OK {
		t.Fatalf("%x by %d in %v: %d", id, by, a, err)
	}
	return b
}

// inserted is a with id on parent, which must be told without an error.
func inserted(t *testing.T, a []api.Item, id, parent api.ID) []api.Item {
	t.Helper()
	b, err := array.Insert(a, id, parent)
	if err != api.OK {
		t.Fatalf("%x on %x in %v: %d", id, parent, a, err)
	}
	return b
}

// named gives rows with parents an ID each that hangs on the seed, and no weight.
func named(seed uint64, parents ...int) []row {
	var rows []row
	for i, p := range parents {
		rows = append(rows, row{api.ID{mix.Step(seed, uint64(i)), mix.Step(^seed, uint64(i))}, p, 0})
	}
	return rows
}

// owning gives the rows those weights, in turn.
func owning(rows []row, owns ...int) []row {
	rows = slices.Clone(rows)
	for i := range rows {
		rows[i].own = owns[i%len(owns)]
	}
	return rows
}

// bush has forks at several heights, and three items on the beginning.
func bush(seed uint64) []row {
	return named(seed, -1, 0, -1, 0, 1, 2, 1, -1, 6, 0)
}

// shape makes n rows by where the parent of each is.
func shape(n int, parent func(i int) int) []row {
	var parents []int
	for i := range n {
		parents = append(parents, parent(i))
	}
	return named(5, parents...)
}

// shapes are n rows in a line, side by side, in forks, in a ladder, and on one item.
func shapes(n int) [][]row {
	return [][]row{
		shape(n, func(i int) int { return i - 1 }),
		shape(n, func(int) int { return -1 }),
		shape(n, func(i int) int { return (i+1)/2 - 1 }),
		shape(n, func(i int) int { return max(i/2*2-2, -1) }),
		shape(n, func(i int) int { return min(i-1, 0) }),
	}
}

// trees are where the parents are in all trees of n.
func trees(n int) [][]int {
	all := [][]int{{}}
	for i := range n {
		var more [][]int
		for _, parents := range all {
			for p := range i + 1 {
				more = append(more, append(slices.Clone(parents), p-1))
			}
		}
		all = more
	}
	return all
}

// written is an array on two branches, with a fork on 0 and one on 2, and what all of it is, written out.
func written() ([]row, []api.Item) {
	a, b, c, d, e, f := api.ID{5, 0}, api.ID{4, 9}, api.ID{3, 1}, api.ID{3, 2}, api.ID{1, 7}, api.ID{0, 1}
	rows := []row{{a, -1, 1}, {b, -1, 20}, {c, 0, 2}, {d, 0, 9}, {e, 2, 4}, {f, 2, 4}}
	return rows, []api.Item{
		{ID: a, Parent: -1, Own: 1, W: 20, Best: 2, Head: 4},
		{ID: b, Parent: -1, Own: 20, W: 20, Best: -1, Head: 1},
		{ID: c, Parent: 0, Own: 2, W: 10, Best: 4, Head: 4},
		{ID: d, Parent: 0, Own: 9, W: 9, Best: -1, Head: 3},
		{ID: e, Parent: 2, Own: 4, W: 4, Best: -1, Head: 4},
		{ID: f, Parent: 2, Own: 4, W: 4, Best: -1, Head: 5},
	}
}

// P10.1, P10.2: the chapter's example: of two on the beginning that weigh the same the greater one is the top, and with weight on the lesser one that.
func TestExample(t *testing.T) {
	for _, pair := range [][2]api.ID{{{1, 1}, {2, 2}}, {{1, 9}, {2, 0}}, {{3, 1}, {3, 2}}, {{0, 1}, {0, 2}}, {{1, 0}, {top, 0}}, {{0, 1}, {1, 0}}} {
		lesser, more := pair[0], pair[1]
		for _, order := range [][2]api.ID{{lesser, more}, {more, lesser}} {
			a := inserted(t, inserted(t, nil, order[0], beginning), order[1], beginning)
			if got := array.Top(a); got != more {
				t.Errorf("of %x the top is %x", order, got)
			}
			if got := array.Top(moved(t, a, lesser, 1)); got != lesser {
				t.Errorf("of %x the top is %x with weight on %x", order, got, lesser)
			}
		}
	}
}

// P10.1: an array that is written out may be, and its top is told; with one unit more on one or on the other side it is another one.
func TestWritten(t *testing.T) {
	rows, a := written()
	if !array.May(a) {
		t.Fatalf("%v may not be", a)
	}
	check(t, a, rows)
	for i, x := range []struct {
		id  int
		by  int
		top int
	}{{0, 1, 4}, {1, 1, 1}, {5, 1, 5}, {4, -4, 1}, {3, 1, 3}, {3, 2, 3}, {2, 1, 4}, {2, -2, 1}} {
		b := moved(t, a, a[x.id].ID, x.by)
		if got := array.Top(b); got != a[x.top].ID {
			t.Errorf("%d: the top is %x, not that of %d", i, got, x.top)
		}
	}
	if got := array.Top(a); got != a[4].ID {
		t.Errorf("the top is %x", got)
	}
}

// P10.1: no items may be, and have no top.
func TestNoItems(t *testing.T) {
	for _, a := range [][]api.Item{nil, {}} {
		if !array.May(a) || array.Top(a) != beginning {
			t.Errorf("%v: %t, %x", a, array.May(a), array.Top(a))
		}
		checkInsert(t, a, beginning, beginning, api.ErrArg)
		checkInsert(t, a, api.ID{1, 1}, api.ID{2, 2}, api.ErrNone)
		checkInsert(t, a, api.ID{1, 1}, api.ID{1, 1}, api.ErrNone)
		checkMove(t, a, api.ID{1, 1}, 1, api.ErrNone)
		checkMove(t, a, beginning, 1, api.ErrNone)
		check(t, inserted(t, a, api.ID{1, 1}, beginning), []row{{api.ID{1, 1}, -1, 0}})
	}
}

// P10.1: 59 and 60 items may be, 61 may not, however they stand.
func TestHowMany(t *testing.T) {
	for _, n := range []int{1, 2, 59, 60} {
		for _, rows := range shapes(n) {
			check(t, built(rows), rows)
			check(t, built(owning(rows, 3, 0, most)), owning(rows, 3, 0, most))
		}
	}
	for _, n := range []int{61, 62, 100} {
		for _, rows := range shapes(n) {
			checkWrong(t, "too many", built(rows))
		}
	}
}

// P10.1, P1: far more items than may be are told in good time.
func TestFarMore(t *testing.T) {
	const far = 1 << 18
	for _, best := range []int{-1, 0} {
		var a []api.Item
		for i := range far {
			a = append(a, api.Item{ID: api.ID{uint64(i), 1}, Parent: min(i-1, best), Best: -1, Head: i})
		}
		checkWrong(t, "far too many", a)
	}
}

// P10.1: IDs next to the beginning's may be, that itself may not, wherever it stands.
func TestBeginningInside(t *testing.T) {
	for _, rows := range [][]row{bush(1), named(1, -1), named(1, -1, -1, 1)} {
		for i := range rows {
			changed := slices.Clone(rows)
			changed[i].id = beginning
			checkWrong(t, "the beginning's ID", built(changed))
			for _, id := range []api.ID{{0, 1}, {1, 0}, {top, top}, {0, 1 << 63}, {1 << 63, 0}} {
				changed[i].id = id
				check(t, built(changed), changed)
			}
		}
	}
}

// P10.1: two items of one ID may not be, wherever they stand; IDs that are the same in one word may.
func TestSameIDs(t *testing.T) {
	rows := owning(bush(1), 4, 2, 7)
	for i := range rows {
		for j := range i {
			changed := slices.Clone(rows)
			changed[i].id = rows[j].id
			checkWrong(t, "two of one ID", built(changed))
			for _, id := range []api.ID{{rows[j].id[0], rows[j].id[1] ^ 1}, {rows[j].id[0] ^ 1, rows[j].id[1]}, {rows[j].id[1], rows[j].id[0]}} {
				changed[i].id = id
				check(t, built(changed), changed)
			}
		}
	}
}

// P10.1: a parent may be -1, or a place ahead; not the item's own, nor a later one, nor one that there is not.
func TestParents(t *testing.T) {
	rows := owning(bush(1), 4, 2, 7)
	for i := range rows {
		for p := -1; p < i; p++ {
			changed := slices.Clone(rows)
			changed[i].parent = p
			check(t, built(changed), changed)
		}
		for _, p := range []int{-2, -3, i, i + 1, len(rows) - 1, len(rows), len(rows) + 1, 60, math.MinInt, math.MaxInt} {
			if p == rows[i].parent || 0 <= p && p < i {
				continue
			}
			a := built(rows)
			a[i].Parent = p
			checkWrong(t, "a parent", a)
		}
	}
	for _, p := range []int{-2, 0, 1, math.MinInt, math.MaxInt} {
		checkWrong(t, "a parent of one alone", []api.Item{{ID: api.ID{1, 1}, Parent: p, Best: -1}})
		checkWrong(t, "a parent of one alone", []api.Item{{ID: api.ID{1, 1}, Parent: p}})
	}
	// Two that stand on each other, each the head of the other one, as far as that can be.
	checkWrong(t, "a ring", []api.Item{{ID: api.ID{1, 1}, Parent: 1, Best: 1, Head: 1}, {ID: api.ID{2, 2}, Parent: 0, Best: 0, Head: 1}})
	checkWrong(t, "a parent behind", []api.Item{{ID: api.ID{1, 1}, Parent: 1, Best: -1}, {ID: api.ID{2, 2}, Parent: -1}})
}

// P10.1: Own is from 0 to 2^50, at each height, with all else as it should be.
func TestOwns(t *testing.T) {
	rows := owning(bush(1), 4, 2, 7)
	for i := range rows {
		for _, own := range []int{0, 1, most - 1, most} {
			changed := slices.Clone(rows)
			changed[i].own = own
			check(t, built(changed), changed)
		}
		for _, own := range []int{-1, -2, most + 1, 2 * most, 1 << 62, -1 << 50, math.MinInt, math.MaxInt} {
			changed := slices.Clone(rows)
			changed[i].own = own
			checkWrong(t, "Own", built(changed))
		}
	}
	for _, rows := range shapes(60) {
		check(t, built(owning(rows, most)), owning(rows, most))
	}
}

// P10.1: W, Best and Head are as they are worked out, and nothing else, in items with children and without.
func TestWorkedOut(t *testing.T) {
	for _, rows := range [][]row{bush(1), owning(bush(2), 4, 2, 7), owning(bush(3), 1), named(1, -1), named(4, -1, 0), named(4, -1, -1, 1, 1)} {
		for i, x := range built(rows) {
			for _, by := range []int{1, -1, 2, 5, 60, -60, 1 << 50, math.MaxInt, math.MinInt} {
				for why, change := range map[string]func(y *api.Item){
					"W":    func(y *api.Item) { y.W = x.W + by },
					"Best": func(y *api.Item) { y.Best = x.Best + by },
					"Head": func(y *api.Item) { y.Head = x.Head + by },
					"Own":  func(y *api.Item) { y.Own = x.Own + by },
				} {
					a := built(rows)
					change(&a[i])
					checkWrong(t, why, a)
				}
			}
			for j := range rows {
				for why, change := range map[string]func(y *api.Item){"Best": func(y *api.Item) { y.Best = j }, "Head": func(y *api.Item) { y.Head = j }} {
					a := built(rows)
					change(&a[i])
					if !slices.Equal(a, built(rows)) {
						checkWrong(t, why, a)
					}
				}
			}
		}
	}
}

// P10.1: what is worked out rightly from what is wrong may not be either: a W that its parent takes on, and a head that is handed down.
func TestWrongAllTheWay(t *testing.T) {
	x, y, z := api.ID{1, 1}, api.ID{2, 2}, api.ID{3, 3}
	for _, by := range []int{1, -1, 1 << 40} {
		checkWrong(t, "a W that is taken on", []api.Item{
			{ID: x, Parent: -1, Own: 1, W: 3 + by, Best: 1, Head: 1},
			{ID: y, Parent: 0, Own: 2, W: 2 + by, Best: -1, Head: 1},
		})
	}
	checkWrong(t, "a head that is handed down", []api.Item{
		{ID: x, Parent: -1, Best: 1, Head: 1},
		{ID: y, Parent: 0, Best: 2, Head: 1},
		{ID: z, Parent: 1, Best: -1, Head: 2},
	})
	checkWrong(t, "a head on another branch", []api.Item{
		{ID: x, Parent: -1, Best: 1, Head: 2},
		{ID: y, Parent: 0, Best: -1, Head: 2},
		{ID: z, Parent: -1, Best: -1, Head: 2},
	})
	checkWrong(t, "a head that is the best one", []api.Item{
		{ID: x, Parent: -1, Best: 1, Head: 1},
		{ID: y, Parent: 0, Best: 2, Head: 2},
		{ID: z, Parent: 1, Best: -1, Head: 2},
	})
}

// P10.1: of children that weigh the same the one of the greatest ID is best, also if they differ in the second word alone, in whatever order they stand, on the beginning and on an item.
func TestTies(t *testing.T) {
	for _, all := range [][]api.ID{
		{{1, 5}, {2, 4}, {3, 3}}, {{7, 1}, {7, 2}, {7, 3}}, {{7, 0}, {7, 1 << 63}, {7, top}}, {{0, 7}, {1 << 63, 7}, {top, 7}},
		{{0, top}, {1, 0}, {1, 1}}, {{1<<63 - 1, 9}, {1 << 63, 8}, {1<<63 + 1, 0}},
	} {
		for _, order := range [][]int{{0, 1, 2}, {0, 2, 1}, {1, 0, 2}, {1, 2, 0}, {2, 0, 1}, {2, 1, 0}} {
			for _, own := range []int{0, 1, most} {
				side := []row{{api.ID{5, 5}, -1, own}}
				var roots []row
				for _, i := range order {
					roots = append(roots, row{all[i], -1, own})
					side = append(side, row{all[i], 0, own})
				}
				check(t, built(roots), roots)
				check(t, built(side), side)
				for _, a := range [][]api.Item{built(roots), built(side)} {
					if got := array.Top(a); got != all[2] {
						t.Errorf("%v: the top is %x", a, got)
					}
				}
				b := built(side)
				b[0].Best, b[0].Head = 1+slices.Index(order, 1), 1+slices.Index(order, 1)
				checkWrong(t, "the second one", b)
			}
		}
	}
}

// P10.1: what is below a child counts for it, and what it weighs is worth more than its ID.
func TestBranchCounts(t *testing.T) {
	x, y, z, u := api.ID{1, 1}, api.ID{2, 2}, api.ID{3, 3}, api.ID{4, 4}
	rows := []row{{x, -1, 2}, {u, -1, 6}, {y, 0, 2}, {z, 0, 2}}
	if got := array.Top(built(rows)); got != u {
		t.Errorf("the top is %x", got)
	}
	rows[0].own = 3
	check(t, built(rows), rows)
	if got := array.Top(built(rows)); got != z {
		t.Errorf("the top is %x", got)
	}
	rows[2].own = 3
	if got := array.Top(built(rows)); got != y {
		t.Errorf("the top is %x", got)
	}
}

// P10.1: all lists of up to two items, of few values each, are told by the document's words.
func TestSmall(t *testing.T) {
	var one []api.Item
	for _, id := range []api.ID{beginning, {1, 1}, {2, 2}} {
		for n := range 4 * 2 * 4 * 3 * 3 {
			one = append(one, api.Item{ID: id, Parent: n%4 - 2, Own: n / 4 % 2, W: n / 8 % 4, Best: n/32%3 - 1, Head: n/96%3 - 1})
		}
	}
	told := 0
	hold := func(a []api.Item) {
		may := mayBe(a)
		if may {
			told++
		}
		if got := array.May(a); got != may {
			t.Fatalf("%v: may is %t", a, got)
		}
	}
	for _, x := range one {
		hold([]api.Item{x})
		for _, y := range one {
			hold([]api.Item{x, y})
		}
	}
	// One of two IDs with an Own of 0 or 1; and two of them, on the beginning both or one on the other one.
	if told != 2*2+2*4*2 {
		t.Errorf("%d may be", told)
	}
}

// P10.2: all trees of up to five are inserted item by item, and weight is moved on each of them.
func TestInsertTrees(t *testing.T) {
	for n := range 6 {
		for turn, parents := range trees(n) {
			rows := named(uint64(turn), parents...)
			var a []api.Item
			for i, r := range rows {
				parent := beginning
				if r.parent != none {
					parent = rows[r.parent].id
				}
				a = inserted(t, a, r.id, parent)
				check(t, a, rows[:i+1])
			}
			for i := range rows {
				rows[i].own = i*i%5 + 1
				a = moved(t, a, rows[i].id, rows[i].own)
				check(t, a, rows)
			}
		}
	}
}

// P10.2: one more item in any array that may be: it stands behind, with no weight, and may be the best one where it weighs as much as others.
func TestInsertInto(t *testing.T) {
	for seed := range uint64(5) {
		for _, owns := range [][]int{{0}, {4, 2, 7}, {1}, {0, 0, 1, 0}, {most}} {
			rows := owning(bush(seed), owns...)
			for i := none; i < len(rows); i++ {
				parent := beginning
				if i != none {
					parent = rows[i].id
				}
				for _, id := range []api.ID{{0, 1}, {1, 0}, {top, top}, {1 << 63, 5}} {
					more := append(slices.Clone(rows), row{id, i, 0})
					check(t, inserted(t, built(rows), id, parent), more)
				}
			}
		}
	}
}

// P10.2: weight is moved up and down on each item of arrays of several kinds, one by one, and W, Best and Head follow.
func TestMoves(t *testing.T) {
	for seed := range uint64(3) {
		for _, rows := range [][]row{bush(seed), named(seed, -1, 0, 1, 2, 3), named(seed, -1, -1, -1, 0, 1, 2, 0, 1, 2), named(seed, -1, 0, 0, 0, 1, 1, 2, 2)} {
			a := built(rows)
			for step := range 60 {
				i := int(mix.Step(seed, uint64(step)) % uint64(len(rows)))
				by := int(mix.Step(seed+9, uint64(step))%7) - 3
				if rows[i].own+by < 0 {
					checkMove(t, a, rows[i].id, by, api.ErrArg)
					continue
				}
				rows[i].own += by
				a = moved(t, a, rows[i].id, by)
				check(t, a, rows)
			}
		}
	}
}

// P10.2, P10.4: weight that is moved back leaves all as it was, from each item, by each weight that it can take.
func TestMovedBack(t *testing.T) {
	for _, rows := range [][]row{bush(1), owning(bush(2), 4, 2, 7), owning(bush(3), 0, most/2), named(1, -1)} {
		a := built(rows)
		for _, r := range rows {
			for _, by := range []int{0, 1, 2, 3, 5, 8, heavy, most / 2, -1, -2, -4, -most / 2} {
				if r.own+by < 0 {
					continue
				}
				b := moved(t, a, r.id, by)
				if back := moved(t, b, r.id, -by); !slices.Equal(back, a) {
					t.Errorf("by %d: it was\n%v, and is\n%v", by, a, back)
				}
				for _, s := range rows {
					if r.own+by > most-3 || s.own > most-3 {
						continue
					}
					// Somebody else's weight moves in between.
					c := moved(t, moved(t, b, s.id, 3), r.id, -by)
					if back := moved(t, c, s.id, -3); !slices.Equal(back, a) {
						t.Errorf("by %d: it was\n%v, and is\n%v", by, a, back)
					}
				}
			}
		}
	}
}

// P10.2: by is from -2^50 to 2^50, and Own and by together from 0 to 2^50, on both sides, at each height.
func TestMoveEdges(t *testing.T) {
	for i := range bush(1) {
		for _, x := range []struct {
			own, by int
			e       api.Errno
		}{
			{0, 0, api.OK}, {0, 1, api.OK}, {0, most, api.OK}, {0, most + 1, api.ErrArg}, {0, -1, api.ErrArg}, {0, -most, api.ErrArg}, {0, -most - 1, api.ErrArg},
			{1, -1, api.OK}, {1, -2, api.ErrArg}, {1, most - 1, api.OK}, {1, most, api.ErrArg}, {1, -most, api.ErrArg},
			{most, 0, api.OK}, {most, 1, api.ErrArg}, {most, -1, api.OK}, {most, -most, api.OK}, {most, -most - 1, api.ErrArg}, {most, most, api.ErrArg},
			{most - 1, 1, api.OK}, {most - 1, 2, api.ErrArg}, {most - 1, -most + 1, api.OK}, {most - 1, -most, api.ErrArg},
			{most, math.MinInt, api.ErrArg}, {most, math.MaxInt, api.ErrArg}, {0, math.MinInt, api.ErrArg}, {0, math.MaxInt, api.ErrArg},
			{5, math.MaxInt - 4, api.ErrArg}, {5, math.MinInt + 5, api.ErrArg}, {most, math.MinInt + most, api.ErrArg}, {5, 1 << 62, api.ErrArg}, {5, -5, api.OK}, {5, -6, api.ErrArg},
		} {
			rows := owning(bush(1), 4, 2, 7)
			rows[i].own = x.own
			a := built(rows)
			if x.e != api.OK {
				checkMove(t, a, rows[i].id, x.by, x.e)
				continue
			}
			b := moved(t, a, rows[i].id, x.by)
			rows[i].own += x.by
			check(t, b, rows)
		}
	}
}

// P10.2: each error of Insert alone.
func TestInsertErrors(t *testing.T) {
	rows := owning(bush(1), 4, 2, 7)
	a := built(rows)
	checkInsert(t, a, beginning, rows[2].id, api.ErrArg)
	checkInsert(t, a, beginning, beginning, api.ErrArg)
	for _, r := range rows {
		for _, s := range rows {
			checkInsert(t, a, r.id, s.id, api.ErrHave)
		}
		checkInsert(t, a, r.id, beginning, api.ErrHave)
		for _, id := range []api.ID{{r.id[0], 0}, {0, r.id[1]}, {r.id[1], r.id[0]}, {r.id[0], r.id[1] ^ 1}, {r.id[0] ^ 1<<63, r.id[1]}} {
			checkInsert(t, a, api.ID{9, 9}, id, api.ErrNone)
			check(t, inserted(t, a, id, r.id), append(slices.Clone(rows), row{id, slices.Index(rows, r), 0}))
		}
	}
	// The new item itself is no parent.
	checkInsert(t, a, api.ID{9, 9}, api.ID{9, 9}, api.ErrNone)
	for _, full := range shapes(60) {
		for _, r := range full {
			checkInsert(t, built(full), api.ID{9, 9}, r.id, api.ErrFull)
		}
		checkInsert(t, built(full), api.ID{9, 9}, beginning, api.ErrFull)
	}
}

// P10.2: 60 find room, however they stand; none more does.
func TestInsertUpTo(t *testing.T) {
	for _, rows := range shapes(60) {
		var a []api.Item
		for i, r := range rows {
			parent := beginning
			if r.parent != none {
				parent = rows[r.parent].id
			}
			a = inserted(t, a, r.id, parent)
			if len(a) != i+1 || a[i].ID != r.id {
				t.Fatalf("%d: %v", i, a)
			}
		}
		check(t, a, rows)
		checkInsert(t, a, api.ID{9, 9}, beginning, api.ErrFull)
	}
}

// P10.2: of several errors of Insert the one that is named first.
func TestInsertOrder(t *testing.T) {
	full := shapes(60)[2]
	a := built(full)
	wrong := built(full)
	wrong[59].W++
	for _, x := range []struct {
		a          []api.Item
		id, parent api.ID
		e          api.Errno
	}{
		{wrong, full[3].id, api.ID{9, 9}, api.ErrArg},
		{wrong, api.ID{8, 8}, api.ID{9, 9}, api.ErrArg},
		{wrong, api.ID{8, 8}, beginning, api.ErrArg},
		{a, beginning, api.ID{9, 9}, api.ErrArg},
		{a, beginning, full[0].id, api.ErrArg},
		{a, full[3].id, api.ID{9, 9}, api.ErrHave},
		{a, full[59].id, full[0].id, api.ErrHave},
		{a, full[0].id, beginning, api.ErrHave},
		{a, api.ID{8, 8}, api.ID{9, 9}, api.ErrNone},
		{a, api.ID{8, 8}, full[0].id, api.ErrFull},
		{built(full[:59]), beginning, api.ID{9, 9}, api.ErrArg},
		{built(full[:59]), full[3].id, api.ID{9, 9}, api.ErrHave},
	} {
		checkInsert(t, x.a, x.id, x.parent, x.e)
	}
}

// P10.2: each error of Move alone, and of several the one that is named first.
func TestMoveErrors(t *testing.T) {
	rows := owning(bush(1), 4, 2, 7)
	a := built(rows)
	wrong := built(rows)
	wrong[3].Head = 2
	for _, id := range []api.ID{beginning, {9, 9}, {rows[0].id[0], 0}, {0, rows[0].id[1]}, {rows[0].id[1], rows[0].id[0]}, {top, top}} {
		for _, by := range []int{0, 1, -1, most, most + 1, -most - 1, math.MinInt, math.MaxInt} {
			checkMove(t, a, id, by, api.ErrNone)
			checkMove(t, wrong, id, by, api.ErrArg)
		}
	}
	for i, r := range rows {
		checkMove(t, a, r.id, -r.own-1, api.ErrArg)
		checkMove(t, a, r.id, most-r.own+1, api.ErrArg)
		checkMove(t, wrong, r.id, 0, api.ErrArg)
		check(t, moved(t, a, rows[i].id, 0), rows)
	}
}

// P10.2: in whatever order weight is moved, and items are inserted, what is told of the same ones is the same.
func TestAnyOrder(t *testing.T) {
	rows := bush(1)
	owns := []int{4, 0, 7, 2, 9, 1, 3, 3, 6, 5}
	want := built(owning(rows, owns...))
	for seed := range uint64(20) {
		left := slices.Clone(rows)
		a := built(rows)
		for turn := uint64(0); len(left) > 0; turn++ {
			i := int(mix.Step(seed, turn) % uint64(len(left)))
			a = moved(t, a, left[i].id, owns[slices.Index(rows, left[i])])
			left = slices.Delete(left, i, i+1)
		}
		if !slices.Equal(a, want) {
			t.Errorf("it is\n%v, not\n%v", a, want)
		}
	}
	// Weight is moved as soon as there is something to have it.
	var a []api.Item
	for i, r := range rows {
		parent := beginning
		if r.parent != none {
			parent = rows[r.parent].id
		}
		a = moved(t, inserted(t, a, r.id, parent), r.id, owns[i])
	}
	if !slices.Equal(a, want) {
		t.Errorf("it is\n%v, not\n%v", a, want)
	}
}

// R3: what is handed in stays as it was, also behind a list's end, and what is answered is the caller's own.
func TestOwnMemory(t *testing.T) {
	rows := owning(bush(1), 4, 2, 7)
	long := built(rows)
	for n := range len(long) + 1 {
		a := built(rows[:n])
		wide := append(a, long[n:]...)
		kept := slices.Clone(wide)
		a = wide[:n]
		array.May(a)
		array.Top(a)
		var answers [][]api.Item
		for _, r := range rows[:n] {
			answers = append(answers, inserted(t, a, api.ID{9, 9}, r.id), moved(t, a, r.id, 0), moved(t, a, r.id, 3))
			checkMove(t, a, r.id, -9, api.ErrArg)
			checkInsert(t, a, r.id, r.id, api.ErrHave)
		}
		answers = append(answers, inserted(t, a, api.ID{9, 9}, beginning), inserted(t, a, api.ID{8, 8}, beginning))
		copies := make([][]api.Item, len(answers))
		for i, b := range answers {
			copies[i] = slices.Clone(b)
		}
		for i, b := range answers {
			for j := range b {
				b[j] = api.Item{W: i}
			}
			clear(b[:cap(b)])
			for j := i + 1; j < len(answers); j++ {
				if !slices.Equal(answers[j], copies[j]) {
					t.Errorf("%d changed with %d", j, i)
				}
			}
		}
		if !slices.Equal(wide, kept) {
			t.Errorf("it became\n%v, and was\n%v", wide, kept)
		}
	}
	// What is handed in changes later.
	a := built(rows)
	b, c := moved(t, a, rows[0].id, 0), inserted(t, a, api.ID{9, 9}, beginning)
	clear(a)
	check(t, b, rows)
	check(t, c, append(slices.Clone(rows), row{api.ID{9, 9}, -1, 0}))
}

// R5: nothing hangs on what was asked before, or by whom at the same time.
func TestManyAsk(t *testing.T) {
	rows := owning(bush(1), 4, 2, 7)
	a := built(rows)
	var all sync.WaitGroup
	for i := range 8 {
		all.Go(func() {
			for k := range 50 {
				changed := slices.Clone(rows)
				changed[(i+k)%10].own += i
				b, err := array.Move(a, rows[(i+k)%10].id, i)
				if err != api.OK || !slices.Equal(b, built(changed)) || array.Top(b) != topOf(changed) || !array.May(b) {
					t.Errorf("%v, %d", b, err)
				}
			}
		})
	}
	all.Wait()
}
