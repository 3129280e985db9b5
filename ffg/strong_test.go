package ffg_test

import (
	"math"
	"slices"
	"testing"

	"marigold/api"
	"marigold/duty"
	"marigold/ffg"
	"marigold/tree"
)

// P11.1: what links may be, written out.
func TestMayWritten(t *testing.T) {
	n := names(bush())
	for _, x := range []struct {
		why  string
		x    api.Link
		want bool
	}{
		{"from the first one", api.Link{Tgt: at(1, n[0])}, true},
		{"over some epochs", api.Link{From: 4, Src: at(3, n[1]), Tgt: at(7, n[8])}, true},
		{"to the same block", api.Link{From: 1, Src: at(1, n[4]), Tgt: at(2, n[4])}, true},
		{"from the beginning in a later epoch", api.Link{From: 1, Src: at(5, beginning), Tgt: at(6, n[9])}, true},
		{"to the beginning in a later epoch", api.Link{From: 1, Tgt: at(1, beginning)}, true},
		{"between later ones of it", api.Link{From: 1, Src: at(5, beginning), Tgt: at(9, beginning)}, true},
		{"from another one of epoch 0", api.Link{From: 1, Src: at(0, n[0]), Tgt: at(1, n[3])}, true},
		{"an epoch of -1", api.Link{Src: at(-1, beginning), Tgt: at(1, n[0])}, false},
		{"an epoch of -1, to 0", api.Link{Src: at(-1, beginning)}, false},
		{"the same epoch", api.Link{Src: at(1, n[0]), Tgt: at(1, n[1])}, false},
		{"the same checkpoint", api.Link{Src: at(1, n[0]), Tgt: at(1, n[0])}, false},
		{"noughts", api.Link{}, false},
		{"one epoch less", api.Link{Src: at(2, n[0]), Tgt: at(1, n[1])}, false},
		{"up to the last epoch", api.Link{Tgt: at(1<<20, n[0])}, true},
		{"up to one more", api.Link{Tgt: at(1<<20+1, n[0])}, false},
		{"within the last ones", api.Link{Src: at(1<<20-1, n[0]), Tgt: at(1<<20, n[0])}, true},
		{"beyond the last ones", api.Link{Src: at(1<<20, n[0]), Tgt: at(1<<20+1, n[0])}, false},
		{"from what stands beside it", api.Link{Src: at(1, n[3]), Tgt: at(2, n[4])}, false},
		{"from another branch, lower", api.Link{Src: at(1, n[2]), Tgt: at(2, n[8])}, false},
		{"from what stands on it", api.Link{Src: at(1, n[1]), Tgt: at(2, n[0])}, false},
		{"to the beginning", api.Link{Src: at(1, n[0]), Tgt: at(2, beginning)}, false},
		{"to what is not known", api.Link{Tgt: at(1, api.ID{7, 7})}, false},
		{"from what is not known", api.Link{Src: at(1, api.ID{7, 7}), Tgt: at(2, n[0])}, false},
		{"both the same, not known", api.Link{Src: at(1, api.ID{7, 7}), Tgt: at(2, api.ID{7, 7})}, false},
		{"of the greatest validator", api.Link{From: 4, Tgt: at(1, n[0])}, true},
		{"of one more", api.Link{From: 5, Tgt: at(1, n[0])}, false},
		{"of -1", api.Link{From: -1, Tgt: at(1, n[0])}, false},
	} {
		if got := ffg.May(conf(5), bush(), x.x); got != x.want {
			t.Errorf("%s: that %v may be is %t", x.why, x.x, got)
		}
		check(t, conf(5), bush(), append(of(x.x.Src, x.x.Tgt, 3, 4), x.x))
	}
}

// P11.1: of all pairs of IDs just those may be whose first one is on the other one's chain, which is written out.
func TestMayRoots(t *testing.T) {
	l := bush()
	n := names(l)
	chains := map[api.ID][]api.ID{
		beginning: {beginning},
		n[0]:      {n[0], beginning},
		n[1]:      {n[1], n[0], beginning},
		n[2]:      {n[2], beginning},
		n[3]:      {n[3], n[0], beginning},
		n[4]:      {n[4], n[1], n[0], beginning},
		n[5]:      {n[5], n[2], beginning},
		n[6]:      {n[6], n[1], n[0], beginning},
		n[7]:      {n[7], beginning},
		n[8]:      {n[8], n[6], n[1], n[0], beginning},
		n[9]:      {n[9], n[0], beginning},
	}
	for _, low := range ids(l) {
		for _, id := range ids(l) {
			x := api.Link{From: 2, Src: at(3, low), Tgt: at(4, id)}
			if got, want := ffg.May(conf(5), l, x), slices.Contains(chains[id], low); got != want {
				t.Errorf("from %x to %x it may be is %t", low, id, got)
			}
		}
	}
}

// P11.1: all trees of up to five blocks, and all pairs of IDs in them, are told as tree's Under does.
func TestMayInTrees(t *testing.T) {
	var try func(parents []int)
	try = func(parents []int) {
		l := grow(parents...)
		for _, low := range append(known(l), api.ID{7, 7}) {
			for _, id := range append(known(l), api.ID{7, 7}) {
				x := api.Link{Tgt: at(1, id), Src: at(0, low)}
				if got, want := ffg.May(conf(1), l, x), tree.Under(l, low, id); got != want {
					t.Fatalf("%v: from %x to %x it may be is %t", parents, low, id, got)
				}
			}
		}
		for p := -1; p < len(parents) && len(parents) < 5; p++ {
			try(append(slices.Clone(parents), p))
		}
	}
	try(nil)
}

// P11.1: of all pairs of epochs just those may be that rise from 0 on up to the greatest one.
func TestMayEpochs(t *testing.T) {
	l := line(2)
	n := names(l)
	epochs := []int{math.MinInt, math.MinInt + 1, -1 << 32, -last, -2, -1, 0, 1, 2, 3, 8, 9, last - 2, last - 1, last, last + 1, last + 2, 1 << 32, 1<<32 + 1, math.MaxInt - 1, math.MaxInt}
	for _, src := range epochs {
		for _, tgt := range epochs {
			x := api.Link{Src: at(src, n[0]), Tgt: at(tgt, n[1])}
			want := 0 <= src && src < tgt && tgt <= 1<<20
			if got := ffg.May(conf(1), l, x); got != want {
				t.Errorf("from epoch %d to %d it may be is %t", src, tgt, got)
			}
			if got := ffg.Strong(conf(1), l, []api.Link{x}, x.Src, x.Tgt); got != want {
				t.Errorf("from epoch %d to %d it is strong is %t", src, tgt, got)
			}
		}
	}
}

// P11.1: who is a validator may have a link, and nobody else.
func TestMayFrom(t *testing.T) {
	l := line(1)
	tgt := at(1, tree.Name(l[0]))
	for n := 1; n <= 12; n++ {
		for who := range n {
			if !ffg.May(conf(n), l, api.Link{From: who, Tgt: tgt}) {
				t.Errorf("of %d: one of %d may not be", n, who)
			}
		}
		for _, who := range strangers(n) {
			if ffg.May(conf(n), l, api.Link{From: who, Tgt: tgt}) {
				t.Errorf("of %d: one of %d may be", n, who)
			}
		}
	}
}

// P11.1: without blocks there is the beginning, to which links may be.
func TestMayNoBlocks(t *testing.T) {
	for _, l := range [][]api.Block{nil, {}} {
		if !ffg.May(conf(1), l, api.Link{Tgt: at(1, beginning)}) || !ffg.Strong(conf(1), l, path(at(1, beginning)), first, at(1, beginning)) {
			t.Error("one to the beginning may not be, or is not strong")
		}
		for _, id := range unknown(nil) {
			if ffg.May(conf(1), l, api.Link{Tgt: at(1, id)}) || ffg.May(conf(1), l, api.Link{Src: at(0, id), Tgt: at(1, beginning)}) {
				t.Errorf("one of %x may be", id)
			}
		}
	}
}

// P11.1: what just two thirds are, one less, and one more, written out: whose link it is, and whether it is strong.
func TestTwoThirds(t *testing.T) {
	l := line(1)
	tgt := at(1, tree.Name(l[0]))
	for _, x := range []struct {
		w, who []int
		want   bool
	}{
		{[]int{200, 100}, []int{0}, true},
		{[]int{199, 101}, []int{0}, false},
		{[]int{201, 99}, []int{0}, true},
		{[]int{199, 100}, []int{0}, false},
		{[]int{200, 101}, []int{0}, false},
		{[]int{200, 99}, []int{0}, true},
		{[]int{1, 1, 1}, []int{0, 2}, true},
		{[]int{1, 1, 1}, []int{1}, false},
		{[]int{1, 1, 1, 1}, []int{0, 1}, false},
		{[]int{1, 1, 1, 1}, []int{0, 1, 3}, true},
		{[]int{1, 1, 1, 1, 1}, []int{0, 1, 4}, false},
		{[]int{1, 1, 1, 1, 1}, []int{0, 1, 2, 4}, true},
		{[]int{66, 34}, []int{0}, false},
		{[]int{67, 33}, []int{0}, true},
		{[]int{1}, []int{0}, true},
		{[]int{0, 3}, []int{0}, false},
		{[]int{0, 3}, []int{1}, true},
		{[]int{2, 0, 1}, []int{0}, true},
		{[]int{heavy, heavy, heavy}, []int{0, 1}, true},
		{[]int{heavy, heavy - 1, heavy}, []int{0, 1}, false},
		{[]int{heavy, heavy, heavy - 1}, []int{0, 1}, true},
		{[]int{heavy}, []int{0}, true},
	} {
		c := weighing(x.w...)
		if got := ffg.Strong(c, l, of(first, tgt, x.who...), first, tgt); got != x.want {
			t.Errorf("of %v, %v: it is strong is %t", x.w, x.who, got)
		}
		want := []api.Check{first}
		if x.want {
			want = append(want, tgt)
		}
		checkLists(t, c, l, of(first, tgt, x.who...), want, []api.Check{first})
	}
}

// P11.1: each set of twelve validators, of several weights.
func TestEachSet(t *testing.T) {
	l := line(1)
	tgt := at(1, tree.Name(l[0]))
	for _, c := range []api.Conf{conf(12), even(12, 1), even(12, heavy), weighing(0, 1, 0, 2, 3, heavy, 1, 0, 2, heavy, 7, heavy-1)} {
		for set := range 1 << 12 {
			var who []int
			for i := range 12 {
				if set>>i&1 == 1 {
					who = append(who, i)
				}
			}
			want := set != 0 && 3*duty.Weight(c, who) >= 2*duty.Total(c)
			if got := ffg.Strong(c, l, of(first, tgt, who...), first, tgt); got != want {
				t.Errorf("%v, %v: it is strong is %t", c.W, who, got)
			}
		}
	}
}

// P11.1: where all weigh nothing one link that may be is enough, and none is not, nor is one that may not be.
func TestAllWeighNothing(t *testing.T) {
	l := line(2)
	n := names(l)
	tgt := at(1, n[0])
	for k := 1; k <= 12; k++ {
		c := even(k, 0)
		for _, v := range [][]api.Link{nil, {}, of(at(1, n[0]), at(2, n[1]), 0), of(first, tgt, strangers(k)...)} {
			if ffg.Strong(c, l, v, first, tgt) {
				t.Errorf("of %d, %v: it is strong", k, v)
			}
			checkLists(t, c, l, v, []api.Check{first}, []api.Check{first})
		}
		for who := range k {
			if !ffg.Strong(c, l, of(first, tgt, who), first, tgt) {
				t.Errorf("of %d: with one of %d it is not strong", k, who)
			}
			checkLists(t, c, l, of(first, tgt, who), []api.Check{first, tgt}, []api.Check{first})
		}
		wrong := api.Check{Epoch: 1, Root: api.ID{7, 7}}
		if ffg.Strong(c, l, of(first, wrong, 0), first, wrong) || ffg.Strong(c, l, of(tgt, first, 0), tgt, first) {
			t.Errorf("of %d: what may not be is strong", k)
		}
	}
}

// P11.1: whose link is there twice, or more often, weighs once.
func TestThereTwice(t *testing.T) {
	l := line(1)
	tgt := at(1, tree.Name(l[0]))
	for n := range 6 {
		v := slices.Repeat(of(first, tgt, 1), n)
		if ffg.Strong(even(3, 1), l, v, first, tgt) {
			t.Errorf("with one of 1, %d times, it is strong", n)
		}
		v = append(v, of(first, tgt, 0)...)
		if got, want := ffg.Strong(even(3, 1), l, v, first, tgt), n > 0; got != want {
			t.Errorf("with one of 1, %d times, and one of 0, it is strong is %t", n, got)
		}
	}
}

// P11.1: one who has links to two checkpoints, or from two, weighs for each.
func TestOneOfTwo(t *testing.T) {
	l := bush()
	n := names(l)
	a, b, d := at(1, n[0]), at(1, n[2]), at(2, n[1])
	v := slices.Concat(of(first, a, 0, 1), of(first, b, 1, 2), of(first, d, 1), of(a, d, 1, 2))
	for _, x := range []struct {
		src, tgt api.Check
		want     bool
	}{{first, a, true}, {first, b, true}, {first, d, false}, {a, d, true}, {b, d, false}} {
		if got := ffg.Strong(even(3, 1), l, v, x.src, x.tgt); got != x.want {
			t.Errorf("from %v to %v it is strong is %t", x.src, x.tgt, got)
		}
	}
	checkLists(t, even(3, 1), l, v, ordered(first, a, b, d), []api.Check{first, a})
}

// P11.1: links that differ from the one asked for in just one part of a checkpoint do not count for it.
func TestOthersDoNotCount(t *testing.T) {
	l := append(bush(), alike(0, 3, 2)...)
	l = append(l, alike(1, 3, 2)...)
	n := known(l)
	var ways [][2]api.Check
	for _, src := range n {
		for _, tgt := range n {
			if tree.Under(l, src, tgt) {
				ways = append(ways, [2]api.Check{at(1, src), at(3, tgt)}, [2]api.Check{at(2, src), at(3, tgt)}, [2]api.Check{at(1, src), at(4, tgt)})
			}
		}
	}
	for _, asked := range ways {
		v := of(asked[0], asked[1], 1)
		for _, w := range ways {
			if w != asked {
				v = append(v, of(w[0], w[1], 0, 2)...)
			}
		}
		if ffg.Strong(even(3, 1), l, v, asked[0], asked[1]) {
			t.Errorf("by others it is strong from %v to %v", asked[0], asked[1])
		}
		if !ffg.Strong(even(3, 1), l, append(v, of(asked[0], asked[1], 0)...), asked[0], asked[1]) {
			t.Errorf("beside others it is not strong from %v to %v", asked[0], asked[1])
		}
	}
}

// P11.1: links of who is no validator weigh nothing, however many there are.
func TestStrangers(t *testing.T) {
	l := line(1)
	tgt := at(1, tree.Name(l[0]))
	for n := 1; n <= 12; n++ {
		alone := of(first, tgt, strangers(n)...)
		if ffg.Strong(even(n, 1), l, alone, first, tgt) {
			t.Errorf("of %d: it is strong by strangers", n)
		}
		for some := range n + 1 {
			v := slices.Concat(alone, of(first, tgt, all12()[:some]...), alone)
			if got, want := ffg.Strong(even(n, 1), l, v, first, tgt), some > 0 && 3*some >= 2*n; got != want {
				t.Errorf("of %d, with %d and strangers: it is strong is %t", n, some, got)
			}
		}
	}
}

// P11.1: what is asked for need not be known, nor in order: no link to it may be, though all have it.
func TestStrongWrong(t *testing.T) {
	l := bush()
	n := names(l)
	for _, x := range [][2]api.Check{
		{at(-1, beginning), at(1, n[0])}, {at(1, n[0]), at(1, n[1])}, {at(2, n[0]), at(1, n[1])}, {first, at(last+1, n[0])},
		{at(1, n[1]), at(2, n[0])}, {at(1, n[3]), at(2, n[4])}, {first, at(1, api.ID{7, 7})}, {at(1, api.ID{7, 7}), at(2, api.ID{7, 7})},
		{first, first}, {at(1, n[0]), first}, {at(math.MinInt, n[0]), at(math.MaxInt, n[0])}, {at(math.MaxInt, n[0]), at(math.MinInt, n[0])},
	} {
		v := of(x[0], x[1], all12()...)
		if ffg.Strong(conf(12), l, v, x[0], x[1]) {
			t.Errorf("from %v to %v it is strong", x[0], x[1])
		}
		check(t, conf(12), l, v)
		checkLists(t, conf(12), l, v, []api.Check{first}, []api.Check{first})
	}
}

// P11.1: without links, and with links on other ways alone, nothing is strong.
func TestStrongWithout(t *testing.T) {
	l := bush()
	for _, src := range ids(l) {
		for _, tgt := range ids(l) {
			for _, v := range [][]api.Link{nil, {}, of(at(1, src), at(3, tgt), 0, 1, 2)} {
				if ffg.Strong(conf(3), l, v, at(1, src), at(2, tgt)) || ffg.Strong(even(3, 0), l, v, at(0, src), at(3, tgt)) {
					t.Errorf("%v: from %x to %x it is strong", v, src, tgt)
				}
			}
		}
	}
}

// P11.1: no order of the links matters.
func TestStrongInAnyOrder(t *testing.T) {
	c, l := conf(5), bush()
	v := crowd()
	for i := range v {
		turned := slices.Concat(v[i:], v[:i])
		back := slices.Clone(turned)
		slices.Reverse(back)
		for _, x := range v {
			want := ffg.Strong(c, l, v, x.Src, x.Tgt)
			if ffg.Strong(c, l, turned, x.Src, x.Tgt) != want || ffg.Strong(c, l, back, x.Src, x.Tgt) != want || ffg.Strong(c, l, slices.Concat(v, turned), x.Src, x.Tgt) != want {
				t.Errorf("turned by %d: from %v to %v it is strong is not %t", i, x.Src, x.Tgt, want)
			}
		}
	}
}
