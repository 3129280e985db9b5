package ffg_test

import (
	"slices"
	"sync"
	"testing"

	"marigold/api"
	"marigold/duty"
	"marigold/ffg"
	"marigold/mix"
	"marigold/tree"
)

// P11.2: the chapter's example.
func TestExample(t *testing.T) {
	c, l := even(3, 1), line(1)
	one := at(1, tree.Name(l[0]))
	v := of(first, one, 0, 1)
	if !ffg.Strong(c, l, v, first, one) {
		t.Error("it is not strong")
	}
	checkLists(t, c, l, v, []api.Check{first, one}, []api.Check{first})
	checkLists(t, c, l, v[:1], []api.Check{first}, []api.Check{first})
}

// P11.2: without links the first checkpoint is justified, and final, alone.
func TestNoLinks(t *testing.T) {
	for _, v := range [][]api.Link{nil, {}} {
		for _, l := range [][]api.Block{nil, {}, line(3), bush()} {
			for n := 1; n <= 12; n++ {
				checkLists(t, conf(n), l, v, []api.Check{first}, []api.Check{first})
				checkLists(t, even(n, 0), l, v, []api.Check{first}, []api.Check{first})
			}
		}
	}
}

// P11.2: links on several branches, over several epochs, and wrong ones among them, written out.
func TestCrowd(t *testing.T) {
	c, l := conf(5), bush()
	n := names(l)
	just := ordered(first, at(1, n[0]), at(1, n[2]), at(2, n[1]), at(2, n[5]), at(3, n[6]), at(4, n[4]), at(last, n[4]))
	final := ordered(first, at(1, n[0]), at(1, n[2]))
	checkLists(t, c, l, crowd(), just, final)
	check(t, c, l, crowd())
}

// P11.2: along a branch, epoch by epoch and over several, what each path of links makes justified, and final, written out.
func TestAlong(t *testing.T) {
	l := line(5)
	n := names(l)
	a, b, d, e := at(1, n[0]), at(2, n[1]), at(3, n[2]), at(4, n[3])
	for _, x := range []struct {
		why         string
		v           []api.Link
		just, final []api.Check
	}{
		{"each epoch", path(a, b, d, e), []api.Check{first, a, b, d, e}, []api.Check{first, a, b, d}},
		{"from behind", []api.Link{{Src: d, Tgt: e}, {Src: b, Tgt: d}, {Src: a, Tgt: b}, {Tgt: a}}, []api.Check{first, a, b, d, e}, []api.Check{first, a, b, d}},
		{"without the first link", path(a, b, d, e)[1:], []api.Check{first}, []api.Check{first}},
		{"without one between", slices.Delete(path(a, b, d, e), 2, 3), []api.Check{first, a, b}, []api.Check{first, a}},
		{"one left out", path(a, d, e), []api.Check{first, a, d, e}, []api.Check{first, d}},
		{"two left out", path(a, e), []api.Check{first, a, e}, []api.Check{first}},
		{"at once", path(e), []api.Check{first, e}, []api.Check{first}},
		{"one block, several epochs", path(a, at(2, n[0]), at(3, n[0]), at(5, n[0])), []api.Check{first, a, at(2, n[0]), at(3, n[0]), at(5, n[0])}, []api.Check{first, a, at(2, n[0])}},
		{"the beginning, several epochs", path(at(1, beginning), at(2, beginning), d), []api.Check{first, at(1, beginning), at(2, beginning), d}, []api.Check{first, at(1, beginning), at(2, beginning)}},
		{"the beginning, not justified", []api.Link{{Src: at(1, beginning), Tgt: b}, {Src: at(2, beginning), Tgt: d}}, []api.Check{first}, []api.Check{first}},
		{"another one of epoch 0", []api.Link{{Src: at(0, n[0]), Tgt: b}, {Src: at(0, n[1]), Tgt: at(1, n[1])}}, []api.Check{first}, []api.Check{first}},
		{"two ways to one", append(path(a, b, d), path(b, d, e)...), []api.Check{first, a, b, d, e}, []api.Check{first, a, b, d}},
		{"down the branch", append(path(b), api.Link{Src: b, Tgt: at(3, n[0])}), []api.Check{first, b}, []api.Check{first}},
		{"back in epochs", append(path(b), api.Link{Src: b, Tgt: at(1, n[2])}, api.Link{Src: b, Tgt: at(2, n[2])}), []api.Check{first, b}, []api.Check{first}},
		{"the last epochs", path(at(last-1, n[0]), at(last, n[1]), at(last+1, n[2])), []api.Check{first, at(last-1, n[0]), at(last, n[1])}, []api.Check{first, at(last-1, n[0])}},
		{"what is not known", path(a, at(2, api.ID{7, 7}), d), []api.Check{first, a}, []api.Check{first}},
	} {
		t.Run(x.why, func(t *testing.T) {
			checkLists(t, even(1, 1), l, x.v, x.just, x.final)
			check(t, even(1, 1), l, x.v)
		})
	}
}

// P11.2: a checkpoint is justified by one that comes behind it in the list, wherever the links stand.
func TestInAnyOrder(t *testing.T) {
	l := line(5)
	n := names(l)
	v := path(at(1, n[0]), at(3, n[1]), at(4, n[2]), at(6, n[3]), at(7, n[4]))
	just, final := justOf(even(1, 1), l, v), finalOf(even(1, 1), l, v)
	if len(just) != 6 || len(final) != 3 {
		t.Fatalf("justified is %v, final is %v", just, final)
	}
	var try func(done, rest []api.Link)
	try = func(done, rest []api.Link) {
		if len(rest) == 0 {
			checkLists(t, even(1, 1), l, done, just, final)
		}
		for i, x := range rest {
			try(append(slices.Clone(done), x), slices.Delete(slices.Clone(rest), i, i+1))
		}
	}
	try(nil, v)
}

// P11.2: some links of a crowd in another order, and some of them there twice, answer the same.
func TestTurnedAndTwice(t *testing.T) {
	c, l, v := conf(5), bush(), crowd()
	just, final := justOf(c, l, v), finalOf(c, l, v)
	for i := range v {
		turned := slices.Concat(v[i:], v[:i])
		back := slices.Clone(turned)
		slices.Reverse(back)
		for k := range v {
			checkLists(t, c, l, slices.Concat(turned, v[k:]), just, final)
			checkLists(t, c, l, slices.Concat(v[:k], back), just, final)
		}
	}
}

// P11.2: one weak link between keeps all behind it from being justified; one validator less is as good as none.
func TestWeakBetween(t *testing.T) {
	l := line(3)
	n := names(l)
	a, b, d := at(1, n[0]), at(2, n[1]), at(3, n[2])
	v := slices.Concat(of(first, a, 0, 1, 2), of(a, b, 0, 1), of(b, d, 0, 1, 2))
	checkLists(t, even(3, 1), l, v, []api.Check{first, a, b, d}, []api.Check{first, a, b})
	checkLists(t, even(4, 1), l, v, []api.Check{first, a}, []api.Check{first})
	checkLists(t, even(5, 1), l, v, []api.Check{first}, []api.Check{first})
}

// P11.2: who voted from one checkpoint, and who from another one, are not taken together.
func TestTwoSources(t *testing.T) {
	l := bush()
	n := names(l)
	a, b := at(1, n[0]), at(1, n[1])
	v := slices.Concat(of(first, a, 0, 1), of(first, b, 0, 2), of(a, at(2, n[8]), 0), of(b, at(2, n[8]), 1, 1))
	checkLists(t, even(3, 1), l, v, ordered(first, a, b), []api.Check{first})
	checkLists(t, even(3, 1), l, append(v, of(b, at(2, n[8]), 2)...), ordered(first, a, b, at(2, n[8])), []api.Check{first, b})
}

// P11.2: of an epoch the lesser root is first, told by the first word, and where that is the same by the second one.
func TestOrder(t *testing.T) {
	for word := range 2 {
		l := alike(word, 3, 12)
		n := names(l)
		for i := range 12 {
			if n[i][word] != n[0][word] || i > 0 && n[i][1-word] == n[0][1-word] {
				t.Fatalf("in the word %d: %x and %x", word, n[i], n[0])
			}
		}
		var v []api.Link
		just, final := []api.Check{first}, []api.Check{first}
		for epoch := 3; epoch > 0; epoch-- {
			for _, id := range n {
				v = append(v, api.Link{Src: at(epoch-1, id), Tgt: at(epoch, id)})
			}
		}
		for _, id := range n {
			v = append(v, api.Link{Tgt: at(1, id)})
		}
		slices.SortFunc(n, func(a, b api.ID) int { return slices.Compare(a[:], b[:]) })
		for epoch := 1; epoch <= 3; epoch++ {
			for _, id := range n {
				just = append(just, at(epoch, id))
				if epoch < 3 {
					final = append(final, at(epoch, id))
				}
			}
		}
		checkLists(t, even(1, 1), l, v, just, final)
	}
}

// P11.2: roots stand in order as mix's Less says of them, above 2^63 as well, and behind the beginning.
func TestOrderOfMany(t *testing.T) {
	var l []api.Block
	v := path(at(5, beginning))
	for i := range 60 {
		l = append(l, api.Block{Slot: 1, Salt: uint64(i)})
		v = append(v, api.Link{Tgt: at(5, tree.Name(l[i]))})
	}
	just := ffg.Just(even(1, 1), l, v)
	if len(just) != 62 || just[0] != first || just[1] != at(5, beginning) {
		t.Fatalf("justified is %v", just)
	}
	for i := 2; i < len(just); i++ {
		if just[i].Epoch != 5 || !mix.Less(just[i-1].Root, just[i].Root) {
			t.Errorf("%v is ahead of %v", just[i-1], just[i])
		}
	}
	if just[2].Root[0] >= 1<<63 || just[61].Root[0] < 1<<63 {
		t.Error("there are none on both sides of 2^63")
	}
}

// P11.2: what is final by the next epoch, and by the one after that, written out: the branch is 0, 1, 6, 8 of the bush; 3, 9 and 4 stand beside it.
func TestFinal(t *testing.T) {
	l := bush()
	n := names(l)
	one := at(1, n[1])
	from := func(tgt api.Check) api.Link { return api.Link{Src: one, Tgt: tgt} }
	to := func(epoch int, id api.ID) api.Link { return api.Link{Tgt: at(epoch, id)} }
	for _, x := range []struct {
		why string
		v   []api.Link
		is  bool
	}{
		{"nothing", nil, false},
		{"the next epoch", []api.Link{from(at(2, n[8]))}, true},
		{"the next epoch, its own block", []api.Link{from(at(2, n[1]))}, true},
		{"the next epoch, another branch", []api.Link{from(at(2, n[3]))}, false},
		{"the epoch after that", []api.Link{from(at(3, n[8]))}, false},
		{"one between", []api.Link{from(at(3, n[8])), to(2, n[6])}, true},
		{"one between, ahead in the list", []api.Link{to(2, n[6]), from(at(3, n[8]))}, true},
		{"one between, of its own block", []api.Link{from(at(3, n[8])), to(2, n[1])}, true},
		{"one between, of the target's block", []api.Link{from(at(3, n[8])), to(2, n[8])}, true},
		{"one between, all of one block", []api.Link{from(at(3, n[1])), to(2, n[1])}, true},
		{"one beside the target", []api.Link{from(at(3, n[8])), to(2, n[4])}, false},
		{"one over the target", []api.Link{from(at(3, n[6])), to(2, n[8])}, false},
		{"one under it", []api.Link{from(at(3, n[8])), to(2, n[0])}, false},
		{"the beginning between", []api.Link{from(at(3, n[8])), to(2, beginning)}, false},
		{"one on another branch", []api.Link{from(at(3, n[8])), to(2, n[2])}, false},
		{"one beside it", []api.Link{from(at(3, n[8])), to(2, n[3])}, false},
		{"several, all elsewhere", []api.Link{from(at(3, n[8])), to(2, n[0]), to(2, n[2]), to(2, n[3]), to(2, n[4]), to(2, n[5])}, false},
		{"several, one of them between", []api.Link{from(at(3, n[8])), to(2, n[0]), to(2, n[2]), to(2, n[6]), to(2, n[4]), to(2, n[5])}, true},
		{"one of its epoch", []api.Link{from(at(3, n[8])), to(1, n[6])}, false},
		{"one of the target's epoch", []api.Link{from(at(3, n[8])), to(3, n[6])}, false},
		{"one of a later epoch", []api.Link{from(at(3, n[8])), to(4, n[6])}, false},
		{"one that is not justified", []api.Link{from(at(3, n[8])), {Src: at(1, n[7]), Tgt: at(2, n[7])}, {Src: at(1, n[6]), Tgt: at(2, n[6])}}, false},
		{"two epochs between", []api.Link{from(at(4, n[8])), to(2, n[6]), to(3, n[6])}, false},
		{"the other one of two targets", []api.Link{from(at(3, n[4])), from(at(3, n[8])), to(2, n[6])}, true},
		{"neither of two targets", []api.Link{from(at(3, n[4])), from(at(3, n[8])), to(2, n[3])}, false},
		{"the second target in the next epoch", []api.Link{from(at(3, n[4])), from(at(2, n[8]))}, true},
		{"a link from another one of its epoch", []api.Link{to(1, n[0]), {Src: at(1, n[0]), Tgt: at(2, n[8])}}, false},
		{"a link from its block in another epoch", []api.Link{to(2, n[1]), {Src: at(2, n[1]), Tgt: at(3, n[8])}}, false},
	} {
		v := append(path(one), x.v...)
		if got := slices.Contains(ffg.Final(even(1, 1), l, v), one); got != x.is {
			t.Errorf("%s: it is final is %t", x.why, got)
		}
		if slices.Contains(ffg.Final(even(1, 1), l, v[1:]), one) {
			t.Errorf("%s: though not justified, it is final", x.why)
		}
		check(t, even(1, 1), l, v)
	}
}

// P11.2: a weak link makes nothing final, neither to the target nor to the one between.
func TestFinalWeak(t *testing.T) {
	l := line(3)
	n := names(l)
	one, mid, tgt := at(1, n[0]), at(2, n[1]), at(3, n[2])
	for _, x := range []struct {
		toMid, toTgt, toNext []int
		just, final          []api.Check
	}{
		{[]int{0, 1}, []int{1, 2}, nil, []api.Check{first, one, mid, tgt}, []api.Check{first, one}},
		{[]int{0}, []int{1, 2}, nil, []api.Check{first, one, tgt}, []api.Check{first}},
		{[]int{0, 1}, []int{2}, nil, []api.Check{first, one, mid}, []api.Check{first}},
		{[]int{0, 1}, []int{1, 1, 3, -1}, nil, []api.Check{first, one, mid}, []api.Check{first}},
		{[]int{0}, []int{1, 2}, []int{2}, []api.Check{first, one, tgt}, []api.Check{first}},
		{[]int{0}, []int{1, 2}, []int{2, 0}, []api.Check{first, one, mid, tgt}, []api.Check{first, one}},
		{nil, nil, []int{2, 0}, []api.Check{first, one, mid}, []api.Check{first, one}},
	} {
		v := slices.Concat(of(first, one, 0, 2), of(first, mid, x.toMid...), of(one, tgt, x.toTgt...), of(one, mid, x.toNext...))
		checkLists(t, even(3, 1), l, v, x.just, x.final)
	}
}

// P11.2: at the greatest epochs the same holds as elsewhere.
func TestFinalLast(t *testing.T) {
	l := line(3)
	n := names(l)
	one, mid, tgt := at(last-2, n[0]), at(last-1, n[1]), at(last, n[2])
	v := []api.Link{{Src: one, Tgt: tgt}, {Tgt: mid}, {Tgt: one}}
	checkLists(t, even(1, 1), l, v, []api.Check{first, one, mid, tgt}, []api.Check{first, one})
	one, mid, tgt = at(last-1, n[0]), at(last, n[1]), at(last+1, n[2])
	v = []api.Link{{Src: one, Tgt: tgt}, {Tgt: mid}, {Tgt: one}}
	checkLists(t, even(1, 1), l, v, []api.Check{first, one, mid}, []api.Check{first})
}

// P11.1, P11.2: of a conf that may not be nothing is told, whatever else is given.
func TestWrongConfs(t *testing.T) {
	l := bush()
	for why, c := range wrongConfs() {
		if duty.May(c) {
			t.Fatalf("%s may be", why)
		}
		checkNothing(t, why, c, l)
		checkNothing(t, why, c, nil)
	}
}

// P11.1, P11.2: of blocks that may not be nothing is told, not even the first checkpoint.
func TestWrongBlocks(t *testing.T) {
	for why, l := range wrongBlocks() {
		if tree.May(l) {
			t.Fatalf("%s may be", why)
		}
		checkNothing(t, why, conf(5), l)
		checkNothing(t, why, even(1, 0), l)
	}
}

// P11.1, P11.2, and P1: a conf and blocks that both may not be.
func TestBothWrong(t *testing.T) {
	for one, c := range wrongConfs() {
		for other, l := range wrongBlocks() {
			checkNothing(t, one+", "+other, c, l)
		}
	}
}

// checkNothing asks with links that would be right, of the beginning and of all blocks.
func checkNothing(t *testing.T, why string, c api.Conf, l []api.Block) {
	t.Helper()
	v := append(crowd(), of(first, at(1, beginning), all12()...)...)
	for _, b := range l {
		v = append(v, of(at(1, b.Parent), at(2, tree.Name(b)), all12()...)...)
	}
	for _, x := range v {
		if ffg.May(c, l, x) {
			t.Errorf("%s: %v may be", why, x)
		}
	}
	for _, w := range [][2]api.Check{{first, at(1, beginning)}, {first, at(1, names(bush())[0])}, {v[len(v)-1].Src, v[len(v)-1].Tgt}} {
		if ffg.Strong(c, l, v, w[0], w[1]) {
			t.Errorf("%s: from %v to %v it is strong", why, w[0], w[1])
		}
	}
	for _, some := range [][]api.Link{nil, v} {
		checkLists(t, c, l, some, nil, nil)
	}
}

// P11.1, P11.2: confs on every edge of what may be answer alike; neither seed, slots of an epoch nor beta matters.
func TestRightConfs(t *testing.T) {
	l, v := bush(), crowd()
	just, final := justOf(conf(5), l, v), finalOf(conf(5), l, v)
	for _, seed := range []uint64{0, 1, 1 << 63, top} {
		for _, epoch := range []int{1, 2, 7, 8} {
			for _, beta := range [][2]int{{0, 1}, {1, 1}, {0, 1000}, {1000, 1000}, {1, 4}} {
				c := conf(5)
				c.Seed, c.Epoch, c.Num, c.Den = seed, epoch, beta[0], beta[1]
				checkLists(t, c, l, v, just, final)
			}
		}
	}
}

// P11.2: in whatever order blocks stand that may be, the same is justified, and final.
func TestOrderOfBlocks(t *testing.T) {
	l := bush()
	just, final := justOf(conf(5), l, crowd()), finalOf(conf(5), l, crowd())
	for _, order := range [][]int{{7, 2, 5, 0, 9, 3, 1, 6, 8, 4}, {0, 1, 6, 8, 4, 9, 3, 7, 2, 5}, {2, 7, 0, 5, 1, 3, 4, 6, 9, 8}} {
		var m []api.Block
		for _, i := range order {
			m = append(m, l[i])
		}
		checkLists(t, conf(5), m, crowd(), just, final)
	}
}

// links are those from one checkpoint to a later one of three epochs, of all roots that are given.
func links(roots []api.ID) []api.Link {
	var all []api.Link
	for src := range 3 {
		for tgt := src + 1; tgt <= 3; tgt++ {
			for _, low := range roots {
				for _, id := range roots {
					all = append(all, api.Link{Src: at(src, low), Tgt: at(tgt, id)})
				}
			}
		}
	}
	return all
}

// P11.1, P11.2: all trees of two blocks, with all sets of two links of one validator over three epochs, and of three.
func TestSmall(t *testing.T) {
	c := even(1, 1)
	for p := range 2 {
		l := grow(-1, p-1)
		all := links(known(l))
		for i, x := range all {
			for k, y := range all[i:] {
				checkLists(t, c, l, []api.Link{y, x}, justOf(c, l, []api.Link{x, y}), finalOf(c, l, []api.Link{x, y}))
				for _, z := range all[i+k:] {
					check(t, c, l, []api.Link{x, y, z})
				}
			}
		}
	}
}

// some are n links of the bush that hang on a number alone, of 0 most often; three of four go to one of the next two epochs along a branch, and all others where they like.
func some(n int, seed uint64) []api.Link {
	l := bush()
	roots := known(l)
	word := func(below int) int {
		seed = mix.Step(seed, 1)
		return int(seed % uint64(below))
	}
	var v []api.Link
	for range n {
		x := api.Link{From: word(4) * word(2), Tgt: at(word(6), roots[word(len(roots))])}
		if word(4) == 0 {
			x.Src = at(word(6)-1, append(roots, api.ID{7, 7})[word(len(roots)+1)])
		} else {
			chain := tree.Chain(l, x.Tgt.Root)
			x.Src = at(max(0, x.Tgt.Epoch-1-word(2)), chain[word(len(chain))])
		}
		if x.Src.Epoch == 0 && word(8) > 0 {
			x.Src = first
		}
		v = append(v, x)
	}
	return v
}

// P11.1, P11.2: links of all kinds, of one validator up to four, of which one or none weighs nothing.
func TestSome(t *testing.T) {
	l := bush()
	for seed := range uint64(60) {
		v := some(60, seed)
		for _, c := range []api.Conf{even(1, 1), weighing(1, 0), weighing(0, 0, 0), weighing(5, 1, 2, 1)} {
			check(t, c, l, v)
		}
	}
}

// isPart tells whether all of a are in b.
func isPart(a, b []api.Check) bool {
	return !slices.ContainsFunc(a, func(x api.Check) bool { return !slices.Contains(b, x) })
}

// P11.3: more links make no fewer justified, or final; what is final is justified, and the first one is both.
func TestMoreLinks(t *testing.T) {
	l, come := bush(), [2]int{}
	for seed := range uint64(40) {
		for _, v := range [][]api.Link{some(80, seed), crowd()} {
			for _, c := range []api.Conf{even(1, 1), weighing(3, 1), weighing(5, 1, 2, 1), conf(5)} {
				var just, final []api.Check
				for n := range len(v) + 1 {
					j, f := ffg.Just(c, l, v[:n]), ffg.Final(c, l, v[:n])
					if !isPart(just, j) || !isPart(final, f) {
						t.Fatalf("%v, %v: with %v more %v and %v become %v and %v", c, v[:n-1], v[n-1], just, final, j, f)
					}
					if !isPart(f, j) || len(f) == 0 || f[0] != first {
						t.Fatalf("%v, %v: justified is %v, final is %v", c, v[:n], j, f)
					}
					just, final = j, f
				}
				come[0] += len(just) - 1
				come[1] += len(final) - 1
			}
		}
	}
	if come[0] < 1000 || come[1] < 250 {
		t.Errorf("too few came for this to tell: %d and %d", come[0], come[1])
	}
}

// P11.2: as many blocks as a view may have, and as many links as it may have votes, in a line, side by side, and in forks.
func TestFullView(t *testing.T) {
	side, fork := make([]int, api.MaxBlocks), make([]int, api.MaxBlocks)
	for i := range side {
		side[i], fork[i] = -1, (i-1)/2
	}
	fork[0] = -1
	for _, l := range [][]api.Block{line(api.MaxBlocks), grow(side...), grow(fork...)} {
		n := known(l)
		var v []api.Link
		for i := range api.MaxVotes {
			k := i % len(l)
			src, tgt := api.Check{Epoch: l[k].Slot - 1, Root: l[k].Parent}, at(l[k].Slot, n[k+1])
			if s, _ := tree.Slot(l, l[k].Parent); i%3 > 0 {
				src.Epoch = s
			}
			v = append(v, api.Link{From: i / len(l), Src: src, Tgt: tgt})
		}
		checkLists(t, even(4, 1), l, v, justOf(even(4, 1), l, v), finalOf(even(4, 1), l, v))
		checkLists(t, even(1, 1), l, v, justOf(even(1, 1), l, v), finalOf(even(1, 1), l, v))
	}
}

// P11.2, and P1: far more blocks and links than a view may have, each link behind the one that it stands on, are gone through in good time.
func TestFarMore(t *testing.T) {
	const high, many = 1 << 14, 1 << 17
	c, l := even(2, 1), line(high)
	n := known(l)
	var v []api.Link
	for epoch := many; epoch > 0; epoch-- {
		x := api.Link{Src: at(epoch-1, n[(epoch-1)*high/many]), Tgt: at(epoch, n[epoch*high/many])}
		y := x
		y.From = 1
		v = append(v, x, y)
	}
	just, final := ffg.Just(c, l, v), ffg.Final(c, l, v)
	if len(just) != many+1 || len(final) != many {
		t.Fatalf("justified are %d, final are %d", len(just), len(final))
	}
	for epoch, x := range just {
		if x != at(epoch, n[epoch*high/many]) || epoch < many && x != final[epoch] {
			t.Fatalf("in epoch %d: justified is %v", epoch, x)
		}
	}
	if x := v[7]; !ffg.May(c, l, x) || !ffg.Strong(c, l, v, x.Src, x.Tgt) {
		t.Errorf("%v is not strong", x)
	}
}

// R3: what is handed in stays as it was, also behind the end of a list, and what is answered is shared neither with it nor with another answer.
func TestHandedInStays(t *testing.T) {
	c, l, v := conf(12), bush(), crowd()
	for n := range len(v) + 1 {
		for m := range len(l) + 1 {
			short := c
			short.W = c.W[:m+1]
			for _, call := range []func(api.Conf, []api.Block, []api.Link) []api.Check{ffg.Just, ffg.Final} {
				a, b := call(short, l[:m], v[:n]), call(short, l[:m], v[:n])
				want := slices.Clone(b)
				for i := range a {
					a[i] = at(-5, api.ID{5, 5})
				}
				if !slices.Equal(b, want) || !slices.Equal(call(short, l[:m], v[:n]), want) {
					t.Fatal("a change of one answer changes another one")
				}
			}
			x := v[n%len(v)]
			ffg.May(short, l[:m], x)
			ffg.Strong(short, l[:m], v[:n], x.Src, x.Tgt)
		}
	}
	if !slices.Equal(c.W, conf(12).W) || !slices.Equal(l, bush()) || !slices.Equal(v, crowd()) {
		t.Errorf("they became %v, %v, %v", c, l, v)
	}
}

// R5: nothing hangs on what was asked before, or by whom at the same time.
func TestManyAsk(t *testing.T) {
	c, l, v := conf(5), bush(), crowd()
	var all sync.WaitGroup
	for i := range 8 {
		all.Go(func() {
			for k := range 20 {
				check(t, c, l[:len(l)-(i+k)%3], v[(i*k)%len(v):])
			}
		})
	}
	all.Wait()
}
