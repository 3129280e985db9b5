package slash_test

import (
	"cmp"
	"math"
	"slices"
	"sync"
	"testing"

	"marigold/api"
	"marigold/mix"
	"marigold/slash"
)

// P12.2: of no links nobody is guilty, nor of one, however often it is there.
func TestNone(t *testing.T) {
	checkGuilty(t, nil)
	checkGuilty(t, []api.Link{})
	for _, src := range numbers() {
		for _, tgt := range numbers() {
			for n := 1; n <= 4; n++ {
				checkGuilty(t, slices.Repeat([]api.Link{link(src, tgt, src, 1)}, n))
				checkGuilty(t, slices.Repeat([]api.Link{link(2, src, tgt, 1)}, n))
			}
		}
	}
}

// P12.2: links of several, up one branch and on several, written out.
func TestCrowd(t *testing.T) {
	checkGuilty(t, crowd(), 2, 4, 7)
	for i, want := range [][]int{9: {}, 10: {2}, 12: {2}, 13: {2, 4}, 14: {2, 4, 7}, 20: {2, 4, 7}} {
		if want != nil {
			checkGuilty(t, crowd()[:i], want...)
		}
	}
}

// P12.2: up one branch nobody is guilty, neither epoch by epoch nor over several, also where all vote twice.
func TestAlong(t *testing.T) {
	for step := 1; step <= 5; step++ {
		var v []api.Link
		for who := range 12 {
			for epoch := 0; epoch < 40; epoch += step {
				v = append(v, link(who, epoch, epoch+step, uint64(epoch)))
			}
		}
		checkGuilty(t, v)
		checkGuilty(t, slices.Concat(v, v))
		checkGuilty(t, append(v, link(5, 0, 40+step, 1)), 5)
		checkGuilty(t, append(v, link(11, 0, step, 77)), 11)
	}
}

// P12.2: two that are a pair, wherever they stand among others of the same one, and of others.
func TestOthersBetween(t *testing.T) {
	for _, pair := range [][]api.Link{
		{link(3, 4, 7, 1), link(3, 5, 6, 1)},
		{link(3, 5, 6, 1), link(3, 4, 7, 1)},
		{link(3, 4, 7, 1), link(3, 4, 7, 2)},
		{link(3, 4, 7, 2), link(3, 4, 7, 1)},
		{link(3, 4, 7, 1), link(3, 5, 7, 1)},
		{link(3, 5, 7, 1), link(3, 4, 7, 1)},
	} {
		others := []api.Link{link(3, 0, 1, 1), link(2, 4, 7, 1), link(3, 1, 2, 1), link(4, 5, 6, 1), link(3, 2, 4, 1), link(3, 8, 9, 1)}
		checkGuilty(t, others)
		for i := range len(others) + 1 {
			v := slices.Insert(slices.Clone(others), i, pair[0])
			checkGuilty(t, v)
			for k := range len(v) + 1 {
				checkGuilty(t, slices.Insert(slices.Clone(v), k, pair[1]), 3)
			}
		}
	}
}

// P12.2: who spans a link from far is guilty, however many links stand between them that neither one is a pair with.
func TestFarBetween(t *testing.T) {
	v := []api.Link{link(1, 10, 20, 1)}
	for tgt := 21; tgt < 60; tgt++ {
		v = append(v, link(1, 10, tgt, 1))
	}
	checkGuilty(t, v)
	checkGuilty(t, append(v, link(1, 9, 60, 1)), 1)
	checkGuilty(t, append(v, link(1, 9, 21, 1)), 1)
	checkGuilty(t, append(v, link(1, 9, 20, 1)), 1)
	checkGuilty(t, append(v, link(1, 9, 19, 1)))
	checkGuilty(t, append(v, link(1, 10, 60, 1)))
	checkGuilty(t, append(v, link(1, 11, 60, 1)))
	checkGuilty(t, append(v, link(1, 11, 58, 1)), 1)
	checkGuilty(t, append(v, link(1, 11, 19, 1)), 1)
}

// P12.2: some who are guilty, handed in falling, mixed and rising, are told rising, each once.
func TestRising(t *testing.T) {
	for _, order := range [][]int{{9, 8, 7, 6, 5, 4, 3, 2, 1, 0}, {3, 9, 0, 7, 5, 1, 8, 2, 6, 4}, {0, 1, 2, 3, 4, 5, 6, 7, 8, 9}} {
		var first, second, near []api.Link
		for _, who := range order {
			x, y := link(who, 0, 3, 1), link(who, 1, 2, 1)
			first, second, near = append(first, x), append(second, y), append(near, x, y)
		}
		back := slices.Clone(second)
		slices.Reverse(back)
		for _, v := range [][]api.Link{near, slices.Concat(first, second), slices.Concat(first, back), slices.Concat(back, first, second)} {
			checkGuilty(t, v, 0, 1, 2, 3, 4, 5, 6, 7, 8, 9)
		}
	}
}

// P12.2: who has many pairs is told once.
func TestManyPairs(t *testing.T) {
	var v []api.Link
	for who := 5; who > 0; who-- {
		for i := range 20 {
			v = append(v, link(who, i, 60-i, uint64(i)), link(who, 20, 30, uint64(i)), link(who, 0, 3, 1), link(6, 0, 3, 1))
		}
	}
	checkGuilty(t, v, 1, 2, 3, 4, 5)
}

// P12.2: whoever it is, below 0 and of the greatest numbers as well, stands where it belongs, and nobody is taken for another one.
func TestGuiltyEdges(t *testing.T) {
	var v, far []api.Link
	for _, who := range slices.Backward(numbers()) {
		v = append(v, link(who, 0, 3, 1), link(who, 1, 2, 1))
		far = append(far, link(who, who, 3, 1), link(who, 3, who, 1))
	}
	checkGuilty(t, v, numbers()...)
	checkGuilty(t, far, guiltyOf(far)...)
	for i := range v {
		want := numbers()
		slices.Reverse(want)
		want = slices.Delete(want, i/2, i/2+1)
		slices.Reverse(want)
		checkGuilty(t, slices.Delete(slices.Clone(v), i, i+1), want...)
	}
	for _, src := range numbers() {
		for _, tgt := range numbers() {
			some := []api.Link{link(4, src, tgt, 1), link(4, tgt, src, 1), link(4, src, src, 1), link(math.MinInt, src, tgt, 1), link(math.MaxInt, tgt, src, 1)}
			checkGuilty(t, some, guiltyOf(some)...)
		}
	}
}

// P12.2: all lists of three links of one whose targets' epochs are at the edges, far off each other as well.
func TestGuiltyFarEpochs(t *testing.T) {
	var all []api.Link
	for _, tgt := range numbers() {
		all = append(all, link(1, math.MinInt, tgt, 1), link(1, 0, tgt, 1))
	}
	for _, a := range all {
		for _, b := range all {
			for _, c := range all {
				v := []api.Link{a, b, c}
				checkGuilty(t, v, guiltyOf(v)...)
			}
		}
	}
}

// P12.2: all lists of up to three links of one, of few epochs, and all of two others among them.
func TestGuiltySmall(t *testing.T) {
	all, two := small(1, 4), small(2, 3)
	for _, a := range all {
		for _, b := range all {
			checkGuilty(t, []api.Link{a, b}, guiltyOf([]api.Link{a, b})...)
			for _, c := range all {
				checkGuilty(t, []api.Link{a, b, c}, guiltyOf([]api.Link{a, b, c})...)
			}
		}
	}
	for _, a := range two {
		for _, b := range two {
			for _, c := range two {
				v := []api.Link{a, link(1, 1, 2, 0), b, link(0, 0, 1, 0), c}
				checkGuilty(t, v, guiltyOf(v)...)
			}
		}
	}
}

// orders calls f with v in every order.
func orders(v []api.Link, f func(v []api.Link)) {
	var try func(done, rest []api.Link)
	try = func(done, rest []api.Link) {
		if len(rest) == 0 {
			f(done)
		}
		for i, x := range rest {
			try(append(slices.Clone(done), x), slices.Delete(slices.Clone(rest), i, i+1))
		}
	}
	try(nil, v)
}

// P12.2: links in another order answer the same.
func TestAnyOrder(t *testing.T) {
	for _, v := range [][]api.Link{
		{link(5, 0, 1, 0), link(3, 0, 3, 0), link(5, 0, 1, 1), link(3, 1, 2, 0), link(4, 0, 1, 0), link(4, 1, 2, 0)},
		{link(1, 0, 6, 0), link(1, 0, 5, 0), link(1, 1, 7, 0), link(1, 2, 8, 0), link(1, 0, 4, 0), link(1, 3, 7, 0)},
		{link(1, 0, 6, 0), link(1, 0, 5, 0), link(1, 1, 7, 0), link(1, 2, 8, 0), link(1, 0, 4, 0), link(2, 3, 7, 0)},
		{link(1, 0, 6, 0), link(1, 0, 6, 0), link(1, 0, 6, 1), link(2, 0, 6, 0), link(2, 0, 6, 0), link(1, 0, 6, 1)},
	} {
		want := guiltyOf(v)
		orders(v, func(v []api.Link) { checkGuilty(t, v, want...) })
	}
	v := crowd()
	for i := range v {
		turned := slices.Concat(v[i:], v[:i])
		checkGuilty(t, turned, 2, 4, 7)
		checkGuilty(t, slices.Concat(turned, v[:i]), 2, 4, 7)
		slices.Reverse(turned)
		checkGuilty(t, turned, 2, 4, 7)
	}
}

// some are n links of a few that hang on a number alone, most of them to one of the next two epochs.
func some(n int, seed uint64) []api.Link {
	word := func(below int) int {
		seed = mix.Step(seed, 1)
		return int(seed % uint64(below))
	}
	var v []api.Link
	for range n {
		src := word(30)
		x := link(word(12)-2, src, src+1+word(2), uint64(src))
		switch word(20) {
		case 0:
			x.Tgt.Root = ids()[word(len(ids()))]
		case 1:
			x.Src.Root = ids()[word(len(ids()))]
		case 2:
			x.Tgt.Epoch = word(40) - 2
		}
		v = append(v, x)
	}
	return v
}

// P12.2: links of all kinds; one after the other, who is guilty stays so, and only whose link comes can become so.
func TestMoreLinks(t *testing.T) {
	come, stayed := 0, 0
	for seed := range uint64(60) {
		v, before := some(60, seed), []int(nil)
		for n := range len(v) + 1 {
			who := slash.Guilty(v[:n])
			if !slices.Equal(who, guiltyOf(v[:n])) {
				t.Fatalf("%v: guilty are %v, not %v", v[:n], who, guiltyOf(v[:n]))
			}
			for _, x := range before {
				if !slices.Contains(who, x) {
					t.Fatalf("%v: with one more link %d is guilty no more", v[:n], x)
				}
			}
			for _, x := range who {
				if !slices.Contains(before, x) && x != v[n-1].From {
					t.Fatalf("%v: by a link of another one %d is guilty", v[:n], x)
				}
			}
			before = who
		}
		come += len(before)
		stayed += 12 - len(before)
	}
	if come < 100 || stayed < 100 {
		t.Errorf("too few came, or stayed, for this to tell: %d and %d", come, stayed)
	}
}

// P12.2: links of others do not matter: those who are guilty are so by their own links alone.
func TestOthersDoNotMatter(t *testing.T) {
	lists := [][]api.Link{crowd()}
	for seed := range uint64(60) {
		lists = append(lists, some(80, seed))
	}
	for _, v := range lists {
		who := slash.Guilty(v)
		for one := -3; one < 12; one++ {
			isOther := func(x api.Link) bool { return x.From != one }
			own := slices.DeleteFunc(slices.Clone(v), isOther)
			if slices.Contains(who, one) {
				checkGuilty(t, own, one)
			} else {
				checkGuilty(t, own)
			}
			without := slices.DeleteFunc(slices.Clone(v), func(x api.Link) bool { return x.From == one })
			checkGuilty(t, without, slices.DeleteFunc(slices.Clone(who), func(x int) bool { return x == one })...)
		}
	}
}

// P12.2, and P1: far more links than a view may have are gone through in good time, of one, and of many, where nobody is guilty, one is, and all are.
func TestFarMore(t *testing.T) {
	const many = 1 << 18
	var one, all []api.Link
	for i := many; i > 0; i-- {
		one = append(one, link(1, i-1, i, 1))
		all = append(all, link(i/2, 1-i%2, 3-i%2, 1))
	}
	checkGuiltyMany(t, one, 0)
	checkGuiltyMany(t, all, 0)
	checkGuiltyMany(t, append(slices.Clone(one), link(1, 2, many+1, 1)), 1)
	checkGuiltyMany(t, append(slices.Clone(one), link(2, 2, many+1, 1), link(1, many-1, many, 2)), 1)
	for i := range all {
		all[i].Src.Epoch = -all[i].Src.Epoch
	}
	checkGuiltyMany(t, all, many/2-1)
	checkGuiltyMany(t, slices.Repeat([]api.Link{link(1, 0, 1, 1)}, many), 0)
}

// checkGuiltyMany holds how many are guilty against what is written out, and that they rise.
func checkGuiltyMany(t *testing.T, v []api.Link, n int) {
	t.Helper()
	who := slash.Guilty(v)
	if len(who) != n {
		t.Errorf("of %d links %d are guilty, not %d", len(v), len(who), n)
	}
	if !slices.IsSortedFunc(who, func(a, b int) int { return cmp.Or(cmp.Compare(a, b), 1) }) {
		t.Error("they do not rise")
	}
}

// R3: what is handed in stays as it was, also behind the end of a list.
func TestHandedInStays(t *testing.T) {
	v := crowd()
	for n := range len(v) + 1 {
		slash.Guilty(v[:n])
		slash.Pair(v[n%len(v)], v[0])
	}
	if !slices.Equal(v, crowd()) {
		t.Errorf("the links became %v", v)
	}
}

// R3: who changes or lengthens an answer changes neither the links nor another answer; who changes the links later changes no answer.
func TestAnswersAreTheCallersOwn(t *testing.T) {
	v := crowd()
	a, b := slash.Guilty(v), slash.Guilty(v)
	for i := range a {
		a[i] = 99
	}
	_ = append(a, 98)
	_ = append(a[:1], 97)
	if !slices.Equal(b, []int{2, 4, 7}) || !slices.Equal(v, crowd()) {
		t.Errorf("guilty became %v, by %v", b, v)
	}
	clear(v)
	if !slices.Equal(b, []int{2, 4, 7}) {
		t.Errorf("guilty became %v", b)
	}
	checkGuilty(t, crowd(), 2, 4, 7)
}

// R5: nothing hangs on what was asked before, or by whom at the same time.
func TestManyAsk(t *testing.T) {
	var all sync.WaitGroup
	shared := crowd()
	for i := range 8 {
		all.Go(func() {
			for k := range 50 {
				v := some(40, uint64(i*k))
				checkGuilty(t, v, guiltyOf(v)...)
				checkGuilty(t, shared[k%len(shared):], guiltyOf(shared[k%len(shared):])...)
			}
		})
	}
	all.Wait()
}
