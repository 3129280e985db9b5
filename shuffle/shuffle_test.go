package shuffle_test

import (
	"math"
	"slices"
	"sync"
	"testing"

	"marigold/api"
	"marigold/mix"
	"marigold/shuffle"
)

const (
	top    = 1<<64 - 1
	most   = 1000
	rounds = 10
)

// seeds are noughts, the greatest one, edges of words with and without a sign, and such as differ in one bit alone.
func seeds() []uint64 {
	return []uint64{0, 1, 2, 3, 7, 1000, 1001, 1009, 1<<32 - 1, 1 << 32, 1<<63 - 1, 1 << 63, 1<<63 + 1,
		0x0123456789abcdef, 0xfedcba9876543210, 11400714819323198485, top - 1, top}
}

func sizes() []int {
	return []int{1, 2, 3, 4, 5, 7, 8, 12, 40, 63, 64, 100, 255, 256, 257, 500, 512, 997, most - 1, most}
}

func wrongSizes() []int {
	return []int{0, -1, -2, -7, -999, -most, -1001, math.MinInt, math.MinInt + 1, most + 1, most + 2, 1024, 1 << 16,
		1 << 20, 1<<31 - 1, 1 << 31, 1<<32 - 1, 1 << 32, 1<<32 + 1, 1<<32 + 12, 1<<32 + most, 1 << 62, math.MaxInt - 1, math.MaxInt}
}

// wrongPlaces has those as well that would be right as a remainder by n, or if they were cut to four bytes.
func wrongPlaces(n int) []int {
	return []int{-1, -2, -n, -n - 1, -2 * n, math.MinInt, math.MinInt + 1, -1 << 32, n, n + 1, 2*n - 1, 2 * n, 3 * n,
		most + n, 1 << 31, 1 << 32, 1<<32 + n - 1, 1 << 62, math.MaxInt - 1, math.MaxInt}
}

// moved says the same as the chapter's 'a round': it takes a place of n to where the round r takes it.
func moved(seed uint64, n, r, place int) int {
	pivot := int(mix.Step(seed, uint64(r)) % uint64(n))
	mate := pivot - place
	for mate < 0 {
		mate += n
	}
	greater := place
	if mate > place {
		greater = mate
	}
	if mix.Step(mix.Step(seed, uint64(1000+r)), uint64(greater))&1 == 1 {
		return mate
	}
	return place
}

// whole says the same as P4.1 of all places: all of them go through a round ahead of the next one.
func whole(seed uint64, n int) []int {
	l := make([]int, n)
	for i := range l {
		l[i] = i
	}
	for r := range rounds {
		for i := range l {
			l[i] = moved(seed, n, r, l[i])
		}
	}
	return l
}

// wholeBack goes through the same rounds from the last one on.
func wholeBack(seed uint64, n int) []int {
	l := make([]int, n)
	for i := range l {
		l[i] = i
		for r := rounds - 1; r >= 0; r-- {
			l[i] = moved(seed, n, r, l[i])
		}
	}
	return l
}

// P4.1: the chapter's example.
func TestExample(t *testing.T) {
	for _, seed := range seeds() {
		if at, back := shuffle.At(seed, 1, 0), shuffle.Back(seed, 1, 0); at != 0 || back != 0 {
			t.Errorf("seed %d: of one place 0 goes to %d, and comes from %d", seed, at, back)
		}
		if l := shuffle.Perm(seed, 1); !slices.Equal(l, []int{0}) {
			t.Errorf("seed %d: all of one place are %d", seed, l)
		}
	}
}

// P4.1: small shuffles, worked out elsewhere and written as numbers.
func TestWritten(t *testing.T) {
	for _, x := range []struct {
		seed     uint64
		at, back []int
	}{
		{0, []int{1, 0}, []int{1, 0}},
		{0, []int{1, 0, 2}, []int{1, 0, 2}},
		{0, []int{4, 2, 0, 1, 3}, []int{2, 3, 1, 4, 0}},
		{0, []int{3, 0, 11, 1, 4, 10, 6, 5, 2, 9, 7, 8}, []int{1, 3, 8, 0, 4, 7, 6, 10, 11, 9, 5, 2}},
		{1, []int{1, 0}, []int{1, 0}},
		{1, []int{0, 2, 1}, []int{0, 2, 1}},
		{1, []int{10, 1, 11, 2, 6, 8, 5, 9, 4, 0, 7, 3}, []int{9, 1, 3, 11, 8, 6, 4, 10, 5, 7, 0, 2}},
		{7, []int{0, 1}, []int{0, 1}},
		{7, []int{0, 1, 2}, []int{0, 1, 2}},
		{7, []int{4, 0, 3, 1, 2}, []int{1, 3, 4, 2, 0}},
		{1 << 63, []int{0, 1}, []int{0, 1}},
		{1 << 63, []int{4, 0, 2, 1, 3}, []int{1, 3, 2, 4, 0}},
		{1 << 63, []int{8, 11, 4, 7, 2, 5, 6, 0, 3, 1, 10, 9}, []int{7, 9, 4, 8, 2, 5, 6, 3, 0, 11, 10, 1}},
		{top, []int{1, 0}, []int{1, 0}},
		{top, []int{1, 2, 0}, []int{2, 0, 1}},
		{top, []int{0, 4, 1, 2, 3}, []int{0, 2, 3, 4, 1}},
		{top, []int{4, 7, 0, 9, 3, 8, 5, 6, 1, 2, 10, 11}, []int{2, 8, 9, 4, 0, 6, 7, 1, 5, 3, 10, 11}},
	} {
		n := len(x.at)
		if l := shuffle.Perm(x.seed, n); !slices.Equal(l, x.at) {
			t.Errorf("Perm(%d, %d) is %d, not %d", x.seed, n, l, x.at)
		}
		for i := range n {
			if p := shuffle.At(x.seed, n, i); p != x.at[i] {
				t.Errorf("At(%d, %d, %d) is %d, not %d", x.seed, n, i, p, x.at[i])
			}
			if p := shuffle.Back(x.seed, n, i); p != x.back[i] {
				t.Errorf("Back(%d, %d, %d) is %d, not %d", x.seed, n, i, p, x.back[i])
			}
		}
	}
}

// P4.1: places of the greatest shuffle, worked out elsewhere and written as numbers.
func TestGreatestWritten(t *testing.T) {
	places := []int{0, 1, 499, 500, 998, 999}
	for _, x := range []struct {
		seed     uint64
		at, back []int
	}{
		{0, []int{373, 538, 80, 17, 514, 48}, []int{360, 680, 689, 95, 278, 764}},
		{5, []int{633, 315, 711, 71, 148, 542}, []int{865, 101, 755, 53, 922, 880}},
		{top, []int{744, 432, 676, 728, 714, 918}, []int{234, 430, 597, 583, 521, 957}},
	} {
		l := shuffle.Perm(x.seed, most)
		if len(l) != most {
			t.Fatalf("Perm(%d, %d) has %d places", x.seed, most, len(l))
		}
		for k, i := range places {
			at, back := shuffle.At(x.seed, most, i), shuffle.Back(x.seed, most, i)
			if at != x.at[k] || back != x.back[k] || l[i] != x.at[k] {
				t.Errorf("seed %d: %d of %d goes to %d and %d, and comes from %d", x.seed, i, most, at, l[i], back)
			}
		}
	}
}

// P4.1: all places of many sizes, held against a plain going through the rounds.
func TestAllPlaces(t *testing.T) {
	for _, seed := range seeds() {
		for _, n := range sizes() {
			want, wantBack := whole(seed, n), wholeBack(seed, n)
			if l := shuffle.Perm(seed, n); !slices.Equal(l, want) {
				t.Errorf("Perm(%d, %d) is %d, not %d", seed, n, l, want)
			}
			for i := range n {
				if p := shuffle.At(seed, n, i); p != want[i] {
					t.Errorf("At(%d, %d, %d) is %d, not %d", seed, n, i, p, want[i])
				}
				if p := shuffle.Back(seed, n, i); p != wantBack[i] {
					t.Errorf("Back(%d, %d, %d) is %d, not %d", seed, n, i, p, wantBack[i])
				}
			}
		}
	}
}

// P4.1: every size there is, held against a plain going through the rounds.
func TestEverySize(t *testing.T) {
	for n := 1; n <= most; n++ {
		seed := uint64(n) * 0x9e3779b97f4a7c15
		if l, want := shuffle.Perm(seed, n), whole(seed, n); !slices.Equal(l, want) {
			t.Errorf("Perm(%d, %d) is %d, not %d", seed, n, l, want)
		}
		for _, i := range []int{0, n / 2, n - 1} {
			want := i
			for r := rounds - 1; r >= 0; r-- {
				want = moved(seed, n, r, want)
			}
			if p := shuffle.Back(seed, n, i); p != want {
				t.Errorf("Back(%d, %d, %d) is %d, not %d", seed, n, i, p, want)
			}
		}
	}
}

// P4.1: Perm tells At of each place, in order.
func TestPermTellsAt(t *testing.T) {
	for _, seed := range seeds() {
		for _, n := range sizes() {
			l := shuffle.Perm(seed, n)
			if len(l) != n {
				t.Fatalf("Perm(%d, %d) has %d places", seed, n, len(l))
			}
			for i, p := range l {
				if q := shuffle.At(seed, n, i); p != q {
					t.Errorf("seed %d: %d of %d goes to %d, and with all others to %d", seed, i, n, q, p)
				}
			}
		}
	}
}

// P4.1: the number of rounds is that of api.
func TestRoundsOfAPI(t *testing.T) {
	if api.Rounds != rounds {
		t.Errorf("there are %d rounds", api.Rounds)
	}
}

// P4.1: the seed and the size both matter, also where they differ a little.
func TestSeedAndSizeMatter(t *testing.T) {
	seen := map[string]uint64{}
	for _, seed := range seeds() {
		key := ""
		for _, p := range shuffle.Perm(seed, 40) {
			key += string(rune('0' + p))
		}
		if s, is := seen[key]; is {
			t.Errorf("the seeds %d and %d shuffle alike", s, seed)
		}
		seen[key] = seed
	}
	for _, seed := range seeds() {
		if l := shuffle.Perm(seed, 41); slices.Equal(l[:40], shuffle.Perm(seed, 40)) {
			t.Errorf("seed %d shuffles 40 and 41 alike", seed)
		}
		if l := shuffle.Perm(seed, 40); slices.IsSorted(l) {
			t.Errorf("seed %d shuffles nothing", seed)
		}
	}
}

// P4.1, and P1: an n that may not be, whatever the place is.
func TestWrongSizes(t *testing.T) {
	for _, seed := range seeds() {
		for _, n := range wrongSizes() {
			for _, i := range append(wrongPlaces(12), 0, 1, 5, 11, 999, n, n-1, n+1, n/2, -n) {
				if p := shuffle.At(seed, n, i); p != -1 {
					t.Errorf("At(%d, %d, %d) is %d", seed, n, i, p)
				}
				if p := shuffle.Back(seed, n, i); p != -1 {
					t.Errorf("Back(%d, %d, %d) is %d", seed, n, i, p)
				}
			}
			if l := shuffle.Perm(seed, n); len(l) != 0 {
				t.Errorf("Perm(%d, %d) has %d places", seed, n, len(l))
			}
		}
	}
}

// P4.1, and P1: a place that may not be, of an n that may be.
func TestWrongPlaces(t *testing.T) {
	for _, seed := range seeds() {
		for _, n := range sizes() {
			for _, i := range wrongPlaces(n) {
				if p := shuffle.At(seed, n, i); p != -1 {
					t.Errorf("At(%d, %d, %d) is %d", seed, n, i, p)
				}
				if p := shuffle.Back(seed, n, i); p != -1 {
					t.Errorf("Back(%d, %d, %d) is %d", seed, n, i, p)
				}
			}
		}
	}
}

// P4.1: places and sizes on both sides of every edge.
func TestEdges(t *testing.T) {
	for n := -3; n <= most+3; n++ {
		for _, i := range []int{-2, -1, 0, n - 1, n, n + 1} {
			want := n >= 1 && n <= most && i >= 0 && i < n
			at, back := shuffle.At(9, n, i), shuffle.Back(9, n, i)
			if !want && (at != -1 || back != -1) {
				t.Errorf("%d of %d goes to %d, and comes from %d", i, n, at, back)
			}
			if want && (at < 0 || at >= n || back < 0 || back >= n) {
				t.Errorf("%d of %d goes to %d, and comes from %d", i, n, at, back)
			}
		}
	}
}

// P4.2: each place is that of just one.
func TestEachPlaceIsOfJustOne(t *testing.T) {
	for _, seed := range seeds() {
		for n := 1; n <= most; n += 1 + n/8 {
			times := make([]int, n)
			for _, p := range shuffle.Perm(seed, n) {
				if p < 0 || p >= n {
					t.Fatalf("Perm(%d, %d) has %d", seed, n, p)
				}
				times[p]++
			}
			for p, k := range times {
				if k != 1 {
					t.Errorf("Perm(%d, %d) has %d %d times", seed, n, p, k)
				}
			}
		}
	}
}

// P4.2: Back of At is the place, and At of Back.
func TestBackOfAt(t *testing.T) {
	for _, seed := range seeds() {
		for _, n := range sizes() {
			for i := range n {
				if p := shuffle.Back(seed, n, shuffle.At(seed, n, i)); p != i {
					t.Errorf("seed %d: Back of At of %d of %d is %d", seed, i, n, p)
				}
				if p := shuffle.At(seed, n, shuffle.Back(seed, n, i)); p != i {
					t.Errorf("seed %d: At of Back of %d of %d is %d", seed, i, n, p)
				}
			}
		}
	}
}

// P1, P4.1 and P4.2: any arguments at all.
func FuzzShuffle(f *testing.F) {
	for _, seed := range []uint64{0, 7, top} {
		for _, n := range []int{math.MinInt, -1, 0, 1, 2, 12, most, most + 1, math.MaxInt} {
			for _, i := range []int{math.MinInt, -1, 0, 1, n - 1, n, math.MaxInt} {
				f.Add(seed, n, i)
			}
		}
	}
	f.Fuzz(func(t *testing.T, seed uint64, n, i int) {
		at, back, l := shuffle.At(seed, n, i), shuffle.Back(seed, n, i), shuffle.Perm(seed, n)
		if n < 1 || n > most {
			if at != -1 || back != -1 || len(l) != 0 {
				t.Errorf("%d of %d goes to %d, and comes from %d; all are %d", i, n, at, back, l)
			}
			return
		}
		if !slices.Equal(l, whole(seed, n)) {
			t.Errorf("Perm(%d, %d) is %d", seed, n, l)
		}
		if i < 0 || i >= n {
			if at != -1 || back != -1 {
				t.Errorf("%d of %d goes to %d, and comes from %d", i, n, at, back)
			}
			return
		}
		if at != l[i] || l[back] != i {
			t.Errorf("%d of %d goes to %d, and comes from %d; all are %d", i, n, at, back, l)
		}
	})
}

// R3: what was answered is the caller's own, also behind its end.
func TestPermIsOwn(t *testing.T) {
	for _, n := range sizes() {
		want := whole(4, n)
		a, b := shuffle.Perm(4, n), shuffle.Perm(4, n)
		for i := range a[:cap(a)] {
			a[:cap(a)][i] = -5
		}
		if !slices.Equal(b, want) || !slices.Equal(shuffle.Perm(4, n), want) {
			t.Errorf("Perm of %d was changed with another answer", n)
		}
		if p := shuffle.At(4, n, 0); p != want[0] {
			t.Errorf("At of 0 of %d was changed with another answer: %d", n, p)
		}
	}
}

// question is a call's arguments, and what the document says of it.
type question struct {
	seed     uint64
	n, i     int
	at, back int
	all      []int
}

// questions has wrong ones among the right ones.
func questions() []question {
	var l []question
	for _, seed := range []uint64{0, 1, 1 << 63, top} {
		for _, n := range []int{1, 2, 12, 40, most} {
			all, back := whole(seed, n), wholeBack(seed, n)
			for _, i := range []int{0, n / 2, n - 1} {
				l = append(l, question{seed, n, i, all[i], back[i], all})
			}
			l = append(l, question{seed, n, n, -1, -1, all}, question{seed, n, -1, -1, -1, all})
		}
		l = append(l, question{seed, 0, 0, -1, -1, nil}, question{seed, most + 1, 3, -1, -1, nil})
	}
	return l
}

func (q question) hold(t *testing.T) {
	if p := shuffle.At(q.seed, q.n, q.i); p != q.at {
		t.Errorf("At(%d, %d, %d) is %d, not %d", q.seed, q.n, q.i, p, q.at)
	}
	if p := shuffle.Back(q.seed, q.n, q.i); p != q.back {
		t.Errorf("Back(%d, %d, %d) is %d, not %d", q.seed, q.n, q.i, p, q.back)
	}
	if l := shuffle.Perm(q.seed, q.n); !slices.Equal(l, q.all) {
		t.Errorf("Perm(%d, %d) is %d, not %d", q.seed, q.n, l, q.all)
	}
}

// R5: an answer is the same whatever was asked before: each question behind each other one.
func TestAskedBefore(t *testing.T) {
	all := questions()
	for _, first := range all {
		for _, second := range all {
			shuffle.At(first.seed, first.n, first.i)
			if p := shuffle.At(second.seed, second.n, second.i); p != second.at {
				t.Errorf("At(%d, %d, %d) is %d, not %d", second.seed, second.n, second.i, p, second.at)
			}
			shuffle.Back(first.seed, first.n, first.i)
			if p := shuffle.Back(second.seed, second.n, second.i); p != second.back {
				t.Errorf("Back(%d, %d, %d) is %d, not %d", second.seed, second.n, second.i, p, second.back)
			}
		}
	}
	for _, q := range all {
		q.hold(t)
	}
	slices.Reverse(all)
	for _, q := range all {
		q.hold(t)
		q.hold(t)
	}
}

// R5: many ask at the same time, each in an order of its own.
func TestManyAsk(t *testing.T) {
	all := questions()
	var askers sync.WaitGroup
	for k := range 16 {
		askers.Go(func() {
			for i := range all {
				all[(i*5+k*7)%len(all)].hold(t)
			}
		})
	}
	askers.Wait()
}
