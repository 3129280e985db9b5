package duty_test

import (
	"math"
	"slices"
	"strconv"
	"sync"
	"testing"

	"marigold/api"
	"marigold/duty"
	"marigold/mix"
	"marigold/shuffle"
)

const (
	top     = 1<<64 - 1
	heavy   = 1 << 40
	last    = 1 << 20
	mostOf  = 12
	longest = 8
	finest  = 1000
)

// seeds are noughts, the greatest one, edges of words with and without a sign, and such as differ in one bit alone.
func seeds() []uint64 {
	return []uint64{0, 1, 2, 3, 7, 1000, 1<<32 - 1, 1 << 32, 1<<63 - 1, 1 << 63, 0x0123456789abcdef, top - 1, top}
}

// slots are on both sides of the edges of epochs of any length, and of all slots.
func slots() []int {
	l := []int{63, 64, 65, 840, 1000, 65535, 65536, 1<<19 - 1, 1 << 19, last - 16, last - 2, last - 1, last}
	for slot := 1; slot <= 25; slot++ {
		l = append(l, slot)
	}
	return l
}

// wrongSlots has those as well that would be right, if they were cut to four bytes or had no sign.
func wrongSlots() []int {
	return []int{0, -1, -2, -8, -last, last + 1, last + 2, 2 * last, 1<<31 - 1, 1 << 31, 1 << 32, 1<<32 + 1, 1<<32 + last,
		1 << 62, -1 << 32, math.MinInt, math.MinInt + 1, math.MinInt + 8, math.MaxInt - 1, math.MaxInt}
}

// strangers are no validators of n; some would be, as a remainder by n, or cut to four bytes.
func strangers(n int) []int {
	return []int{-1, -2, -n, -n - 1, -8, -12, n, n + 1, 2*n - 1, 2 * n, 1000, 1 << 31, 1 << 32, 1<<32 + n - 1, -1 << 32,
		math.MinInt, math.MinInt + 1, math.MaxInt - 1, math.MaxInt}
}

// conf has n weights, so that no two lists of validators weigh the same.
func conf(n int, seed uint64, epoch int) api.Conf {
	c := api.Conf{Seed: seed, Epoch: epoch, Num: 1, Den: 4}
	for i := range n {
		c.W = append(c.W, 1<<i)
	}
	return c
}

// wrong is a conf that may not be, and why.
type wrong struct {
	why string
	c   api.Conf
}

// wrongConfs are such as are beyond just one edge.
func wrongConfs() []wrong {
	var l []wrong
	add := func(why string, x int, change func(c *api.Conf)) {
		c := conf(5, 7, 2)
		change(&c)
		l = append(l, wrong{why + " " + strconv.Itoa(x), c})
	}
	add("weights", 0, func(c *api.Conf) { c.W = nil })
	add("weights, not nil", 0, func(c *api.Conf) { c.W = []int{} })
	for _, n := range []int{mostOf + 1, mostOf + 2, 24, 1000, 1001, 1 << 16} {
		add("weights", n, func(c *api.Conf) { c.W = make([]int, n) })
	}
	for _, w := range []int{-1, -2, -heavy, math.MinInt, heavy + 1, 2 * heavy, 1 << 62, math.MaxInt} {
		for i := range 5 {
			add("the weight of "+strconv.Itoa(i), w, func(c *api.Conf) { c.W[i] = w })
		}
		add("one weight alone", w, func(c *api.Conf) { c.W = []int{w} })
		add("the last of all weights", w, func(c *api.Conf) { c.W = append(make([]int, mostOf-1), w) })
	}
	for _, x := range []int{0, -1, -2, -8, math.MinInt, longest + 1, 16, 1 << 32, 1<<32 + 1, math.MaxInt} {
		add("Epoch", x, func(c *api.Conf) { c.Epoch = x })
	}
	for _, x := range []int{-1, -4, -5, math.MinInt, 5, 8, finest, 1<<32 + 1, math.MaxInt} {
		add("Num", x, func(c *api.Conf) { c.Num = x })
	}
	for _, x := range []int{0, -1, -4, -finest, math.MinInt, finest + 1, 1 << 32, 1<<32 + 4, math.MaxInt} {
		add("Num of 0, and Den", x, func(c *api.Conf) { c.Num, c.Den = 0, x })
		add("Num as Den is", x, func(c *api.Conf) { c.Num, c.Den = x, x })
		add("Num of 1, and Den", x, func(c *api.Conf) { c.Den = x })
	}
	add("Num above a Den of", 1, func(c *api.Conf) { c.Num, c.Den = 2, 1 })
	add("Num above a Den of", finest, func(c *api.Conf) { c.Num, c.Den = finest+1, finest })
	add("Num below 0 and a Den of", 1, func(c *api.Conf) { c.Num, c.Den = -1, 1 })
	add("noughts", 0, func(c *api.Conf) { *c = api.Conf{} })
	return l
}

// rightConfs stand on every edge of what may be.
func rightConfs() []api.Conf {
	var l []api.Conf
	for _, beta := range [][2]int{{0, 1}, {1, 1}, {0, finest}, {1, finest}, {finest - 1, finest}, {finest, finest}, {0, 4}, {1, 4}, {4, 4}} {
		for _, w := range []int{0, 1, heavy - 1, heavy} {
			for n := 1; n <= mostOf; n++ {
				for epoch := 1; epoch <= longest; epoch++ {
					all := slices.Repeat([]int{w}, n)
					l = append(l, api.Conf{W: all, Seed: uint64(len(l)), Epoch: epoch, Num: beta[0], Den: beta[1]})
				}
			}
		}
	}
	return l
}

// committee says the same as P5.2 by another way: place by place of those that vote in the slot it tells who has it.
func committee(c api.Conf, slot int) []int {
	n := len(c.W)
	seed := mix.Step(c.Seed, uint64(slot/c.Epoch))
	var l []int
	for place := slot % c.Epoch; place < n; place += c.Epoch {
		l = append(l, shuffle.Back(seed, n, place))
	}
	slices.Sort(l)
	return l
}

// P5.2: the chapter's example.
func TestExample(t *testing.T) {
	for _, seed := range seeds() {
		c := conf(1, seed, 1)
		for _, slot := range slots() {
			if l := duty.Committee(c, slot); !slices.Equal(l, []int{0}) || !duty.In(c, slot, 0) {
				t.Errorf("seed %d, slot %d: %d vote", seed, slot, l)
			}
			if p := duty.Proposer(c, slot); p != 0 {
				t.Errorf("seed %d, slot %d: %d proposes", seed, slot, p)
			}
		}
	}
}

// P5.1: confs on the edges of what may be.
func TestMay(t *testing.T) {
	for _, c := range rightConfs() {
		if !duty.May(c) {
			t.Errorf("%v may not be", c)
		}
		if w := duty.Total(c); w != len(c.W)*c.W[0] {
			t.Errorf("all of %v weigh %d", c, w)
		}
	}
	for _, seed := range seeds() {
		if !duty.May(conf(12, seed, 8)) {
			t.Errorf("a conf of seed %d may not be", seed)
		}
	}
}

// P5.1 and P5.2, and P1: confs that are beyond one edge, and what all calls tell of them.
func TestMayNot(t *testing.T) {
	for _, x := range wrongConfs() {
		if duty.May(x.c) {
			t.Errorf("%s: it may be", x.why)
		}
		if w := duty.Total(x.c); w != 0 {
			t.Errorf("%s: all weigh %d", x.why, w)
		}
		for _, l := range [][]int{nil, {}, {0}, {0, 1, 2, 3, 4}, {4, 4}, {-1}, {math.MaxInt}} {
			if w := duty.Weight(x.c, l); w != 0 {
				t.Errorf("%s: %d weigh %d", x.why, l, w)
			}
		}
		for _, slot := range append(wrongSlots(), 1, 2, 3, 8, last) {
			if l := duty.Committee(x.c, slot); len(l) != 0 {
				t.Errorf("%s: in slot %d %d vote", x.why, slot, l)
			}
			if p := duty.Proposer(x.c, slot); p != -1 {
				t.Errorf("%s: in slot %d %d proposes", x.why, slot, p)
			}
			for _, who := range append(strangers(5), 0, 1, 2, 3, 4) {
				if duty.In(x.c, slot, who) {
					t.Errorf("%s: in slot %d %d votes", x.why, slot, who)
				}
			}
		}
	}
}

// P5.1: ordinary lists, those with somebody twice or who is no validator, and empty ones.
func TestWeight(t *testing.T) {
	c := api.Conf{W: []int{1, 20, 0, heavy, 300}, Seed: 7, Epoch: 2, Num: 1, Den: 4}
	for _, x := range []struct {
		l    []int
		want int
	}{
		{nil, 0},
		{[]int{}, 0},
		{[]int{0}, 1},
		{[]int{2}, 0},
		{[]int{3}, heavy},
		{[]int{4, 0}, 301},
		{[]int{0, 4}, 301},
		{[]int{1, 1}, 20},
		{[]int{3, 3, 3, 3, 3}, heavy},
		{[]int{1, 4, 1, 4, 0, 1}, 321},
		{[]int{0, 1, 2, 3, 4}, heavy + 321},
		{[]int{4, 3, 2, 1, 0, 0, 1, 2, 3, 4}, heavy + 321},
		{[]int{-1}, 0},
		{[]int{5}, 0},
		{[]int{-1, -1, 5, 5}, 0},
		{[]int{-1, 1, 5}, 20},
		{[]int{math.MinInt, 4, math.MaxInt, 1 << 32, 1<<32 + 3, -5}, 300},
	} {
		if w := duty.Weight(c, x.l); w != x.want {
			t.Errorf("%d weigh %d, not %d", x.l, w, x.want)
		}
	}
	for _, who := range strangers(5) {
		if w := duty.Weight(c, []int{who}); w != 0 {
			t.Errorf("%d weighs %d", who, w)
		}
	}
}

// P5.1: each list of validators there is, in both orders, with all of them once more and strangers between.
func TestWeightOfEachList(t *testing.T) {
	const n = 7
	c := conf(n, 0, 1)
	for set := range 1 << n {
		var l []int
		for who := range n {
			if set>>who&1 == 1 {
				l = append(l, who)
			}
		}
		down := slices.Clone(l)
		slices.Reverse(down)
		for _, x := range [][]int{l, down, slices.Concat(l, down), slices.Concat(strangers(n), l, strangers(n), l)} {
			if w := duty.Weight(c, x); w != set {
				t.Errorf("%d weigh %d, not %d", x, w, set)
			}
		}
	}
}

// P5.1: a list that is far longer than there are validators.
func TestWeightOfLongList(t *testing.T) {
	c := conf(12, 0, 1)
	l := make([]int, 1<<20)
	for i := range l {
		l[i] = i - 1<<19
	}
	if w := duty.Weight(c, l); w != 1<<12-1 {
		t.Errorf("they weigh %d", w)
	}
}

// P5.1: Total is Weight of all, with weights of 0 and of 2^40 among them.
func TestTotalIsWeightOfAll(t *testing.T) {
	all := []int{0, 1, 2, 3, 4, 5, 6, 7, 8, 9, 10, 11}
	for n := 1; n <= mostOf; n++ {
		for set := range 1 << n {
			c := conf(n, uint64(set), 1+set%longest)
			want := 0
			for who := range n {
				c.W[who] = (set >> who & 1) * heavy
				want += c.W[who]
			}
			if w, v, more := duty.Total(c), duty.Weight(c, all[:n]), duty.Weight(c, all); w != want || v != want || more != want {
				t.Errorf("all of %v weigh %d and %d and %d, not %d", c.W, w, v, more, want)
			}
		}
	}
	if w := duty.Total(api.Conf{W: []int{3, 0, heavy, 17}, Epoch: 1, Den: 1}); w != heavy+20 {
		t.Errorf("all weigh %d", w)
	}
}

// P5.2: who does what, worked out elsewhere and written as numbers.
func TestWritten(t *testing.T) {
	for _, x := range written() {
		c := conf(x.n, x.seed, x.epoch)
		if l := duty.Committee(c, x.slot); !slices.Equal(l, x.vote) {
			t.Errorf("%+v: %d vote", x, l)
		}
		if p := duty.Proposer(c, x.slot); p != x.proposes {
			t.Errorf("%+v: %d proposes", x, p)
		}
		for who := range x.n {
			if in := duty.In(c, x.slot, who); in != slices.Contains(x.vote, who) {
				t.Errorf("%+v: %d votes: %t", x, who, in)
			}
		}
	}
}

// P5.2: committees of all sizes, in epochs of all lengths, held against a plain going through the places.
func TestCommittee(t *testing.T) {
	for _, seed := range seeds() {
		for n := 1; n <= mostOf; n++ {
			for epoch := 1; epoch <= longest; epoch++ {
				c := conf(n, seed, epoch)
				for _, slot := range slots() {
					l, want := duty.Committee(c, slot), committee(c, slot)
					if !slices.Equal(l, want) {
						t.Errorf("%v, slot %d: %d vote, not %d", c, slot, l, want)
					}
				}
			}
		}
	}
}

// P5.2: Committee rises, and In tells just who is of it.
func TestInTellsCommittee(t *testing.T) {
	for _, seed := range seeds() {
		for n := 1; n <= mostOf; n++ {
			for epoch := 1; epoch <= longest; epoch++ {
				c := conf(n, seed, epoch)
				for _, slot := range slots() {
					l := duty.Committee(c, slot)
					for i := 1; i < len(l); i++ {
						if l[i-1] >= l[i] {
							t.Errorf("%v, slot %d: %d do not rise", c, slot, l)
						}
					}
					for who := range n {
						if in := duty.In(c, slot, who); in != slices.Contains(l, who) {
							t.Errorf("%v, slot %d: %d vote, %d votes: %t", c, slot, l, who, in)
						}
					}
					for _, who := range strangers(n) {
						if duty.In(c, slot, who) {
							t.Errorf("%v, slot %d: %d votes", c, slot, who)
						}
					}
				}
			}
		}
	}
}

// P5.2: the proposer, of any number of validators, whatever an epoch is.
func TestProposer(t *testing.T) {
	for _, seed := range seeds() {
		for n := 1; n <= mostOf; n++ {
			for epoch := 1; epoch <= longest; epoch++ {
				c := conf(n, seed, epoch)
				for _, slot := range slots() {
					first := mix.Step(seed, 4294967296)
					want := int(mix.Step(first, uint64(slot)) % uint64(n))
					if p := duty.Proposer(c, slot); p != want {
						t.Errorf("%v, slot %d: %d proposes, not %d", c, slot, p, want)
					}
				}
			}
		}
	}
}

// P5.2: in time each validator proposes, and votes.
func TestNobodyIsLeftOut(t *testing.T) {
	c := conf(12, 5, 8)
	proposes, votes := [mostOf]int{}, [mostOf]int{}
	for slot := 1; slot <= 400; slot++ {
		proposes[duty.Proposer(c, slot)]++
		for _, who := range duty.Committee(c, slot) {
			votes[who]++
		}
	}
	for who := range mostOf {
		if proposes[who] == 0 || votes[who] == 0 {
			t.Errorf("%d proposes %d times, and votes %d times", who, proposes[who], votes[who])
		}
	}
}

// P5.2: neither weights nor beta matter to who does what, but the seed does.
func TestWhatDutiesHangOn(t *testing.T) {
	c := conf(12, 9, 4)
	d := api.Conf{W: make([]int, 12), Seed: 9, Epoch: 4, Num: finest, Den: finest}
	e := conf(12, 10, 4)
	votes, proposes := 0, 0
	for _, slot := range slots() {
		if !slices.Equal(duty.Committee(c, slot), duty.Committee(d, slot)) || duty.Proposer(c, slot) != duty.Proposer(d, slot) {
			t.Errorf("slot %d hangs on weights or beta", slot)
		}
		if !slices.Equal(duty.Committee(c, slot), duty.Committee(e, slot)) {
			votes++
		}
		if duty.Proposer(c, slot) != duty.Proposer(e, slot) {
			proposes++
		}
	}
	if votes == 0 || proposes == 0 {
		t.Errorf("by another seed %d committees are others, and %d proposers", votes, proposes)
	}
}

// P5.2, and P1: what is no slot, of confs that may be.
func TestWrongSlots(t *testing.T) {
	for _, seed := range seeds() {
		for _, n := range []int{1, 2, 5, mostOf} {
			for epoch := 1; epoch <= longest; epoch++ {
				c := conf(n, seed, epoch)
				for _, slot := range wrongSlots() {
					if l := duty.Committee(c, slot); len(l) != 0 {
						t.Errorf("%v, slot %d: %d vote", c, slot, l)
					}
					if p := duty.Proposer(c, slot); p != -1 {
						t.Errorf("%v, slot %d: %d proposes", c, slot, p)
					}
					for who := -1; who <= n; who++ {
						if duty.In(c, slot, who) {
							t.Errorf("%v, slot %d: %d votes", c, slot, who)
						}
					}
				}
			}
		}
	}
}

// P5.3: in an epoch each validator is of just one committee, and the committees are as even as can be.
func TestJustOneCommittee(t *testing.T) {
	for _, seed := range seeds() {
		for n := 1; n <= mostOf; n++ {
			for epoch := 1; epoch <= longest; epoch++ {
				c := conf(n, seed, epoch)
				for _, number := range []int{1, 2, 3, 4, 5, 100, 65536, last/epoch - 1} {
					times := make([]int, n)
					for slot := number * epoch; slot < (number+1)*epoch; slot++ {
						l := duty.Committee(c, slot)
						if len(l) != n/epoch && len(l) != (n+epoch-1)/epoch {
							t.Errorf("%v, slot %d: %d vote", c, slot, l)
						}
						for _, who := range l {
							times[who]++
						}
					}
					for who, k := range times {
						if k != 1 {
							t.Errorf("%v, epoch %d: %d is of %d committees", c, number, who, k)
						}
					}
				}
			}
		}
	}
}

// P5.3: of an epoch that is cut short by the first or the last slot nobody is of two committees either.
func TestCutEpochs(t *testing.T) {
	for _, seed := range seeds() {
		for epoch := 1; epoch <= longest; epoch++ {
			c := conf(12, seed, epoch)
			for _, number := range []int{0, last / epoch} {
				times := [mostOf]int{}
				for slot := number * epoch; slot < (number+1)*epoch; slot++ {
					for _, who := range duty.Committee(c, slot) {
						times[who]++
					}
				}
				for who, k := range times {
					if k > 1 {
						t.Errorf("%v, epoch %d: %d is of %d committees", c, number, who, k)
					}
				}
			}
		}
	}
}

// P5.3: committees of two epochs are not the same for ever.
func TestEpochsDiffer(t *testing.T) {
	c := conf(12, 3, 2)
	others := 0
	for slot := 2; slot < 40; slot += 2 {
		if !slices.Equal(duty.Committee(c, slot), duty.Committee(c, slot+2)) {
			others++
		}
	}
	if others == 0 {
		t.Error("all epochs are shuffled alike")
	}
}

// R3: what is handed in stays as it was, also behind the end of a list.
func TestHandedInStays(t *testing.T) {
	weights := []int{1, 2, 4, 8, 16, 77, 78}
	list := []int{4, 0, 4, 9, -1, 55, 56}
	c := api.Conf{W: weights[:5], Seed: 7, Epoch: 2, Num: 1, Den: 4}
	duty.May(c)
	duty.Total(c)
	duty.Weight(c, list[:5])
	for slot := range 20 {
		duty.Committee(c, slot)
		duty.In(c, slot, slot%7-1)
		duty.Proposer(c, slot)
	}
	if !slices.Equal(weights, []int{1, 2, 4, 8, 16, 77, 78}) {
		t.Errorf("the weights are %d", weights)
	}
	if !slices.Equal(list, []int{4, 0, 4, 9, -1, 55, 56}) {
		t.Errorf("the list is %d", list)
	}
}

// R3: what was answered is the caller's own, also behind its end, and hangs no more on what was handed in.
func TestAnsweredIsOwn(t *testing.T) {
	for _, n := range []int{1, 2, 5, mostOf} {
		for epoch := 1; epoch <= longest; epoch++ {
			c := conf(n, 4, epoch)
			for _, slot := range slots() {
				want := committee(c, slot)
				a, b := duty.Committee(c, slot), duty.Committee(c, slot)
				a = a[:cap(a)]
				for i := range a {
					a[i] = -5
				}
				if !slices.Equal(b, want) || !slices.Equal(duty.Committee(c, slot), want) {
					t.Errorf("%v: the committee of %d was changed with another answer", c, slot)
				}
				for i := range c.W {
					c.W[i] = i
				}
				if !slices.Equal(b, want) {
					t.Errorf("%v: the committee of %d was changed with the weights", c, slot)
				}
			}
		}
	}
}

// R5: a conf whose weights are changed is asked anew.
func TestWeightsAreNotKept(t *testing.T) {
	c := conf(3, 1, 1)
	for _, x := range []struct{ w, want int }{{5, 11}, {0, 6}, {heavy, heavy + 6}, {-1, 0}, {heavy + 1, 0}, {7, 13}} {
		c.W[0] = x.w
		if w := duty.Total(c); w != x.want {
			t.Errorf("with %d all weigh %d, not %d", x.w, w, x.want)
		}
		if w := duty.Weight(c, []int{0, 1, 2}); w != x.want {
			t.Errorf("with %d they weigh %d, not %d", x.w, w, x.want)
		}
		if may := duty.May(c); may != (x.want != 0) {
			t.Errorf("with %d it may be: %t", x.w, may)
		}
	}
}

// R5: an answer is the same whatever was asked before, and whoever asks at the same time.
func TestAskedAtTheSameTime(t *testing.T) {
	var all sync.WaitGroup
	for k := range 8 {
		all.Go(func() {
			for j := range len(written()) {
				x := written()[(j*7+k*11)%len(written())]
				c := conf(x.n, x.seed, x.epoch)
				duty.In(c, x.slot+k-1, k)
				duty.Weight(c, []int{k, k, -k})
				if l := duty.Committee(c, x.slot); !slices.Equal(l, x.vote) {
					t.Errorf("%+v: %d vote", x, l)
				}
				if p := duty.Proposer(c, x.slot); p != x.proposes {
					t.Errorf("%+v: %d proposes", x, p)
				}
				if w := duty.Total(c); w != 1<<x.n-1 {
					t.Errorf("%+v: all weigh %d", x, w)
				}
			}
		})
	}
	all.Wait()
}

// mayBe says the same as the chapter's 'a conf may be' of a conf whose weights are all w but the last one.
func mayBe(n, w, end, epoch, num, den int) bool {
	if n < 1 || n > mostOf || end < 0 || end > heavy || n > 1 && (w < 0 || w > heavy) {
		return false
	}
	return epoch >= 1 && epoch <= longest && den >= 1 && den <= finest && num >= 0 && num <= den
}

// P1, P5.1 and P5.2: any arguments at all.
func FuzzDuty(f *testing.F) {
	for _, n := range []uint8{0, 1, 5, 12, 13} {
		for _, x := range []int{math.MinInt, -1, 0, 1, 8, 9, finest, finest + 1, heavy, heavy + 1, last, last + 1, math.MaxInt} {
			f.Add(n, uint64(x), 3, x, 2, 1, 4, 5, 1)
			f.Add(n, uint64(7), x, 3, 2, 1, 4, 5, 1)
			f.Add(n, uint64(7), 3, 3, x, 1, 4, 5, 1)
			f.Add(n, uint64(7), 3, 3, 2, x, 4, 5, 1)
			f.Add(n, uint64(7), 3, 3, 2, 0, x, 5, 1)
			f.Add(n, uint64(7), 3, 3, 2, 1, 4, x, 1)
			f.Add(n, uint64(7), 3, 3, 1, 1, 4, 5, x)
		}
	}
	f.Fuzz(func(t *testing.T, n uint8, seed uint64, w, end, epoch, num, den, slot, who int) {
		c := api.Conf{Seed: seed, Epoch: epoch, Num: num, Den: den}
		if n > 0 {
			c.W = append(slices.Repeat([]int{w}, int(n)-1), end)
		}
		may := mayBe(int(n), w, end, epoch, num, den)
		sum, weight, wantSum, wantWeight := duty.Total(c), duty.Weight(c, []int{who, who}), 0, 0
		if may {
			wantSum = w*(int(n)-1) + end
		}
		if may && who >= 0 && who < int(n) {
			wantWeight = c.W[who]
		}
		if is := duty.May(c); is != may || sum != wantSum || weight != wantWeight {
			t.Errorf("%v may be: %t; all weigh %d, and %d weighs %d", c, is, sum, who, weight)
		}
		l, in, p := duty.Committee(c, slot), duty.In(c, slot, who), duty.Proposer(c, slot)
		if !may || slot < 1 || slot > last {
			if len(l) != 0 || in || p != -1 {
				t.Errorf("%v, slot %d: %d vote, %d votes: %t, %d proposes", c, slot, l, who, in, p)
			}
			return
		}
		if !slices.Equal(l, committee(c, slot)) || in != slices.Contains(l, who) || p < 0 || p >= int(n) {
			t.Errorf("%v, slot %d: %d vote, %d votes: %t, %d proposes", c, slot, l, who, in, p)
		}
	})
}
