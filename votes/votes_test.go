package votes_test

import (
	"math"
	"slices"
	"sync"
	"testing"

	"marigold/api"
	"marigold/votes"
)

const top = 1<<64 - 1

// heads are noughts, the greatest words, and such as differ from another one in one word, or in one bit of it.
func heads() []api.ID {
	return []api.ID{{}, {0, 1}, {1, 0}, {1, 1}, {0, 1 << 63}, {1 << 63, 0}, {0, top}, {top, 0}, {top, top}, {top, top - 1}, {top - 1, top}, {1, 2}, {2, 1}}
}

// numbers are edges: of slots, of validators, and of whole numbers.
func numbers() []int {
	return []int{math.MinInt, math.MinInt + 1, -1 << 32, -1, 0, 1, 2, 11, 12, 1 << 20, 1<<20 + 1, 1 << 32, 1 << 62, math.MaxInt - 1, math.MaxInt}
}

// isDouble says the same as the chapter's word DOUBLE, holding each vote against each other one.
func isDouble(l []api.Vote, who, slot int) bool {
	for _, a := range l {
		for _, b := range l {
			if a.From == who && b.From == who && a.Slot == slot && b.Slot == slot && a.Head != b.Head {
				return true
			}
		}
	}
	return false
}

// voters are all who have a vote in l, rising, each once.
func voters(l []api.Vote) []int {
	var all []int
	for _, v := range l {
		all = append(all, v.From)
	}
	slices.Sort(all)
	return slices.Compact(all)
}

// doublesOf says the same as P7.1 of Doubles.
func doublesOf(l []api.Vote, slot int) []int {
	var all []int
	for _, who := range voters(l) {
		if isDouble(l, who, slot) {
			all = append(all, who)
		}
	}
	return all
}

// ofOf says the same as P7.1 of Of.
func ofOf(l []api.Vote, slot int) []api.Vote {
	var all []api.Vote
	for _, who := range voters(l) {
		i := slices.IndexFunc(l, func(v api.Vote) bool { return v.From == who && v.Slot == slot })
		if i >= 0 && !isDouble(l, who, slot) {
			all = append(all, l[i])
		}
	}
	return all
}

// lastOf says the same as P7.2.
func lastOf(l []api.Vote, upto int) []api.Vote {
	var all []api.Vote
	for _, who := range voters(l) {
		last, doubled := -1, false
		for i, v := range l {
			if v.From != who || v.Slot > upto {
				continue
			}
			doubled = doubled || isDouble(l, who, v.Slot)
			if last < 0 || l[last].Slot < v.Slot {
				last = i
			}
		}
		if last >= 0 && !doubled {
			all = append(all, l[last])
		}
	}
	return all
}

// check holds all calls against a plain going through the votes, at each of the slots.
func check(t *testing.T, l []api.Vote, slots []int) {
	t.Helper()
	for _, slot := range slots {
		if got, want := votes.Doubles(l, slot), doublesOf(l, slot); !slices.Equal(got, want) {
			t.Errorf("%v: double in %d are %v, not %v", l, slot, got, want)
		}
		if got, want := votes.Of(l, slot), ofOf(l, slot); !slices.Equal(got, want) {
			t.Errorf("%v: of %d are %v, not %v", l, slot, got, want)
		}
		if got, want := votes.Last(l, slot), lastOf(l, slot); !slices.Equal(got, want) {
			t.Errorf("%v: the last ones up to %d are %v, not %v", l, slot, got, want)
		}
	}
}

// answer is what all calls tell at one slot.
type answer struct {
	doubles  []int
	of, last []api.Vote
}

func ask(l []api.Vote, slot int) answer {
	return answer{votes.Doubles(l, slot), votes.Of(l, slot), votes.Last(l, slot)}
}

func (a answer) same(b answer) bool {
	return slices.Equal(a.doubles, b.doubles) && slices.Equal(a.of, b.of) && slices.Equal(a.last, b.last)
}

// without leaves out of an answer all that is of who.
func (a answer) without(who int) answer {
	his := func(v api.Vote) bool { return v.From == who }
	return answer{
		slices.DeleteFunc(slices.Clone(a.doubles), func(x int) bool { return x == who }),
		slices.DeleteFunc(slices.Clone(a.of), his),
		slices.DeleteFunc(slices.Clone(a.last), his),
	}
}

// meeting has several voters and slots: 4 is double in slot 2 alone, 7 in 3 alone, and there with three heads; 9 and 1 vote in some slots only, 9 twice for one head; 5 is double in its first slot, and 1 in its last.
func meeting() []api.Vote {
	x, y, z := api.ID{1, 1}, api.ID{1, 2}, api.ID{2, 1}
	return []api.Vote{
		{From: 9, Slot: 4, Head: x}, {From: 4, Slot: 2, Head: x}, {From: 7, Slot: 3, Head: z}, {From: 1, Slot: 1, Head: y},
		{From: 4, Slot: 3, Head: x}, {From: 5, Slot: 1, Head: x}, {From: 7, Slot: 1, Head: x}, {From: 9, Slot: 4, Head: x},
		{From: 7, Slot: 3, Head: y}, {From: 5, Slot: 5, Head: z}, {From: 4, Slot: 2, Head: y}, {From: 1, Slot: 5, Head: x},
		{From: 5, Slot: 1, Head: z}, {From: 7, Slot: 3, Head: x}, {From: 4, Slot: 1, Head: z}, {From: 9, Slot: 2, Head: z},
		{From: 1, Slot: 5, Head: y}, {From: 7, Slot: 2, Head: y}, {From: 9, Slot: 4, Head: x}, {From: 1, Slot: 3, Head: z},
	}
}

// P7.1, P7.2: the chapter's example.
func TestExample(t *testing.T) {
	l := []api.Vote{{From: 1, Slot: 3, Head: api.ID{1, 1}}, {From: 1, Slot: 3, Head: api.ID{2, 2}}}
	if got := votes.Doubles(l, 3); !slices.Equal(got, []int{1}) {
		t.Errorf("double are %v", got)
	}
	if a, b := votes.Of(l, 3), votes.Last(l, 3); len(a) != 0 || len(b) != 0 {
		t.Errorf("%v and %v count", a, b)
	}
}

// P7.1: who is double in each slot, written out.
func TestDoubles(t *testing.T) {
	for slot, want := range [][]int{nil, {5}, {4}, {7}, nil, {1}, nil} {
		if got := votes.Doubles(meeting(), slot); !slices.Equal(got, want) {
			t.Errorf("double in %d are %v, not %v", slot, got, want)
		}
	}
	check(t, meeting(), []int{-1, 0, 1, 2, 3, 4, 5, 6})
}

// P7.1: Doubles are rising, and each is there once, however many heads and in whatever order.
func TestDoublesRise(t *testing.T) {
	var l []api.Vote
	want := []int{math.MinInt, -3, 0, 1, 2, 10, 11, math.MaxInt}
	for i, h := range heads() {
		for _, who := range []int{10, 2, math.MaxInt, -3, 1, math.MinInt, 11, 0} {
			l = append(l, api.Vote{From: who, Slot: 6, Head: h}, api.Vote{From: who + 100, Slot: i, Head: h})
		}
		if got := votes.Doubles(l, 6); i > 0 && !slices.Equal(got, want) {
			t.Errorf("with %d heads, double are %v, not %v", i+1, got, want)
		}
	}
}

// P7.1: the votes of each slot that count, written out.
func TestOf(t *testing.T) {
	x, y, z := api.ID{1, 1}, api.ID{1, 2}, api.ID{2, 1}
	for slot, want := range [][]api.Vote{
		nil,
		{{From: 1, Slot: 1, Head: y}, {From: 4, Slot: 1, Head: z}, {From: 7, Slot: 1, Head: x}},
		{{From: 7, Slot: 2, Head: y}, {From: 9, Slot: 2, Head: z}},
		{{From: 1, Slot: 3, Head: z}, {From: 4, Slot: 3, Head: x}},
		{{From: 9, Slot: 4, Head: x}},
		{{From: 5, Slot: 5, Head: z}},
		nil,
	} {
		if got := votes.Of(meeting(), slot); !slices.Equal(got, want) {
			t.Errorf("of %d are %v, not %v", slot, got, want)
		}
	}
}

// P7.2: the last votes up to each slot, written out.
func TestLast(t *testing.T) {
	x, y, z := api.ID{1, 1}, api.ID{1, 2}, api.ID{2, 1}
	for upto, want := range [][]api.Vote{
		nil,
		{{From: 1, Slot: 1, Head: y}, {From: 4, Slot: 1, Head: z}, {From: 7, Slot: 1, Head: x}},
		{{From: 1, Slot: 1, Head: y}, {From: 7, Slot: 2, Head: y}, {From: 9, Slot: 2, Head: z}},
		{{From: 1, Slot: 3, Head: z}, {From: 9, Slot: 2, Head: z}},
		{{From: 1, Slot: 3, Head: z}, {From: 9, Slot: 4, Head: x}},
		{{From: 9, Slot: 4, Head: x}},
		{{From: 9, Slot: 4, Head: x}},
	} {
		if got := votes.Last(meeting(), upto); !slices.Equal(got, want) {
			t.Errorf("the last ones up to %d are %v, not %v", upto, got, want)
		}
	}
}

// P7.2: who is double in one slot counts up to the one ahead of it, and then never again, whichever it is.
func TestDoubleEndsIt(t *testing.T) {
	for doubled := 1; doubled <= 5; doubled++ {
		var l []api.Vote
		for slot := 1; slot <= 5; slot++ {
			l = append(l, api.Vote{From: 3, Slot: slot, Head: api.ID{uint64(slot)}}, api.Vote{From: 2, Slot: slot})
		}
		l = append(l, api.Vote{From: 3, Slot: doubled, Head: api.ID{9, 9}})
		for upto := 1; upto <= 7; upto++ {
			want := []api.Vote{{From: 2, Slot: min(upto, 5)}}
			if upto < doubled {
				want = append(want, api.Vote{From: 3, Slot: upto, Head: api.ID{uint64(upto)}})
			}
			if got := votes.Last(l, upto); !slices.Equal(got, want) {
				t.Errorf("double in %d: the last ones up to %d are %v, not %v", doubled, upto, got, want)
			}
		}
		check(t, l, []int{0, 1, 2, 3, 4, 5, 6})
	}
}

// P7.1, P7.2: no votes.
func TestNoVotes(t *testing.T) {
	for _, l := range [][]api.Vote{nil, {}} {
		for _, slot := range numbers() {
			if a := ask(l, slot); len(a.doubles)+len(a.of)+len(a.last) != 0 {
				t.Errorf("of no votes, at %d: %v", slot, a)
			}
		}
	}
}

// P7.1, P7.2, and P1: one vote, of all edges, and all edges that may be asked for; no number is wrong here.
func TestOneVote(t *testing.T) {
	for _, from := range numbers() {
		for _, slot := range numbers() {
			for _, head := range []api.ID{{}, {0, 1}, {top, top}} {
				v := api.Vote{From: from, Slot: slot, Head: head}
				for _, asked := range numbers() {
					var of, last []api.Vote
					if slot == asked {
						of = []api.Vote{v}
					}
					if slot <= asked {
						last = []api.Vote{v}
					}
					if a := ask([]api.Vote{v}, asked); !a.same(answer{nil, of, last}) {
						t.Fatalf("%v, at %d: %v", v, asked, a)
					}
				}
			}
		}
	}
}

// P7.1, P7.2, P7.3: a vote that is there more often is told once, and makes nobody double.
func TestThereTwice(t *testing.T) {
	for _, head := range heads() {
		v := api.Vote{From: 2, Slot: 5, Head: head}
		for n := 1; n <= 5; n++ {
			l := slices.Repeat([]api.Vote{v}, n)
			if a := ask(l, 5); !a.same(answer{nil, []api.Vote{v}, []api.Vote{v}}) {
				t.Errorf("%v, %d times: %v", v, n, a)
			}
			other := api.Vote{From: 2, Slot: 5, Head: api.ID{77, 77}}
			for at := range n + 1 {
				m := slices.Insert(slices.Clone(l), at, other)
				if a := ask(m, 5); !a.same(answer{[]int{2}, nil, nil}) {
					t.Errorf("%v, %d times, and another head at %d: %v", v, n, at, a)
				}
			}
		}
	}
}

// P7.1, P7.2: any two heads that are not the same make one double, also where they differ in one word, or in one bit, alone.
func TestTwoHeads(t *testing.T) {
	all := heads()
	for i := range 64 {
		all = append(all, api.ID{3 ^ 1<<i, 3}, api.ID{3, 3 ^ 1<<i})
	}
	for i, a := range all {
		for j, b := range all {
			l := []api.Vote{{From: 4, Slot: 8, Head: a}, {From: 4, Slot: 8, Head: b}}
			want := answer{[]int{4}, nil, nil}
			if i == j {
				want = answer{nil, l[:1], l[:1]}
			}
			if got := ask(l, 8); !got.same(want) {
				t.Fatalf("%x and %x: %v", a, b, got)
			}
		}
	}
}

// P7.1, P7.2: two votes for two heads make nobody double, where they are of two slots or of two voters, also of such as are far off each other.
func TestNotDouble(t *testing.T) {
	for _, a := range numbers() {
		for _, b := range numbers() {
			if a == b {
				continue
			}
			slots := []api.Vote{{From: 3, Slot: a, Head: api.ID{1, 1}}, {From: 3, Slot: b, Head: api.ID{2, 2}}}
			who := []api.Vote{{From: a, Slot: 3, Head: api.ID{1, 1}}, {From: b, Slot: 3, Head: api.ID{2, 2}}}
			turned := []api.Vote{{From: a, Slot: b, Head: api.ID{1, 1}}, {From: b, Slot: a, Head: api.ID{2, 2}}}
			for _, l := range [][]api.Vote{slots, who, turned} {
				for _, slot := range []int{a, b, 3} {
					if got := votes.Doubles(l, slot); len(got) != 0 {
						t.Errorf("%v: double in %d are %v", l, slot, got)
					}
				}
				check(t, l, []int{a, b, 3, math.MinInt, math.MaxInt})
			}
		}
	}
}

// P7.1, P7.2: who has three heads in a slot is double in it, whichever come first, and whichever are there twice.
func TestThreeHeads(t *testing.T) {
	x, y, z := api.ID{0, 1}, api.ID{1, 0}, api.ID{}
	for _, order := range [][]api.ID{{x, y, z}, {y, z, x}, {z, x, y}, {x, y, x}, {x, x, y}, {y, x, x}, {x, y, z, x}, {x, y, x, y}, {z, z, x, y}} {
		l := []api.Vote{{From: 1, Slot: 2, Head: x}}
		for _, h := range order {
			l = append(l, api.Vote{From: 5, Slot: 2, Head: h})
		}
		if got := ask(l, 2); !got.same(answer{[]int{5}, l[:1], l[:1]}) {
			t.Errorf("%v: %v", l, got)
		}
	}
}

// P7.1, P7.2: voters and slots of all edges beside each other, of whom some are double.
func TestEdges(t *testing.T) {
	var l []api.Vote
	for i, who := range numbers() {
		for j, slot := range numbers() {
			l = append(l, api.Vote{From: who, Slot: slot, Head: heads()[(i+j)%len(heads())]})
			if i%3 == 1 && j == i {
				l = append(l, api.Vote{From: who, Slot: slot, Head: api.ID{55, 55}})
			}
		}
	}
	check(t, l, append(numbers(), 3, 10, 13, -2))
}

// P7.2: an upto of the greatest number takes all slots, and one of the least number that one alone.
func TestUptoEdges(t *testing.T) {
	first, last := api.Vote{From: 1, Slot: math.MinInt, Head: api.ID{1}}, api.Vote{From: 1, Slot: math.MaxInt, Head: api.ID{2}}
	l := []api.Vote{last, first}
	for _, x := range []struct {
		upto int
		want api.Vote
	}{{math.MinInt, first}, {-1, first}, {0, first}, {math.MaxInt - 1, first}, {math.MaxInt, last}} {
		if got := votes.Last(l, x.upto); !slices.Equal(got, []api.Vote{x.want}) {
			t.Errorf("the last one up to %d is %v", x.upto, got)
		}
	}
}

// small are votes of two voters in two slots for three heads.
func small() []api.Vote {
	var all []api.Vote
	for who := range 2 {
		for slot := range 2 {
			for _, h := range []api.ID{{}, {0, 1}, {1, 0}} {
				all = append(all, api.Vote{From: who, Slot: slot, Head: h})
			}
		}
	}
	return all
}

// lists calls f with each list of up to n small votes, in each order and with each repeated as often as there is room.
func lists(n int, f func(l []api.Vote)) {
	var grow func(l []api.Vote)
	grow = func(l []api.Vote) {
		f(l)
		for _, v := range small() {
			if len(l) < n {
				grow(append(slices.Clone(l), v))
			}
		}
	}
	grow(nil)
}

// P7.1, P7.2: all lists of up to four small votes.
func TestSmallLists(t *testing.T) {
	lists(4, func(l []api.Vote) {
		if !t.Failed() {
			check(t, l, []int{-1, 0, 1, 2})
		}
	})
}

// P7.3: neither the order matters, nor what is there twice.
func TestNoOrderMatters(t *testing.T) {
	order := func(a, b api.Vote) int {
		return slices.Compare([]uint64{uint64(a.From), uint64(a.Slot), a.Head[0], a.Head[1]}, []uint64{uint64(b.From), uint64(b.Slot), b.Head[0], b.Head[1]})
	}
	lists(4, func(l []api.Vote) {
		plain := slices.Clone(l)
		slices.SortFunc(plain, order)
		plain = slices.Compact(plain)
		for slot := range 3 {
			if a, b := ask(l, slot), ask(plain, slot); !t.Failed() && !a.same(b) {
				t.Errorf("at %d, %v tells %v, but %v tells %v", slot, l, a, plain, b)
			}
		}
	})
	l := meeting()
	for slot := range 7 {
		want := ask(l, slot)
		for i := range l {
			turned := slices.Concat(l[i:], l[:i])
			back := slices.Clone(turned)
			slices.Reverse(back)
			for _, m := range [][]api.Vote{turned, back, slices.Concat(l, turned), slices.Concat(back, l, back)} {
				if got := ask(m, slot); !got.same(want) {
					t.Errorf("at %d, %v tells %v, not %v", slot, m, got, want)
				}
			}
		}
	}
}

// P7.3: what counts is one vote of each, at most, and rises by who it is.
func TestOneOfEach(t *testing.T) {
	rising := func(l []api.Vote) bool {
		for i := range l {
			if i > 0 && l[i-1].From >= l[i].From {
				return false
			}
		}
		return true
	}
	lists(3, func(l []api.Vote) {
		for _, m := range [][]api.Vote{l, slices.Concat(l, meeting()), slices.Concat(meeting(), l)} {
			for slot := range 6 {
				if a := ask(m, slot); !rising(a.of) || !rising(a.last) {
					t.Errorf("%v: at %d, %v", m, slot, a)
				}
			}
		}
	})
}

// P7.3: one more vote of somebody, wherever it stands, changes only theirs.
func TestOneMoreVote(t *testing.T) {
	for _, v := range append(small(), api.Vote{From: 4, Slot: 1, Head: api.ID{8, 8}}, api.Vote{From: 9, Slot: 9}, api.Vote{From: -1, Slot: 3}, api.Vote{From: 7, Slot: math.MinInt}, api.Vote{From: math.MaxInt, Slot: 2}) {
		for at := range len(meeting()) + 1 {
			more := slices.Insert(meeting(), at, v)
			for slot := range 7 {
				a, b := ask(meeting(), slot).without(v.From), ask(more, slot).without(v.From)
				if !a.same(b) {
					t.Errorf("%v at %d changes %v to %v, at %d", v, at, a, b, slot)
				}
			}
		}
	}
	lists(3, func(l []api.Vote) {
		for _, v := range small() {
			for slot := range 2 {
				a, b := ask(l, slot).without(v.From), ask(append(slices.Clone(l), v), slot).without(v.From)
				if !t.Failed() && !a.same(b) {
					t.Errorf("%v: %v changes %v to %v, at %d", l, v, a, b, slot)
				}
			}
		}
	})
}

// P7.1, P7.2, and P1: far more votes than a view may have are gathered in good time.
func TestManyVotes(t *testing.T) {
	const n = 1 << 17
	var l []api.Vote
	var of []api.Vote
	var doubles []int
	for who := n; who > 0; who-- {
		l = append(l, api.Vote{From: who, Slot: 1}, api.Vote{From: who, Slot: 2, Head: api.ID{uint64(who)}})
		if who%2 == 0 {
			l = append(l, api.Vote{From: who, Slot: 2})
			doubles = append(doubles, who)
		} else {
			of = append(of, api.Vote{From: who, Slot: 2, Head: api.ID{uint64(who)}})
		}
	}
	slices.Reverse(of)
	slices.Reverse(doubles)
	if a := ask(l, 2); !a.same(answer{doubles, of, of}) {
		t.Errorf("of %d votes %d are double, and %d and %d count", len(l), len(a.doubles), len(a.of), len(a.last))
	}
	if a := ask(l, 1); len(a.doubles) != 0 || len(a.of) != n || !slices.Equal(a.of, a.last) {
		t.Errorf("of %d votes %d are double, and %d and %d count", len(l), len(a.doubles), len(a.of), len(a.last))
	}
}

// R3: what is handed in stays as it was, also behind the end of a list.
func TestHandedInStays(t *testing.T) {
	l := meeting()
	for n := range len(l) + 1 {
		for slot := range 7 {
			ask(l[:n], slot)
		}
	}
	if !slices.Equal(l, meeting()) {
		t.Errorf("the votes became %v", l)
	}
}

// R3: who changes or lengthens an answer changes neither the votes nor another answer.
func TestAnswersAreTheCallersOwn(t *testing.T) {
	one := []api.Vote{{From: 1, Slot: 2, Head: api.ID{3, 4}}, {From: 2, Slot: 2, Head: api.ID{5, 6}}}
	for _, l := range [][]api.Vote{meeting(), one, one[:1]} {
		kept := slices.Clone(l)
		for slot := range 7 {
			want, a := ask(l, slot), ask(l, slot)
			for _, x := range [][]api.Vote{a.of, a.last} {
				clear(x)
				_ = append(x, api.Vote{From: 99, Slot: 99})
			}
			clear(a.doubles)
			_ = append(a.doubles, 99)
			if !slices.Equal(l, kept) {
				t.Fatalf("%v became %v", kept, l)
			}
			if got := ask(l, slot); !got.same(want) {
				t.Errorf("at %d, %v became %v", slot, want, got)
			}
		}
	}
}

// R3: who changes the votes later changes no answer.
func TestAnsweredStays(t *testing.T) {
	for slot := range 7 {
		l := meeting()
		a, want := ask(l, slot), ask(meeting(), slot)
		clear(l)
		if !a.same(want) {
			t.Errorf("at %d, %v became %v", slot, want, a)
		}
	}
}

// R5: nothing hangs on what was asked before, or by whom at the same time, or on chance.
func TestManyAsk(t *testing.T) {
	var all sync.WaitGroup
	for i := range 8 {
		all.Go(func() {
			for k := range 50 {
				l := meeting()
				if i%2 == 1 {
					l = l[:k%len(l)]
				}
				check(t, l, []int{0, 1, 2, 3, 4, 5, 6})
			}
		})
	}
	all.Wait()
}
