package mix_test

import (
	"math/big"
	"slices"
	"testing"

	"marigold/api"
	"marigold/mix"
)

const top = 1<<64 - 1

// The document's numbers, written here once more so that a change of the package's own is seen.
const (
	first  = "13787848793156543929"
	second = "10723151780598845931"
	added  = "11400714819323198485"
)

func whole(n uint64) *big.Int { return new(big.Int).SetUint64(n) }

func number(s string) *big.Int {
	n, ok := new(big.Int).SetString(s, 10)
	if !ok {
		panic(s)
	}
	return n
}

// cut is n modulo 2^64.
func cut(n *big.Int) *big.Int {
	return new(big.Int).Mod(n, new(big.Int).Lsh(big.NewInt(1), 64))
}

// oneOf has each bit that just one of a and b has, bit by bit.
func oneOf(a, b *big.Int) *big.Int {
	r := new(big.Int)
	for i := range 64 {
		if a.Bit(i) != b.Bit(i) {
			r.SetBit(r, i, 1)
		}
	}
	return r
}

func folded(n *big.Int, by uint) *big.Int {
	return oneOf(n, new(big.Int).Quo(n, new(big.Int).Lsh(big.NewInt(1), by)))
}

// wordOf says the same as P2.1, in whole numbers of any size, without the package's help.
func wordOf(n *big.Int) *big.Int {
	n = cut(new(big.Int).Mul(folded(n, 30), number(first)))
	n = cut(new(big.Int).Mul(folded(n, 27), number(second)))
	return folded(n, 31)
}

func stepOf(h, x uint64) uint64 {
	return wordOf(cut(new(big.Int).Add(oneOf(whole(h), whole(x)), number(added)))).Uint64()
}

// idOf says the same as P2.2, and turns each bit by taking the word from the greatest one.
func idOf(l []uint64) api.ID {
	a, b := uint64(1), uint64(2)
	for _, x := range l {
		a, b = stepOf(a, x), stepOf(b, top-x)
	}
	n := uint64(len(l))
	return api.ID{stepOf(a, n), stepOf(b, top-n)}
}

// turnedFold is undone a fold by n: from the upper bits down each bit is known once those n above it are.
func turnedFold(y uint64, n int) uint64 {
	var x uint64
	for i := 63; i >= 0; i-- {
		bit := y >> i & 1
		if i+n < 64 {
			bit ^= x >> (i + n) & 1
		}
		x |= bit << i
	}
	return x
}

// turnedFactor is what undoes a product with the factor, modulo 2^64.
func turnedFactor(s string) uint64 {
	return new(big.Int).ModInverse(number(s), new(big.Int).Lsh(big.NewInt(1), 64)).Uint64()
}

// turnedWord is the word whose Word y is.
func turnedWord(y uint64) uint64 {
	y = turnedFold(y, 31) * turnedFactor(second)
	y = turnedFold(y, 27) * turnedFactor(first)
	return turnedFold(y, 30)
}

// words are small ones, edges, all of one bit and of two bits side by side, and those with such bits turned.
func words() []uint64 {
	l := []uint64{0, 1, 2, 3, 7, 1000, top, top - 1, top - 2, 1<<32 - 1, 1<<32 + 1, 1<<63 - 1, 1<<63 + 1,
		0x5555555555555555, 0xaaaaaaaaaaaaaaaa, 0x0123456789abcdef, 0xfedcba9876543210,
		13787848793156543929, 10723151780598845931, 11400714819323198485, top - 11400714819323198485, top - 11400714819323198485 + 1}
	for i := range 64 {
		l = append(l, 1<<i, top-1<<i, 3<<i, top-3<<i)
	}
	slices.Sort(l)
	return slices.Compact(l)
}

// few are enough for pairs and threes.
func few() []uint64 {
	return []uint64{0, 1, 2, 3, 1 << 31, 1<<32 + 1, 1<<63 - 1, 1 << 63, 1<<63 + 1, 0x0123456789abcdef,
		11400714819323198485, top - 11400714819323198485, top - 11400714819323198485 + 1, top - 2, top - 1, top}
}

// lists are none, all of up to three of some words, and longer ones.
func lists() [][]uint64 {
	some := []uint64{0, 1, 2, 7, 1 << 63, top - 1, top}
	all := [][]uint64{{}}
	last := all
	for range 3 {
		var next [][]uint64
		for _, l := range last {
			for _, x := range some {
				next = append(next, append(slices.Clone(l), x))
			}
		}
		all, last = append(all, next...), next
	}
	for n := 4; n <= 40; n++ {
		all = append(all, make([]uint64, n), slices.Repeat([]uint64{top}, n), words()[:n])
	}
	return all
}

// P2.1: the chapter's example, and words written out by hand: those of 1 to 5 times the number that Step adds.
func TestWordWritten(t *testing.T) {
	const by uint64 = 11400714819323198485
	for i, want := range []uint64{0, 0xe220a8397b1dcdaf, 0x6e789e6aa1b965f4, 0x06c45d188009454f, 0xf88bb8a8724c81ec, 0x1b39896a51a8749b} {
		if got := mix.Word(by * uint64(i)); got != want {
			t.Errorf("Word of %d times the number is %#x, not %#x", i, got, want)
		}
	}
	const start uint64 = 1234567
	for i, want := range []uint64{6457827717110365317, 3203168211198807973, 9817491932198370423, 4593380528125082431, 16408922859458223821} {
		if got := mix.Word(start + by*uint64(i+1)); got != want {
			t.Errorf("Word of %d and %d times the number is %d, not %d", start, i+1, got, want)
		}
	}
	for x, want := range map[uint64]uint64{1: 6238072747940578789, top: 13029008266876403067, 1 << 63: 2720858781877447050} {
		if got := mix.Word(x); got != want {
			t.Errorf("Word(%d) is %d, not %d", x, got, want)
		}
	}
}

// P2.1: held against whole numbers of any size.
func TestWord(t *testing.T) {
	for _, x := range words() {
		if got, want := mix.Word(x), wordOf(whole(x)).Uint64(); got != want {
			t.Errorf("Word(%d) is %d, not %d", x, got, want)
		}
	}
}

// P2.1: the sum comes behind the bits that just one has, and wraps around.
func TestStepWritten(t *testing.T) {
	const by uint64 = 11400714819323198485
	for _, x := range []struct{ h, x, want uint64 }{
		{0, 0, 16294208416658607535},
		{top, top, 16294208416658607535},
		{by, by, 16294208416658607535},
		{0, top - by + 1, 0},
		{top - by + 1, 0, 0},
		{by ^ top, 0, mix.Word(top)},
		{top, by, mix.Word(top)},
		{top, 0, mix.Word(by - 1)},
		{0, by, mix.Word(4354685564936845354)},
		{5, 3, mix.Word(by + 6)},
		{1, 2, 2092789425003139053},
		{1 << 63, 5, 6099647518701997872},
	} {
		if got := mix.Step(x.h, x.x); got != x.want {
			t.Errorf("Step(%d, %d) is %d, not %d", x.h, x.x, got, x.want)
		}
	}
}

// P2.1: all pairs, held against whole numbers of any size.
func TestStep(t *testing.T) {
	for _, h := range words() {
		for _, x := range few() {
			if got, want := mix.Step(h, x), stepOf(h, x); got != want {
				t.Errorf("Step(%d, %d) is %d, not %d", h, x, got, want)
			}
		}
	}
}

// P2.2: the shortest lists, by Steps written out, and some IDs as numbers.
func TestOfWritten(t *testing.T) {
	s := mix.Step
	for i, x := range []struct {
		l    []uint64
		want api.ID
	}{
		{nil, api.ID{s(1, 0), s(2, top)}},
		{[]uint64{}, api.ID{s(1, 0), s(2, top)}},
		{[]uint64{0}, api.ID{s(s(1, 0), 1), s(s(2, top), top-1)}},
		{[]uint64{7}, api.ID{s(s(1, 7), 1), s(s(2, top-7), top-1)}},
		{[]uint64{top}, api.ID{s(s(1, top), 1), s(s(2, 0), top-1)}},
		{[]uint64{7, 9}, api.ID{s(s(s(1, 7), 9), 2), s(s(s(2, top-7), top-9), top-2)}},
		{[]uint64{9, 7}, api.ID{s(s(s(1, 9), 7), 2), s(s(s(2, top-9), top-7), top-2)}},
		{nil, api.ID{10451216379200822465, 17824971123127853533}},
		{[]uint64{0}, api.ID{16860738450190168606, 16641889442495583937}},
		{[]uint64{7, 9}, api.ID{10427111507652673220, 6323789905073479606}},
		{[]uint64{top, top, top}, api.ID{11703016470101662107, 13536928439958189338}},
	} {
		if got := mix.Of(x.l); got != x.want {
			t.Errorf("%d: Of(%d) is %d, not %d", i, x.l, got, x.want)
		}
	}
}

// P2.2: held against whole numbers of any size.
func TestOf(t *testing.T) {
	for _, l := range lists() {
		if got, want := mix.Of(l), idOf(l); got != want {
			t.Errorf("Of(%d) is %d, not %d", l, got, want)
		}
	}
}

// P2.2: lists that differ in a word, in the order or in the length alone have other IDs, and both words of them are others.
func TestOfTellsLists(t *testing.T) {
	seen := map[string][]uint64{}
	words := [2]map[uint64][]uint64{{}, {}}
	for _, l := range lists() {
		key := ""
		for _, x := range l {
			key += whole(x).String() + " "
		}
		if seen[key] != nil {
			continue
		}
		seen[key] = append([]uint64{}, l...)
		id := mix.Of(l)
		for i, w := range id {
			if m := words[i][w]; m != nil {
				t.Errorf("Of(%d) and Of(%d) have one word %d", l, m, i)
			}
			words[i][w] = append([]uint64{}, l...)
		}
		if id == (api.ID{}) {
			t.Errorf("Of(%d) is noughts", l)
		}
	}
}

// P1: a long list ends, and its last word counts.
func TestOfLong(t *testing.T) {
	l := make([]uint64, 1<<20)
	a := mix.Of(l)
	l[len(l)-1] = 1
	b := mix.Of(l)
	l[len(l)-1], l[0] = 0, 1
	if c := mix.Of(l); a == b || b == c || c == a || mix.Of(l[1:]) == a {
		t.Error("long lists have one ID")
	}
}

// R3: neither the list nor what lies behind it is changed, and later changes of it change nothing of the answer.
func TestOfKeepsList(t *testing.T) {
	for _, l := range lists() {
		room := append(slices.Clone(l), 5, 6, 7)
		held := slices.Clone(room)
		id := mix.Of(room[:len(l)])
		if !slices.Equal(room, held) {
			t.Errorf("Of(%d) made it %d", held, room)
		}
		was := id
		for i := range room {
			room[i] = ^room[i]
		}
		if id != was || mix.Of(l) != was {
			t.Errorf("Of(%d) became another one", l)
		}
	}
}

// R3: an answer that is changed does not change a later one. R5: nothing hangs on what was asked before.
func TestOfAskedAgain(t *testing.T) {
	all := lists()
	var ids []api.ID
	for _, l := range all {
		id := mix.Of(l)
		ids = append(ids, id)
		id[0], id[1] = 3, 4
	}
	for i := len(all) - 1; i >= 0; i-- {
		if mix.Of(all[i]) != ids[i] {
			t.Errorf("Of(%d) is another one at the second time", all[i])
		}
	}
}

// P2.2: edges written out by hand, among them words that would be below 0 as numbers with a sign.
func TestLessWritten(t *testing.T) {
	for _, x := range []struct {
		a, b api.ID
		want bool
	}{
		{api.ID{}, api.ID{}, false},
		{api.ID{1, 2}, api.ID{1, 2}, false},
		{api.ID{top, top}, api.ID{top, top}, false},
		{api.ID{0, 0}, api.ID{0, 1}, true},
		{api.ID{0, 1}, api.ID{0, 0}, false},
		{api.ID{0, top}, api.ID{1, 0}, true},
		{api.ID{1, 0}, api.ID{0, top}, false},
		{api.ID{1, 1}, api.ID{2, 1}, true},
		{api.ID{2, 1}, api.ID{1, 1}, false},
		{api.ID{5, 7}, api.ID{5, 8}, true},
		{api.ID{5, 8}, api.ID{5, 7}, false},
		{api.ID{1<<63 - 1, 0}, api.ID{1 << 63, 0}, true},
		{api.ID{1 << 63, 0}, api.ID{1<<63 - 1, 0}, false},
		{api.ID{9, 1<<63 - 1}, api.ID{9, 1 << 63}, true},
		{api.ID{9, 1 << 63}, api.ID{9, 1<<63 - 1}, false},
		{api.ID{top - 1, top}, api.ID{top, 0}, true},
		{api.ID{top, 0}, api.ID{top - 1, top}, false},
		{api.ID{top, top - 1}, api.ID{top, top}, true},
		{api.ID{0, 0}, api.ID{top, top}, true},
	} {
		if got := mix.Less(x.a, x.b); got != x.want {
			t.Errorf("Less(%d, %d) is %t", x.a, x.b, got)
		}
	}
}

func ids() []api.ID {
	var l []api.ID
	for _, a := range few() {
		for _, b := range few() {
			l = append(l, api.ID{a, b})
		}
	}
	return l
}

// P2.2: all pairs, held against numbers of two words.
func TestLess(t *testing.T) {
	long := func(id api.ID) *big.Int {
		n := new(big.Int).Lsh(whole(id[0]), 64)
		return n.Add(n, whole(id[1]))
	}
	for _, a := range ids() {
		for _, b := range ids() {
			if got := mix.Less(a, b); got != (long(a).Cmp(long(b)) < 0) {
				t.Errorf("Less(%d, %d) is %t", a, b, got)
			}
		}
	}
}

// P2.3: of two IDs that are not the same just one is Less; of the same none is.
func TestJustOneIsLess(t *testing.T) {
	l := ids()
	for _, words := range lists() {
		l = append(l, mix.Of(words))
	}
	for _, a := range l {
		for _, b := range l {
			if one, other := mix.Less(a, b), mix.Less(b, a); one && other || (one || other) != (a != b) {
				t.Errorf("%d is Less than %d: %t, and the other way round: %t", a, b, one, other)
			}
		}
	}
}

// P2.3: each word is told by its Word, and each word is the Word of one: so no two have the same.
func TestWordCanBeTurned(t *testing.T) {
	hold := func(x uint64) {
		if got := turnedWord(mix.Word(x)); got != x {
			t.Errorf("Word(%d) is that of %d", x, got)
		}
		if got := mix.Word(turnedWord(x)); got != x {
			t.Errorf("%d should be a Word, but is %d", x, got)
		}
	}
	for _, x := range words() {
		hold(x)
	}
	for x := range uint64(1000) {
		hold(x)
		hold(top - x)
		hold(x * 0x3779b97f4a7c15)
	}
}

// P2.3: no two of many have one Word: words in a row at both ends, and all of up to three bits.
func TestNoTwoHaveOneWord(t *testing.T) {
	seen := map[uint64]uint64{}
	hold := func(x uint64) {
		w := mix.Word(x)
		if y, is := seen[w]; is && y != x {
			t.Errorf("Word(%d) is Word(%d)", x, y)
		}
		seen[w] = x
	}
	for x := range uint64(50000) {
		hold(x)
		hold(top - x)
	}
	for i := range 64 {
		for j := range i + 1 {
			for k := range j + 1 {
				hold(1<<i | 1<<j | 1<<k)
			}
		}
	}
}
