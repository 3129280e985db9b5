package ratio_test

import (
	"math"
	"math/big"
	"testing"

	"marigold/api"
	"marigold/ratio"
)

const top = 1 << 62

// right are numbers that may be: small ones, edges of words and half words, and the greatest ones.
func right() []int {
	return []int{0, 1, 2, 3, 7, 1000, 1<<31 - 1, 1 << 31, 1<<31 + 1, 1<<32 - 1, 1 << 32, 1<<32 + 1,
		1 << 40, 1<<61 - 1, 1 << 61, 1<<61 + 1, 3037000500, top - 2, top - 1, top}
}

// wrong are numbers that may not be.
func wrong() []int {
	return []int{-1, -2, -top, -top - 1, math.MinInt, math.MinInt + 1, top + 1, top + 2, 3 << 61, math.MaxInt - 1, math.MaxInt}
}

func every() []int { return append(right(), wrong()...) }

func whole(n int) *big.Int { return big.NewInt(int64(n)) }

func sum(a, b int) *big.Int { return new(big.Int).Add(whole(a), whole(b)) }

func times(a, b int) *big.Int { return new(big.Int).Mul(whole(a), whole(b)) }

// may says the same of a number of any size as the document does, without the package's help.
func may(n *big.Int) bool {
	return n.Sign() >= 0 && n.Cmp(new(big.Int).Lsh(big.NewInt(1), 62)) <= 0
}

// P1.1
func TestMay(t *testing.T) {
	for _, n := range right() {
		if !ratio.May(n) {
			t.Errorf("May(%d) is false", n)
		}
	}
	for _, n := range wrong() {
		if ratio.May(n) {
			t.Errorf("May(%d) is true", n)
		}
	}
	if !ratio.May(api.MaxNum) {
		t.Error("MaxNum may not be")
	}
}

// P1.1: edges written out by hand, and wrong numbers whose sum or product would be right.
func TestAddMulWritten(t *testing.T) {
	type answer struct {
		n  int
		is bool
	}
	for _, x := range []struct {
		a, b       int
		add, times answer
	}{
		{0, 0, answer{0, true}, answer{0, true}},
		{2, 3, answer{5, true}, answer{6, true}},
		{1 << 61, 1 << 61, answer{top, true}, answer{0, false}},
		{1 << 61, 1<<61 + 1, answer{0, false}, answer{0, false}},
		{1 << 61, top, answer{0, false}, answer{0, false}},
		{1 << 61, 2, answer{1<<61 + 2, true}, answer{top, true}},
		{1 << 61, 3, answer{1<<61 + 3, true}, answer{0, false}},
		{top, 0, answer{top, true}, answer{0, true}},
		{top, 1, answer{0, false}, answer{top, true}},
		{top, 2, answer{0, false}, answer{0, false}},
		{top, 4, answer{0, false}, answer{0, false}},
		{top, top, answer{0, false}, answer{0, false}},
		{1 << 32, 1 << 32, answer{1 << 33, true}, answer{0, false}},
		{1 << 32, 1<<32 + 1, answer{1<<33 + 1, true}, answer{0, false}},
		{1 << 31, 1 << 31, answer{1 << 32, true}, answer{top, true}},
		{5, (top + 1) / 5, answer{(top+1)/5 + 5, true}, answer{0, false}}, // just beyond: 5 divides 2^62 and 1
		{-1, 2, answer{0, false}, answer{0, false}},
		{2, -1, answer{0, false}, answer{0, false}},
		{-1, -1, answer{0, false}, answer{0, false}},
		{-1, 0, answer{0, false}, answer{0, false}},
		{top + 1, 0, answer{0, false}, answer{0, false}},
		{top + 1, -1, answer{0, false}, answer{0, false}},
		{math.MinInt, math.MinInt, answer{0, false}, answer{0, false}},
		{math.MaxInt, math.MaxInt, answer{0, false}, answer{0, false}},
		{math.MinInt, math.MaxInt, answer{0, false}, answer{0, false}},
	} {
		if n, is := ratio.Add(x.a, x.b); (answer{n, is}) != x.add {
			t.Errorf("Add(%d, %d) is %d, %t", x.a, x.b, n, is)
		}
		if n, is := ratio.Mul(x.a, x.b); (answer{n, is}) != x.times {
			t.Errorf("Mul(%d, %d) is %d, %t", x.a, x.b, n, is)
		}
	}
}

// P1.1, and P1: all pairs, held against whole numbers of any size.
func TestAddMulAllPairs(t *testing.T) {
	hold := func(name string, a, b int, want *big.Int, n int, is bool) {
		can := may(whole(a)) && may(whole(b)) && may(want)
		if !can {
			want = whole(0)
		}
		if is != can || whole(n).Cmp(want) != 0 {
			t.Errorf("%s(%d, %d) is %d, %t", name, a, b, n, is)
		}
	}
	for _, a := range every() {
		for _, b := range every() {
			n, is := ratio.Add(a, b)
			hold("Add", a, b, sum(a, b), n, is)
			n, is = ratio.Mul(a, b)
			hold("Mul", a, b, times(a, b), n, is)
		}
	}
}

// P1.2: edges written out by hand.
func TestMoreWritten(t *testing.T) {
	for _, x := range []struct {
		a, b, c, d int
		want       bool
	}{
		{0, 0, 0, 0, false},
		{1, 1, 0, top, true},
		{0, top, 1, 1, false},
		{2, 3, 1, 5, true},
		{2, 3, 3, 2, false},
		{top, top, top, top - 1, true},
		{top, top - 1, top, top, false},
		{top, top, top, top, false},
		{1 << 32, 1 << 32, 0, top, true},
		{1 << 32, 1 << 32, top, 3, true},
		{1 << 32, 1 << 32, top, 4, false},
		{top, 4, 1 << 32, 1 << 32, false},
		{top, 3, 1 << 32, 1 << 32, false},
		{1<<32 + 1, 1<<32 + 1, 1<<32 + 2, 1 << 32, true},
		{1<<32 + 2, 1 << 32, 1<<32 + 1, 1<<32 + 1, false},
		{-1, -1, 0, 0, false},
		{1, 1, -1, 1, false},
		{1, 1, 1, -1, false},
		{-1, 1, -2, 1, false},
		{top + 1, 1, 0, 0, false},
		{1, top + 1, 0, 0, false},
		{1, 1, top + 1, 0, false},
		{1, 1, 0, top + 1, false},
		{math.MaxInt, math.MaxInt, math.MinInt, 1, false},
	} {
		if got := ratio.More(x.a, x.b, x.c, x.d); got != x.want {
			t.Errorf("More(%d, %d, %d, %d) is %t", x.a, x.b, x.c, x.d, got)
		}
	}
}

// fours hands on all fours of some numbers.
func fours(l []int, f func(a, b, c, d int)) {
	for _, a := range l {
		for _, b := range l {
			for _, c := range l {
				for _, d := range l {
					f(a, b, c, d)
				}
			}
		}
	}
}

// P1.2: all fours of numbers that may be, held against whole numbers of any size.
func TestMoreAllFours(t *testing.T) {
	fours(right(), func(a, b, c, d int) {
		if got := ratio.More(a, b, c, d); got != (times(a, b).Cmp(times(c, d)) > 0) {
			t.Errorf("More(%d, %d, %d, %d) is %t", a, b, c, d, got)
		}
	})
}

// P1.2, and P1: a wrong number at any place makes it false, whatever the others are.
func TestMoreWrong(t *testing.T) {
	others := append([]int{0, 1, 2, top}, wrong()...)
	fours(others, func(a, b, c, d int) {
		for _, n := range [4]int{a, b, c, d} {
			if !may(whole(n)) && ratio.More(a, b, c, d) {
				t.Errorf("More(%d, %d, %d, %d) is true", a, b, c, d)
			}
		}
	})
}

// P1.3: of two products one is more, or they are the same.
func TestOneIsMoreOrSame(t *testing.T) {
	fours(right(), func(a, b, c, d int) {
		one, other := ratio.More(a, b, c, d), ratio.More(c, d, a, b)
		if one && other {
			t.Errorf("%d times %d, %d times %d: each is more", a, b, c, d)
		}
		if same := times(a, b).Cmp(times(c, d)) == 0; same == (one || other) {
			t.Errorf("%d times %d, %d times %d: the same %t, more %t, less %t", a, b, c, d, same, one, other)
		}
		if one != ratio.More(b, a, d, c) {
			t.Errorf("%d times %d, %d times %d: turned round it is another answer", a, b, c, d)
		}
	})
}

// P1.3: what is more stays so with more on its side.
func TestMoreStays(t *testing.T) {
	small := []int{0, 1, 3, 1 << 31, 1<<32 + 1, 1 << 61, top - 1, top}
	fours(small, func(a, b, c, d int) {
		if !ratio.More(a, b, c, d) {
			return
		}
		for _, by := range small {
			if n, is := ratio.Add(a, by); is && !ratio.More(n, b, c, d) {
				t.Errorf("%d times %d is more than %d times %d, %d times it is not", a, b, c, d, n)
			}
			if n, is := ratio.Add(b, by); is && !ratio.More(a, n, c, d) {
				t.Errorf("%d times %d is more than %d times %d, times %d it is not", a, b, c, d, n)
			}
			if n, is := ratio.Mul(a, by); is && by > 0 && !ratio.More(n, b, c, d) {
				t.Errorf("%d times %d is more than %d times %d, %d times it is not", a, b, c, d, n)
			}
		}
	})
}
