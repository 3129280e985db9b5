package lmd_test

import (
	"math"
	"slices"
	"testing"

	"marigold/api"
	"marigold/duty"
	"marigold/mix"
	"marigold/tree"
)

// P13.1, P13.2: the chapter's example: a vote of weight 1 for the one block, and a boost of 10 for the other.
func TestExample(t *testing.T) {
	for salt := range uint64(50) {
		l := two(salt)
		n := names(l)
		for i := range n {
			for _, a := range []asked{
				{weighing(1, 9), l, ballots(n[i]), nine, n[1-i], 100},
				{weighing(1, 99), l, ballots(n[i]), nine, n[1-i], 10},
				{weighing(1, 50, 49), []api.Block{l[1], l[0]}, ballots(n[i]), nine, n[1-i], 10},
			} {
				a.checkOn(t, n[i], 1)
				a.checkOn(t, n[1-i], 10)
				a.checkOn(t, beginning, 11)
				a.checkHead(t, n[1-i])
				a.boost = beginning
				a.checkHead(t, n[i])
			}
		}
	}
}

// P13.2: of two blocks, one with each weight of votes, and the other one with each boost, the heavier one is the head, of the same weight the one of the greater name.
func TestHeadTurns(t *testing.T) {
	l := two(3)
	n := names(l)
	for w := range 101 {
		for pct := range 101 {
			for i := range n {
				a := asked{weighing(w, 100-w), l, ballots(n[i]), nine, n[1-i], pct}
				switch {
				case w > pct:
					a.checkHead(t, n[i])
				case w < pct:
					a.checkHead(t, n[1-i])
				default:
					a.checkHead(t, n[1])
				}
			}
		}
	}
}

// P13.2: a boost just turns the head, and one that is less by one, also by what is rounded down, just doesn't.
func TestHeadJust(t *testing.T) {
	for salt := range uint64(20) {
		l := two(salt)
		lesser, more := tree.Name(l[0]), tree.Name(l[1])
		for _, x := range []struct {
			w                []int
			epoch, pct       int
			turns, turnsBack bool
		}{
			{[]int{10, 20, 70}, 1, 9, false, false},
			{[]int{10, 20, 70}, 1, 10, false, true},
			{[]int{10, 20, 70}, 1, 11, true, true},
			{[]int{10, 20, 70}, 2, 19, false, false}, // 9.5
			{[]int{10, 20, 70}, 2, 20, false, true},
			{[]int{10, 20, 70}, 2, 21, false, true}, // 10.5
			{[]int{10, 20, 70}, 2, 22, true, true},
			{[]int{11, 20, 70}, 2, 22, false, true},
			{[]int{1, 14}, 8, 99, false, false},
			{[]int{1, 14}, 8, 100, false, true},
			{[]int{1, 15}, 8, 99, false, true},
			{[]int{1, 15}, 8, 100, true, true},
			{[]int{heavy, heavy}, 1, 50, false, true},
			{[]int{heavy, heavy - 2}, 2, 100, false, false},
			{[]int{heavy, heavy - 1}, 2, 100, false, false}, // rounded down from just less than what is on the other one
			{[]int{heavy, heavy}, 2, 100, false, true},
			{[]int{heavy - 1, heavy}, 2, 100, false, true},
			{[]int{heavy - 1, heavy, 1}, 2, 100, true, true},
			{[]int{heavy - 1, heavy, 0}, 2, 99, false, false},
		} {
			c := weighing(x.w...)
			c.Epoch = x.epoch
			want := map[bool]api.ID{true: lesser, false: more}
			asked{c, l, ballots(more), nine, lesser, x.pct}.checkHead(t, want[x.turns])
			asked{c, l, ballots(lesser), nine, more, x.pct}.checkHead(t, want[!x.turnsBack])
		}
	}
}

// P13.2: the crowd's head up to each slot, without a boost, written out where weights tell it.
func TestHeadUpto(t *testing.T) {
	l, n := bush(), names(bush())
	for upto, i := range map[int]int{1: 3, 2: 3, 3: 3, 4: 4, 6: 8, 7: 8, 8: 3, 9: 3, math.MaxInt: 3} {
		asked{conf(7), l, crowd(), upto, beginning, 100}.checkHead(t, n[i])
	}
	for _, upto := range []int{math.MinInt, -1, 0} {
		asked{conf(7), l, crowd(), upto, beginning, 100}.checkHead(t, headOf(nil, l))
	}
	asked{conf(7), l, crowd(), 5, beginning, 100}.checkHead(t, n[4])
}

// P13.2: a boost for a block brings the head past all forks below it, and not past one at which something else is heavier: of the crowd's votes up to slot 9, 24 are on 1 and 64 are on 3, which stand on the same one.
func TestHeadForks(t *testing.T) {
	l, n := bush(), names(bush())
	tie := greatest([]api.ID{n[1], n[3]}) == n[1]
	head := map[bool]api.ID{true: n[8], false: n[3]}
	for pct := range 101 {
		// Of all 127, in epochs of two slots, 63 are a slot's.
		more := 63 * pct / 100
		asked{conf(7), l, crowd(), nine, n[8], pct}.checkHead(t, head[24+more > 64 || 24+more == 64 && tie])
		asked{conf(7), l, crowd(), nine, n[3], pct}.checkHead(t, n[3])
		asked{conf(7), l, crowd(), nine, n[0], pct}.checkHead(t, n[3])
		asked{conf(7), l, crowd(), nine, n[5], pct}.checkHead(t, n[3])
	}
	asked{conf(7), l, crowd(), nine, n[8], 63}.checkHead(t, n[3])
	asked{conf(7), l, crowd(), nine, n[8], 66}.checkHead(t, n[8])
	asked{conf(7), l, crowd(), nine, n[4], 66}.checkHead(t, n[4])
	asked{conf(7), l, crowd(), nine, n[9], 100}.checkHead(t, n[3])
	c := conf(7)
	c.Epoch = 1
	asked{c, l, crowd(), nine, n[9], 100}.checkHead(t, n[9])
	asked{c, l, crowd(), nine, n[5], 100}.checkHead(t, n[5])
	asked{c, l, crowd(), nine, n[2], 100}.checkHead(t, n[5])
	asked{c, l, crowd(), nine, n[7], 68}.checkHead(t, n[3])
	asked{c, l, crowd(), nine, n[7], 70}.checkHead(t, n[7])
}

// P13.2: the boost counts at each fork below its block, and not above it, where votes alone tell.
func TestHeadAboveBoost(t *testing.T) {
	for salt := range uint64(20) {
		l := salted(salt*100, -1, 0, 0, 1, 1, 2, 2)
		n := names(l)
		for who, top := range []int{3, 4} {
			v := slices.DeleteFunc(ballots(n[3], n[4], n[5], n[6]), func(x api.Vote) bool { return x.From == 1-who })
			asked{even(4, 10), l, v, nine, n[1], 100}.checkHead(t, n[top])
			asked{even(4, 10), l, v, nine, n[1], 28}.checkHead(t, n[top])
			asked{even(4, 10), l, v, nine, n[1], 24}.checkHead(t, greatest(n[5:]))
			asked{even(4, 10), l, v, nine, n[7-top], 100}.checkHead(t, n[7-top])
			asked{even(4, 10), l, v, nine, n[0], 100}.checkHead(t, greatest(n[5:]))
		}
	}
}

// P13.2: of several that weigh the same, some by votes, some by the boost, and some by both, the one of the greatest name is the head, in whatever order they stand, on the beginning and on a block.
func TestHeadGreatestName(t *testing.T) {
	for salt := range uint64(30) {
		for _, parents := range [][]int{{-1, -1, -1, -1}, {-1, 0, 0, 0, 0}, {-1, 0, 1, 2, 2, 2, 2}} {
			l := salted(salt*100, parents...)
			low, n := len(l)-4, names(l)[len(l)-4:]
			v := ballots(n[1], n[2], n[3], n[3])
			for turn := range uint64(4) {
				m := append(slices.Clone(l[:low]), mixed(l[low:], turn)...)
				asked{weighing(20, 20, 10, 10, 40), m, v, nine, n[0], 20}.checkHead(t, greatest(n))
				asked{weighing(20, 20, 10, 10, 40), m, v, nine, n[0], 19}.checkHead(t, greatest(n[1:]))
				asked{weighing(20, 20, 10, 10, 40), m, v, nine, n[0], 21}.checkHead(t, n[0])
				asked{weighing(20, 10, 10, 10, 50), m, v, nine, n[2], 10}.checkHead(t, greatest(n[1:]))
				asked{weighing(20, 19, 10, 9, 42), m, v, nine, n[2], 1}.checkHead(t, greatest(n[1:3]))
				asked{weighing(0, 0, 0, 0, 100), m, v, nine, n[2], 0}.checkHead(t, greatest(n))
			}
		}
	}
}

// alike are n blocks on the beginning whose names have the same in one of their two words, and differ in the other one alone: the salt undoes in that word what From does to it.
func alike(word, n int) []api.Block {
	turn := [2]uint64{0, top}[word]
	mixed := func(from int) uint64 {
		h := uint64(word + 1)
		for _, x := range []uint64{1, 5, uint64(from), 0, 0} {
			h = mix.Step(h, x^turn)
		}
		return h
	}
	var l []api.Block
	for from := range n {
		l = append(l, api.Block{Slot: 5, From: from, Salt: mixed(0) ^ mixed(from)})
	}
	return l
}

// P13.2: names that differ in one word alone are told from each other, by votes, by the boost, and by which one is the greatest.
func TestHeadAlike(t *testing.T) {
	for word := range 2 {
		l := alike(word, 12)
		n := names(l)
		if n[0][word] != n[11][word] || n[0][1-word] == n[11][1-word] {
			t.Fatalf("in the word %d: %x and %x", word, n[0], n[11])
		}
		for turn := range uint64(10) {
			m := mixed(l, turn)
			asked{even(4, 25), m, nil, nine, beginning, 100}.checkHead(t, greatest(n))
			asked{even(4, 25), m, ballots(n[2], n[7]), nine, beginning, 100}.checkHead(t, greatest([]api.ID{n[2], n[7]}))
			for _, id := range n {
				asked{even(4, 25), m, ballots(n[2], n[7]), nine, id, 26}.checkHead(t, id)
				asked{even(4, 25), m, ballots(id), nine, n[3], 24}.checkHead(t, id)
			}
		}
	}
}

// P13.1, P13.2: blocks that were searched for, of whose names one word is 0, are told from the beginning: a boost for them counts.
func TestHalfNoughts(t *testing.T) {
	l := []api.Block{{Slot: 1, Salt: 11113000728493481852}, {Slot: 1, Salt: 229301427494338721}, {Slot: 1}}
	n := names(l)
	if n[0][0] != 0 || n[1][1] != 0 {
		t.Fatalf("their names are %x", n)
	}
	for i := range n {
		a := asked{even(4, 25), l, ballots(n[(i+1)%3]), nine, n[i], 26}
		a.checkOn(t, n[i], 26)
		a.checkOn(t, n[(i+1)%3], 25)
		a.checkOn(t, beginning, 51)
		a.checkHead(t, n[i])
	}
}

// P13.2: without blocks the head is the beginning, and of one block that, whatever votes and the boost are for.
func TestHeadFewBlocks(t *testing.T) {
	b := api.Block{Slot: 4, From: 3, Salt: top}
	for _, c := range []api.Conf{{}, conf(12), even(3, 0)} {
		for _, boost := range []api.ID{beginning, tree.Name(b), {7, 7}} {
			for _, v := range [][]api.Vote{nil, spread(), ballots(tree.Name(b)), ballots(beginning, api.ID{7, 7})} {
				for _, pct := range pcts() {
					asked{c, nil, v, nine, boost, pct}.checkHead(t, beginning)
					asked{c, []api.Block{}, v, nine, boost, pct}.checkHead(t, beginning)
					asked{c, []api.Block{b}, v, nine, boost, pct}.checkHead(t, tree.Name(b))
				}
			}
		}
	}
}

// P13.2: without votes and a boost the greatest name is the head at each fork; with a boost alone what it is for is under the head.
func TestHeadNoVotes(t *testing.T) {
	for salt := range uint64(20) {
		l := salted(salt*100, -1, 0, -1, 0, 1, 2, 1, -1, 6, 0)
		for _, v := range [][]api.Vote{nil, {}, {{From: 2, Slot: nine + 1, Head: tree.Name(l[3])}}} {
			for _, id := range append(known(l), api.ID{7, 7}) {
				a := asked{even(4, 1), l, v, nine, id, 25}
				a.check(t, nil)
				if !tree.Under(l, id, a.head()) && id != (api.ID{7, 7}) {
					t.Errorf("%v: %x is not under the head", a, id)
				}
				a.pct = 24
				a.checkHead(t, headOf(nil, l))
			}
		}
	}
}

// P13.2: of a conf that may not be nothing weighs, so that the greatest name is the head at each fork.
func TestHeadWrongConfs(t *testing.T) {
	l := bush()
	want := headOf(nil, l)
	for why, c := range wrongConfs() {
		if duty.May(c) {
			t.Fatalf("%s may be", why)
		}
		for _, boost := range known(l) {
			asked{c, l, spread(), nine, boost, 100}.checkHead(t, want)
			asked{c, l, crowd(), nine, boost, 50}.checkHead(t, want)
		}
	}
}

// P13.2, and P1: of blocks that may not be the head is the beginning, with any conf.
func TestHeadWrongBlocks(t *testing.T) {
	confs := wrongConfs()
	confs["right"] = conf(12)
	for why, l := range wrongBlocks() {
		if tree.May(l) {
			t.Fatalf("%s may be", why)
		}
		for _, c := range confs {
			for _, boost := range known(l) {
				asked{c, l, spread(), nine, boost, 100}.checkHead(t, beginning)
				asked{c, l, ballots(names(l)...), nine, boost, 0}.checkHead(t, beginning)
			}
		}
	}
}

// P13.1, P13.2: all trees of up to four blocks, with all lists of up to two votes of two slots, and all boosts of several sizes.
func TestSmall(t *testing.T) {
	trees := [][]int{{}, {-1}}
	for p := range 2 {
		trees = append(trees, []int{-1, p - 1})
		for q := range 3 {
			trees = append(trees, []int{-1, p - 1, q - 1})
			for r := range 4 {
				trees = append(trees, []int{-1, p - 1, q - 1, r - 1})
			}
		}
	}
	for _, parents := range trees {
		l := grow(parents...)
		some := append(known(l), api.ID{7, 7})
		var v []api.Vote
		for who := range 2 {
			for _, head := range some {
				v = append(v, api.Vote{From: who, Slot: 4, Head: head}, api.Vote{From: who, Slot: 3, Head: head})
			}
		}
		for _, boost := range some {
			for i, x := range v {
				asked{weighing(1, 2, 2), l, []api.Vote{x}, 3, boost, 20 + i%2*20}.check(t, some)
				for k, y := range v[:i+1] {
					asked{weighing(1, 2, 2), l, []api.Vote{x, y}, 3 + (i+k)/2%2, boost, (i + k) % 6 * 20}.check(t, some)
				}
			}
		}
	}
}

// P13.2: in whatever order blocks stand that may be, the head is the same.
func TestHeadOrderOfBlocks(t *testing.T) {
	for _, l := range [][]api.Block{bush(), ladder(12), grow(-1, -1, -1, 0, 0, 0, 1, 1, 1, 2, 2, 2)} {
		n := names(l)
		for _, v := range [][]api.Vote{nil, spread(), crowd(), ballots(n[2], n[3], n[1])} {
			for i, boost := range n {
				for _, c := range []api.Conf{conf(12), even(12, 1)} {
					a := asked{c, l, v, nine, boost, 10 * i}
					want := headOf(a.weights(), l)
					for seed := range uint64(3) {
						a.l = shuffled(l, seed)
						a.checkHead(t, want)
					}
				}
			}
		}
	}
}

// P13.1, P13.2, P1: all edges at once: slots, hundredths, what is known and what is not, confs and blocks that may be and that may not.
func TestEdges(t *testing.T) {
	for _, c := range []api.Conf{{}, {W: []int{1}, Epoch: 0, Den: 1}, even(1, 0), even(12, heavy), even(13, 1), weighing(math.MinInt, math.MaxInt)} {
		for _, l := range [][]api.Block{nil, line(1), bush(), bush()[1:]} {
			for _, upto := range numbers() {
				for _, pct := range numbers() {
					for _, boost := range []api.ID{beginning, {top, top}, tree.Name(bush()[0]), tree.Name(bush()[8])} {
						asked{c, l, crowd(), upto, boost, pct}.check(t, []api.ID{beginning, {0, 1}, tree.Name(bush()[0]), tree.Name(bush()[6])})
					}
				}
			}
		}
	}
}

// P13.1, P13.2: as many blocks and votes as the limits let be, in a line, side by side, and in forks.
func TestFullView(t *testing.T) {
	fork := shape(api.MaxBlocks, func(i int) int { return (i+1)/2 - 1 })
	for _, l := range [][]api.Block{line(api.MaxBlocks), star(api.MaxBlocks), ladder(api.MaxBlocks), fork} {
		n := known(l)
		for turn := range 4 {
			var v []api.Vote
			for i := range api.MaxVotes {
				v = append(v, api.Vote{From: (i*5 + turn) % 14, Slot: i, Head: n[(i*i+turn*i)%len(n)]})
			}
			for _, c := range []api.Conf{conf(12), even(12, heavy), even(12, 1)} {
				for _, upto := range []int{0, 5, 100, api.MaxVotes} {
					asked{c, l, v, upto, n[(upto+turn*17)%len(n)], 10 * turn}.check(t, n)
				}
			}
		}
	}
}

// P13.2, and P1: a long line, and two of them on the beginning, are gone along in good time.
func TestLongLines(t *testing.T) {
	const high = 1 << 14
	l := line(high)
	n := names(l)
	for _, boost := range []api.ID{beginning, n[0], n[high/2], n[high-1], {7, 7}} {
		a := asked{even(4, 25), l, ballots(n[5], n[high-1], n[high/2]), nine, boost, 30}
		a.checkHead(t, n[high-1])
		on := a.weights()
		for _, id := range []api.ID{beginning, n[0], n[high/2], n[high-1]} {
			a.checkOn(t, id, on[id])
		}
	}
	l = shape(high, func(i int) int { return max(i-2, -1) })
	n = names(l)
	for i := range 2 {
		for _, at := range []int{i, i + high/2, i + high - 2} {
			asked{even(4, 25), l, ballots(n[1-i]), nine, n[at], 26}.checkHead(t, n[high-2+i])
			asked{even(4, 25), l, ballots(n[at]), nine, n[1-i], 24}.checkHead(t, n[high-2+i])
		}
	}
}

// P13.1, P13.2, and P1: far more blocks side by side, and far more votes, than a view may have.
func TestFarMore(t *testing.T) {
	const wide, many = 500, 1 << 16
	l := star(wide)
	n := names(l)
	asked{even(4, 25), l, ballots(n[7], n[9]), nine, n[wide-1], 26}.checkHead(t, n[wide-1])
	asked{even(4, 25), l, ballots(n[7], n[9], n[9]), nine, n[wide-1], 26}.checkHead(t, n[9])
	var v []api.Vote
	for i := range many {
		v = append(v, api.Vote{From: 12 + i, Slot: i, Head: n[i%10]}, api.Vote{From: i % 12, Slot: i, Head: n[i%13]})
	}
	for _, upto := range []int{11, 13, 1000, many, math.MaxInt} {
		var last [12]int
		for i := range min(upto, many-1) + 1 {
			last[i%12] = i % 13
		}
		on := map[api.ID]int{n[11]: 20}
		for who, i := range last {
			on[n[i]] += 1 << who
		}
		a := asked{conf(12), l[:20], v, upto, n[11], 1}
		for _, id := range n[8:16] {
			a.checkOn(t, id, on[id])
		}
		a.checkHead(t, headOf(on, a.l))
	}
}
