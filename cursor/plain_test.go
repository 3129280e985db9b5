package cursor_test

import (
	"math"
	"slices"
	"testing"

	"marigold/api"
	"marigold/cursor"
	"marigold/mix"
	"marigold/tree"
)

const top = 1<<64 - 1

// beginning is spelt out here once more, as the document has it.
var beginning = api.ID{0, 0}

// stranger is no name of any block here.
var stranger = api.ID{7, 7}

// asked is all that Move hangs on.
type asked struct {
	c           api.Cursor
	l           []api.Block
	head, found api.ID
	is          bool
	slot        int
}

func (a asked) move() api.Cursor {
	return cursor.Move(a.c, a.l, a.head, a.found, a.is, a.slot)
}

// mayOf says the same as BLOCKS MAY BE, holding each block against those ahead.
func mayOf(l []api.Block) bool {
	var ahead []api.ID
	for _, b := range l {
		i := slices.Index(ahead, b.Parent)
		known := b.Parent == beginning || i >= 0 && l[i].Slot < b.Slot
		if tree.Name(b) == beginning || slices.Contains(ahead, tree.Name(b)) || b.Slot < 1 || !known {
			return false
		}
		ahead = append(ahead, tree.Name(b))
	}
	return true
}

// chainOf says the same as P6.2 of Chain, a block at a time.
func chainOf(l []api.Block, id api.ID) []api.ID {
	if id == beginning {
		return []api.ID{beginning}
	}
	i := slices.IndexFunc(l, func(b api.Block) bool { return tree.Name(b) == id })
	if i < 0 {
		return nil
	}
	return append([]api.ID{id}, chainOf(l, l[i].Parent)...)
}

// plainly says the same as P17.1, by the chains of the head and of what was found.
func (a asked) plainly() api.Cursor {
	var ofHead, ofFound []api.ID
	if mayOf(a.l) {
		ofHead, ofFound = chainOf(a.l, a.head), chainOf(a.l, a.found)
	}
	c := a.c
	if !slices.Contains(ofHead, c.ID) {
		c = api.Cursor{ID: beginning, Slot: a.slot, Revoked: a.c.Revoked + 1}
	}
	if a.is && slices.Contains(ofFound, c.ID) && a.found != c.ID && slices.Contains(ofHead, a.found) {
		c = api.Cursor{ID: a.found, Slot: a.slot, Revoked: c.Revoked}
	}
	return c
}

// wants holds what is answered against what is wanted. Of a test only the first fault is told.
func (a asked) wants(t *testing.T, want api.Cursor) {
	t.Helper()
	if got := a.move(); got != want && !t.Failed() {
		t.Errorf("%+v: it is %+v, not %+v", a, got, want)
	}
}

func (a asked) check(t *testing.T) {
	t.Helper()
	a.wants(t, a.plainly())
}

// at is a cursor whose Slot and Revoked are told from all slots that are asked for here.
func at(id api.ID) api.Cursor {
	return api.Cursor{ID: id, Slot: 1001, Revoked: 2001}
}

// nine is the slot that is asked for, if not told otherwise.
const nine = 9

// stays is what at(id) is, neither revoked nor moved.
func stays(id api.ID) api.Cursor {
	return at(id)
}

// moved is what at(..) is, if it moved to id in slot nine.
func moved(id api.ID) api.Cursor {
	return api.Cursor{ID: id, Slot: nine, Revoked: 2001}
}

// revoked is what at(..) is, if it was revoked in slot nine; id is the beginning, if it did not move as well.
func revoked(id api.ID) api.Cursor {
	return api.Cursor{ID: id, Slot: nine, Revoked: 2002}
}

// grow makes blocks by where their parents are (-1: on the beginning), of the slots from one on.
func grow(parents ...int) []api.Block {
	var l []api.Block
	for i, p := range parents {
		parent := beginning
		if p >= 0 {
			parent = tree.Name(l[p])
		}
		l = append(l, api.Block{Slot: i + 1, From: i % 3, Parent: parent, Salt: uint64(i)})
	}
	return l
}

// line is n blocks, each on the one ahead of it.
func line(n int) []api.Block {
	parents := make([]int, n)
	for i := range parents {
		parents[i] = i - 1
	}
	return grow(parents...)
}

// star is n blocks on the beginning.
func star(n int) []api.Block {
	return grow(slices.Repeat([]int{-1}, n)...)
}

// bush has forks at several heights, and three blocks on the beginning; nothing stands on 3, 4, 5, 7, 8 and 9, and the chain of 8 is 8, 6, 1 and 0.
func bush() []api.Block {
	return grow(-1, 0, -1, 0, 1, 2, 1, -1, 6, 0)
}

// names are those of all blocks, in order.
func names(l []api.Block) []api.ID {
	var all []api.ID
	for _, b := range l {
		all = append(all, tree.Name(b))
	}
	return all
}

// known are the beginning, and behind it the names of all blocks.
func known(l []api.Block) []api.ID {
	return append([]api.ID{beginning}, names(l)...)
}

// unknown are neither the beginning nor a name of any block here; the last ones differ from these in a word or a bit.
func unknown(l []api.Block) []api.ID {
	all := []api.ID{{0, 1}, {1, 0}, stranger, {0, top}, {top, 0}, {top, top}, {1 << 63, 1 << 63}, tree.Name(api.Block{Slot: 999, From: 999})}
	for _, x := range names(l) {
		all = append(all, api.ID{x[1], x[0]}, api.ID{x[0], 0}, api.ID{0, x[1]}, api.ID{x[0], x[1] ^ 1}, api.ID{x[0] ^ 1<<63, x[1]})
	}
	return all
}

// some is from 0 to n less 1, and hangs on the seed and the turn alone.
func some(seed uint64, turn, n int) int {
	return int(mix.Step(seed, uint64(turn)) % uint64(n))
}

// someBlocks are by words that hang on the seed alone: long chains, and forks at many places.
func someBlocks(seed uint64) []api.Block {
	parents := make([]int, 1+some(seed, 0, api.MaxBlocks))
	for i := range parents {
		parents[i] = max(-1, i-1-some(seed, i+1, 1+some(seed, 100, 6)))
	}
	return grow(parents...)
}

// shuffled is l in another order that may be, which hangs on the seed alone.
func shuffled(l []api.Block, seed uint64) []api.Block {
	var m []api.Block
	left := slices.Clone(l)
	for turn := 0; len(left) > 0; turn++ {
		i := some(seed, turn, len(left))
		if tree.May(append(slices.Clone(m), left[i])) {
			m = append(m, left[i])
			left = slices.Delete(left, i, i+1)
		}
	}
	return m
}

// numbers are edges of whole numbers.
func numbers() []int {
	return []int{math.MinInt, math.MinInt + 1, -1 << 62, -1 << 32, -1<<32 - 1, -1 << 31, -1 << 20, -2, -1, 0, 1, 2, 3, 59, 60, 1<<20 - 1, 1 << 20, 1<<20 + 1, 1<<31 - 1, 1 << 31, 1 << 32, 1<<32 + 1, 1 << 62, math.MaxInt - 1, math.MaxInt}
}

// wrongBlocks are such as may not be, by why; some of them were searched for: a block whose name is the beginning's, and two of one name.
func wrongBlocks() map[string][]api.Block {
	l := bush()
	child := api.Block{Slot: 2, Parent: tree.Name(l[0])}
	nameless := api.Block{Slot: 4386925562764349927, From: -6943071948554506534, Salt: 13775616248727150990}
	twins := []api.Block{{Slot: 3101226054416760429, From: 1}, {Slot: 4619033793057862324, Salt: 6655185758041175899}}
	return map[string][]api.Block{
		"a parent that is left out":  l[1:],
		"a parent behind":            append([]api.Block{l[1]}, l...),
		"turned round":               {child, l[0]},
		"one twice":                  append(bush(), l[3]),
		"one alone twice":            {l[0], l[0]},
		"a slot of 0":                append(bush(), api.Block{}),
		"a slot of 0 alone":          {{}},
		"a slot below 0":             append(bush(), api.Block{Slot: -1}),
		"the least slot":             append(bush(), api.Block{Slot: math.MinInt}),
		"a slot that does not rise":  append(bush(), api.Block{Slot: 1, Parent: tree.Name(l[0])}),
		"a slot that falls":          append(bush(), api.Block{Slot: 1, Parent: tree.Name(l[1])}),
		"a parent that is not known": append(bush(), api.Block{Slot: 50, Parent: stranger}),
		"the beginning's name":       append(bush(), nameless),
		"the beginning's name alone": {nameless},
		"two of one name":            append(bush(), twins...),
		"two of one name alone":      twins,
	}
}

// smallTrees are all trees of up to four blocks.
func smallTrees() [][]api.Block {
	trees := [][]api.Block{nil, grow(-1)}
	for p := range 2 {
		trees = append(trees, grow(-1, p-1))
		for q := range 3 {
			trees = append(trees, grow(-1, p-1, q-1))
			for r := range 4 {
				trees = append(trees, grow(-1, p-1, q-1, r-1))
			}
		}
	}
	return trees
}
