package wire_test

import (
	"bytes"
	"encoding/binary"
	"math"
	"slices"
	"testing"

	"marigold/api"
	"marigold/wire"
)

const (
	top      = 1<<64 - 1
	lastSlot = 1 << 20
	lastFrom = 11
)

// got is all that Get answers.
type got struct {
	b  api.Block
	v  api.Vote
	is bool
	e  api.Errno
}

func get(x []byte) got {
	b, v, is, e := wire.Get(x)
	return got{b, v, is, e}
}

// refused is what Get answers for bytes that are neither a block's nor a vote's.
var refused = got{e: api.ErrForm}

// rightSlots are slots that may be: the edges, and such with bytes that tell their order.
func rightSlots() []int {
	return []int{1, 2, 3, 127, 128, 255, 256, 257, 258, 65535, 65536, 0x010203, 0x0f0e0d, lastSlot - 1, lastSlot}
}

// wrongSlots are slots that may not be, among them some that would be right if they were cut to four bytes or less.
func wrongSlots() []int {
	return []int{0, -1, -2, -258, -lastSlot, lastSlot + 1, lastSlot + 2, 1 << 21, 1 << 24, 1<<24 + 1, 1<<31 - 1, 1 << 31, 1<<32 - 1,
		1 << 32, 1<<32 + 1, 1<<32 + lastSlot, 1 - 1<<32, 1<<40 + 258, 1<<62 + 7, math.MinInt, math.MinInt + 1, math.MaxInt}
}

func rightFroms() []int { return []int{0, 1, 2, 3, 4, 5, 6, 7, 8, 9, 10, lastFrom} }

// wrongFroms has those as well that would be right if they were cut to one byte.
func wrongFroms() []int {
	return []int{-1, -2, -12, lastFrom + 1, lastFrom + 2, 127, 128, 254, 255, 256, 257, 256 + lastFrom, -256, 3 - 256,
		1 << 32, 1<<32 + 1, 1 << 62, math.MinInt, math.MaxInt}
}

// someWords are noughts, the greatest ones, and those in which each byte is another one.
func someWords() []uint64 {
	return []uint64{0, 1, 255, 256, 0x0102030405060708, 0xf1e2d3c4b5a69788, 1 << 56, 1<<63 - 1, 1 << 63, top - 1, top}
}

func ids() []api.ID {
	var l []api.ID
	for _, a := range someWords() {
		for _, b := range someWords() {
			l = append(l, api.ID{a, b})
		}
	}
	return l
}

// rightBlocks are all of the slots with all of somebody, and all IDs with all words as Salt.
func rightBlocks() []api.Block {
	var l []api.Block
	for _, slot := range rightSlots() {
		for _, from := range rightFroms() {
			l = append(l, api.Block{Slot: slot, From: from},
				api.Block{Slot: slot, From: from, Parent: api.ID{0x1112131415161718, 0x2122232425262728}, Salt: 0x3132333435363738},
				api.Block{Slot: slot, From: from, Parent: api.ID{top, top}, Salt: top})
		}
	}
	for i, id := range ids() {
		for _, salt := range someWords() {
			l = append(l, api.Block{Slot: rightSlots()[i%len(rightSlots())], From: i % 12, Parent: id, Salt: salt})
		}
	}
	return l
}

func voteLike(b api.Block) api.Vote { return api.Vote{From: b.From, Slot: b.Slot, Head: b.Parent} }

func rightVotes() []api.Vote {
	var l []api.Vote
	for _, b := range rightBlocks() {
		l = append(l, voteLike(b))
	}
	return l
}

// laid says the same as the chapter's 'its bytes', by the library, without the package's help.
func laid(mark byte, slot, from int, words ...uint64) []byte {
	x := binary.LittleEndian.AppendUint32([]byte{mark}, uint32(slot))
	x = append(x, byte(from))
	for _, w := range words {
		x = binary.LittleEndian.AppendUint64(x, w)
	}
	return x
}

func laidBlock(b api.Block) []byte {
	return laid(1, b.Slot, b.From, b.Parent[0], b.Parent[1], b.Salt)
}

func laidVote(v api.Vote) []byte { return laid(2, v.Slot, v.From, v.Head[0], v.Head[1]) }

func putBlock(t *testing.T, b api.Block) []byte {
	t.Helper()
	x, e := wire.Block(b)
	if e != api.OK {
		t.Fatalf("Block(%v) tells %d", b, e)
	}
	return x
}

func putVote(t *testing.T, v api.Vote) []byte {
	t.Helper()
	x, e := wire.Vote(v)
	if e != api.OK {
		t.Fatalf("Vote(%v) tells %d", v, e)
	}
	return x
}

// P3.1: the chapter's example.
func TestExample(t *testing.T) {
	v := api.Vote{From: 3, Slot: 258}
	want := append([]byte{2, 2, 1, 0, 0, 3}, make([]byte, 16)...)
	if x := putVote(t, v); !bytes.Equal(x, want) {
		t.Errorf("its bytes are %v", x)
	}
	if g := get(want); g != (got{v: v, is: true}) {
		t.Errorf("they are got as %v", g)
	}
}

// P3.1: blocks and their bytes, written out by hand.
func TestBlockWritten(t *testing.T) {
	for _, x := range []struct {
		b    api.Block
		want string
	}{
		{api.Block{Slot: 1},
			"\x01\x01\x00\x00\x00\x00" + "\x00\x00\x00\x00\x00\x00\x00\x00" + "\x00\x00\x00\x00\x00\x00\x00\x00" + "\x00\x00\x00\x00\x00\x00\x00\x00"},
		{api.Block{Slot: 1 << 20, From: 11, Parent: api.ID{top, top}, Salt: top},
			"\x01\x00\x00\x10\x00\x0b" + "\xff\xff\xff\xff\xff\xff\xff\xff" + "\xff\xff\xff\xff\xff\xff\xff\xff" + "\xff\xff\xff\xff\xff\xff\xff\xff"},
		{api.Block{Slot: 0x0c0b0a, From: 7, Parent: api.ID{0x1817161514131211, 0x2827262524232221}, Salt: 0x3837363534333231},
			"\x01\x0a\x0b\x0c\x00\x07" + "\x11\x12\x13\x14\x15\x16\x17\x18" + "\x21\x22\x23\x24\x25\x26\x27\x28" + "\x31\x32\x33\x34\x35\x36\x37\x38"},
		{api.Block{Slot: 256, From: 1, Parent: api.ID{1, 1 << 63}, Salt: 1 << 32},
			"\x01\x00\x01\x00\x00\x01" + "\x01\x00\x00\x00\x00\x00\x00\x00" + "\x00\x00\x00\x00\x00\x00\x00\x80" + "\x00\x00\x00\x00\x01\x00\x00\x00"},
	} {
		if y := putBlock(t, x.b); string(y) != x.want {
			t.Errorf("Block(%v) is %x", x.b, y)
		}
		if g := get([]byte(x.want)); g != (got{b: x.b}) {
			t.Errorf("Get(%x) is %v", x.want, g)
		}
	}
}

// P3.1: votes and their bytes, written out by hand.
func TestVoteWritten(t *testing.T) {
	for _, x := range []struct {
		v    api.Vote
		want string
	}{
		{api.Vote{Slot: 1},
			"\x02\x01\x00\x00\x00\x00" + "\x00\x00\x00\x00\x00\x00\x00\x00" + "\x00\x00\x00\x00\x00\x00\x00\x00"},
		{api.Vote{Slot: 1 << 20, From: 11, Head: api.ID{top, top}},
			"\x02\x00\x00\x10\x00\x0b" + "\xff\xff\xff\xff\xff\xff\xff\xff" + "\xff\xff\xff\xff\xff\xff\xff\xff"},
		{api.Vote{Slot: 0x0c0b0a, From: 7, Head: api.ID{0x1817161514131211, 0x2827262524232221}},
			"\x02\x0a\x0b\x0c\x00\x07" + "\x11\x12\x13\x14\x15\x16\x17\x18" + "\x21\x22\x23\x24\x25\x26\x27\x28"},
		{api.Vote{Slot: 7, From: 2, Head: api.ID{1 << 63, 1}},
			"\x02\x07\x00\x00\x00\x02" + "\x00\x00\x00\x00\x00\x00\x00\x80" + "\x01\x00\x00\x00\x00\x00\x00\x00"},
	} {
		if y := putVote(t, x.v); string(y) != x.want {
			t.Errorf("Vote(%v) is %x", x.v, y)
		}
		if g := get([]byte(x.want)); g != (got{v: x.v, is: true}) {
			t.Errorf("Get(%x) is %v", x.want, g)
		}
	}
}

// P3.1: all that is well made, held against bytes that the library laid.
func TestWellMade(t *testing.T) {
	for _, b := range rightBlocks() {
		want := laidBlock(b)
		if x := putBlock(t, b); len(x) != 30 || !bytes.Equal(x, want) {
			t.Errorf("Block(%v) is %x, not %x", b, x, want)
		}
		if g := get(want); g != (got{b: b}) {
			t.Errorf("Get(%x) is %v", want, g)
		}
	}
	for _, v := range rightVotes() {
		want := laidVote(v)
		if x := putVote(t, v); len(x) != 22 || !bytes.Equal(x, want) {
			t.Errorf("Vote(%v) is %x, not %x", v, x, want)
		}
		if g := get(want); g != (got{v: v, is: true}) {
			t.Errorf("Get(%x) is %v", want, g)
		}
	}
}

// P3.1, and P1: what is not well made has no bytes, by its slot, by who it is from, or by both.
func TestNotWellMade(t *testing.T) {
	hold := func(slot, from int) {
		for _, w := range []uint64{0, 5, top} {
			b := api.Block{Slot: slot, From: from, Parent: api.ID{w, w}, Salt: w}
			if x, e := wire.Block(b); len(x) != 0 || e != api.ErrArg {
				t.Errorf("Block(%v) is %x, %d", b, x, e)
			}
			if x, e := wire.Vote(voteLike(b)); len(x) != 0 || e != api.ErrArg {
				t.Errorf("Vote(%v) is %x, %d", voteLike(b), x, e)
			}
		}
	}
	for _, slot := range wrongSlots() {
		for _, from := range append(rightFroms(), wrongFroms()...) {
			hold(slot, from)
		}
	}
	for _, slot := range rightSlots() {
		for _, from := range wrongFroms() {
			hold(slot, from)
		}
	}
}

// P3.1: the edges are those of api.
func TestEdgesOfAPI(t *testing.T) {
	putBlock(t, api.Block{Slot: api.MaxSlot, From: api.MaxVals - 1})
	putVote(t, api.Vote{Slot: api.MaxSlot, From: api.MaxVals - 1})
	if _, e := wire.Block(api.Block{Slot: api.MaxSlot + 1}); e != api.ErrArg {
		t.Error("a block behind the last slot:", e)
	}
	if _, e := wire.Vote(api.Vote{Slot: 1, From: api.MaxVals}); e != api.ErrArg {
		t.Error("a vote of nobody:", e)
	}
}

// P3.1: every number of bytes with every first byte: only 30 with a 1 and 22 with a 2 are something.
func TestGetLengthsAndMarks(t *testing.T) {
	whole := append(laid(0, 258, 3, 9, 8, 7), make([]byte, 40)...)
	for n := range len(whole) + 1 {
		for mark := range 256 {
			x := slices.Clone(whole[:n])
			if n > 0 {
				x[0] = byte(mark)
			}
			want := refused
			switch {
			case n == 30 && mark == 1:
				want = got{b: api.Block{Slot: 258, From: 3, Parent: api.ID{9, 8}, Salt: 7}}
			case n == 22 && mark == 2:
				want = got{v: api.Vote{Slot: 258, From: 3, Head: api.ID{9, 8}}, is: true}
			}
			if g := get(x); g != want {
				t.Errorf("%d bytes, of which the first one is %d, are got as %v", n, mark, g)
			}
		}
	}
	if g := get(nil); g != refused {
		t.Errorf("nil is got as %v", g)
	}
}

// P3.1: a byte too few or too many, a first byte of the other kind, and two of them behind each other, whatever they hold.
func TestGetSpoilt(t *testing.T) {
	hold := func(x []byte) {
		if g := get(x); g != refused {
			t.Errorf("Get(%x) is %v", x, g)
		}
	}
	for _, b := range rightBlocks() {
		x, y := laidBlock(b), laidVote(voteLike(b))
		for _, z := range [][]byte{x, y} {
			hold(z[:len(z)-1])
			hold(z[1:])
			hold(append(slices.Clone(z), 0))
			hold(append(slices.Clone(z), z[0]))
			hold(append([]byte{0}, z...))
			hold(append([]byte{z[0]}, z...))
			hold(slices.Concat(z, x))
			hold(slices.Concat(z, y))
			for _, mark := range []byte{0, 3, 255, 3 - z[0]} {
				hold(append([]byte{mark}, z[1:]...))
			}
		}
	}
}

// P3.1: bytes of a slot, or of somebody, that may not be; what stands behind them does not matter.
func TestGetNotWellMade(t *testing.T) {
	hold := func(slot, from int) {
		for _, w := range []uint64{0, 5, top} {
			for _, x := range [][]byte{laid(1, slot, from, w, w, w), laid(2, slot, from, w, w)} {
				if g := get(x); g != refused {
					t.Errorf("Get(%x) is %v", x, g)
				}
			}
		}
	}
	slots := []int{0, lastSlot + 1, lastSlot + 2, 1 << 21, 1 << 24, 1<<24 + 1, 2 << 24, 1<<31 - 1, 1 << 31, 1<<31 + 1, 1<<32 - 2, 1<<32 - 1}
	for _, slot := range slots {
		for from := range 256 {
			hold(slot, from)
		}
	}
	for _, slot := range rightSlots() {
		for from := lastFrom + 1; from < 256; from++ {
			hold(slot, from)
		}
	}
}

// P3.1: with one byte changed it is just what a plain reading of the bytes says.
func TestGetOneByteChanged(t *testing.T) {
	read := func(x []byte) got {
		slot, from := int(binary.LittleEndian.Uint32(x[1:])), int(x[5])
		id := api.ID{binary.LittleEndian.Uint64(x[6:]), binary.LittleEndian.Uint64(x[14:])}
		switch {
		case slot < 1 || slot > lastSlot || from > lastFrom:
			return refused
		case len(x) == 30 && x[0] == 1:
			return got{b: api.Block{Slot: slot, From: from, Parent: id, Salt: binary.LittleEndian.Uint64(x[22:])}}
		case len(x) == 22 && x[0] == 2:
			return got{v: api.Vote{Slot: slot, From: from, Head: id}, is: true}
		}
		return refused
	}
	for _, x := range [][]byte{
		laid(1, 258, 3, 0, 0, 0), laid(2, 258, 3, 0, 0), laid(1, lastSlot, lastFrom, top, top, top), laid(2, lastSlot, lastFrom, top, top),
		laid(1, 1, 0, 0x0102030405060708, 0x1112131415161718, 0x2122232425262728), laid(2, 1, 0, 0x0102030405060708, 0x1112131415161718),
	} {
		for i := range x {
			for n := range 256 {
				y := slices.Clone(x)
				y[i] = byte(n)
				if g, want := get(y), read(y); g != want {
					t.Errorf("Get(%x) is %v, not %v", y, g, want)
				}
			}
		}
	}
}

// P1: bytes of great length end, and are nothing.
func TestGetLong(t *testing.T) {
	for _, mark := range []byte{1, 2} {
		x := make([]byte, 1<<20)
		copy(x, laid(mark, 1, 0, 0, 0, 0))
		if g := get(x); g != refused {
			t.Errorf("%v", g)
		}
	}
}

// P3.2: what is put is got, and what is got is put as the same bytes.
func TestPutAndGot(t *testing.T) {
	for _, b := range rightBlocks() {
		x := putBlock(t, b)
		g := get(x)
		if g != (got{b: b}) {
			t.Errorf("%v is put, and got as %v", b, g)
		}
		if y := putBlock(t, g.b); !bytes.Equal(x, y) {
			t.Errorf("%x is got, and put as %x", x, y)
		}
	}
	for _, v := range rightVotes() {
		x := putVote(t, v)
		g := get(x)
		if g != (got{v: v, is: true}) {
			t.Errorf("%v is put, and got as %v", v, g)
		}
		if y := putVote(t, g.v); !bytes.Equal(x, y) {
			t.Errorf("%x is got, and put as %x", x, y)
		}
	}
}

// P3.2: every slot there is, and some on both sides of them.
func TestEverySlot(t *testing.T) {
	for slot := -1000; slot <= lastSlot+1000; slot++ {
		b := api.Block{Slot: slot, From: (slot + 1200) % 12, Parent: api.ID{uint64(slot), 1}, Salt: ^uint64(slot)}
		v := voteLike(b)
		x, e := wire.Block(b)
		y, f := wire.Vote(v)
		if slot < 1 || slot > lastSlot {
			if len(x) != 0 || len(y) != 0 || e != api.ErrArg || f != api.ErrArg {
				t.Fatalf("slot %d: %x, %d; %x, %d", slot, x, e, y, f)
			}
			continue
		}
		if g := get(x); e != api.OK || g != (got{b: b}) {
			t.Fatalf("%v is put as %x, %d, and got as %v", b, x, e, g)
		}
		if g := get(y); f != api.OK || g != (got{v: v, is: true}) {
			t.Fatalf("%v is put as %x, %d, and got as %v", v, y, f, g)
		}
	}
}

// P3.2: no two have the same bytes.
func TestBytesTellApart(t *testing.T) {
	blocks, votes := map[string]api.Block{}, map[string]api.Vote{}
	for _, b := range rightBlocks() {
		x := string(putBlock(t, b))
		if c, is := blocks[x]; is && c != b {
			t.Errorf("%v and %v are both %x", b, c, x)
		}
		blocks[x] = b
	}
	for _, v := range rightVotes() {
		x := string(putVote(t, v))
		if w, is := votes[x]; is && w != v {
			t.Errorf("%v and %v are both %x", v, w, x)
		}
		if _, is := blocks[x]; is {
			t.Errorf("%v has the bytes of a block", v)
		}
		votes[x] = v
	}
}

// P3.2: from bytes on, also such as nobody put: what is got is put as the same bytes.
func FuzzGot(f *testing.F) {
	f.Add([]byte(nil))
	for _, slot := range []int{0, 1, 258, lastSlot, lastSlot + 1} {
		for _, from := range []int{0, lastFrom, lastFrom + 1} {
			f.Add(laid(1, slot, from, 1, 2, 3))
			f.Add(laid(2, slot, from, 1, 2))
			f.Add(laid(2, slot, from, 1, 2, 3))
			f.Add(laid(1, slot, from, 1, 2))
		}
	}
	f.Fuzz(func(t *testing.T, x []byte) {
		held := slices.Clone(x)
		g := get(x)
		if !bytes.Equal(x, held) {
			t.Errorf("Get made %x of %x", x, held)
		}
		switch {
		case g.e != api.OK:
			if g != refused {
				t.Errorf("Get(%x) is %v", x, g)
			}
		case g.is:
			if y := putVote(t, g.v); !bytes.Equal(x, y) || g.b != (api.Block{}) {
				t.Errorf("%x is got as %v, and put as %x", x, g, y)
			}
		default:
			if y := putBlock(t, g.b); !bytes.Equal(x, y) || g.v != (api.Vote{}) {
				t.Errorf("%x is got as %v, and put as %x", x, g, y)
			}
		}
	})
}

// R3: the bytes that are handed in, and those behind them, stay as they were; later changes of them change nothing of the answer.
func TestGetKeepsBytes(t *testing.T) {
	for _, x := range [][]byte{nil, {1}, {2}, laid(1, 258, 3, 7, 8, 9), laid(2, 258, 3, 7, 8), laid(1, 0, 3, 7, 8, 9), laid(2, 258, 12, 7, 8), laid(3, 1, 1, 1, 1)} {
		room := append(slices.Clone(x), 2, 1, 0, 0, 0, 5, 6, 7, 8, 9)
		held := slices.Clone(room)
		g := get(room[:len(x)])
		if !bytes.Equal(room, held) {
			t.Errorf("Get made %x of %x", room, held)
		}
		if h := get(x); h != g {
			t.Errorf("Get(%x) is %v, but with others behind %v", x, h, g)
		}
		was := g
		for i := range room {
			room[i] = ^room[i]
		}
		if g != was || get(x) != was {
			t.Errorf("Get(%x) became another one", x)
		}
	}
}

// R3: bytes that were answered are the caller's own, also behind their end; R5: nothing hangs on what was asked before.
func TestAnswersAreOwn(t *testing.T) {
	b := api.Block{Slot: 258, From: 3, Parent: api.ID{7, 8}, Salt: 9}
	v := voteLike(b)
	puts := []func() ([]byte, api.Errno){
		func() ([]byte, api.Errno) { return wire.Block(b) },
		func() ([]byte, api.Errno) { return wire.Vote(v) },
	}
	wants := [][]byte{laidBlock(b), laidVote(v)}
	for i, first := range puts {
		for j, second := range puts {
			x, _ := first()
			y, _ := second()
			wire.Get(x)
			wire.Get(y)
			if !bytes.Equal(x, wants[i]) || !bytes.Equal(y, wants[j]) {
				t.Errorf("%x, then %x", x, y)
			}
			for k := range x[:cap(x)] {
				x[:cap(x)][k] = 0xee
			}
			if !bytes.Equal(y, wants[j]) {
				t.Errorf("%x was changed with another answer", y)
			}
			if z, e := first(); e != api.OK || !bytes.Equal(z, wants[i]) {
				t.Errorf("asked again: %x, %d", z, e)
			}
		}
	}
	if b != (api.Block{Slot: 258, From: 3, Parent: api.ID{7, 8}, Salt: 9}) || v != voteLike(b) {
		t.Error("what was handed in is another one", b, v)
	}
}
