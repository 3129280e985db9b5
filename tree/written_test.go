package tree_test

import (
	"math"

	"marigold/api"
)

// named is a block and its Name.
type named struct {
	b    api.Block
	name api.ID
}

// written are Names that were worked out elsewhere, of blocks that may be and of such as may not.
func written() []named {
	return []named{
		{api.Block{Slot: 1}, api.ID{0x79102189ba8e6030, 0x1f72061d7ce46a82}},
		{api.Block{Slot: 1, Salt: 1}, api.ID{0x7159b4a8d529531f, 0xfd5d0c525af03878}},
		{api.Block{Slot: 1, From: 1}, api.ID{0xc9832ed0dc25281d, 0xa1685fe522e34e15}},
		{api.Block{Slot: 2}, api.ID{0xf94a641c8c090ac8, 0x4ed12ea9f4407650}},
		{api.Block{Slot: 1, Parent: api.ID{1, 0}}, api.ID{0xd0737285101bebd5, 0x65eaeecca65175c9}},
		{api.Block{Slot: 1, Parent: api.ID{0, 1}}, api.ID{0x6540afacb0ba2157, 0x40c0ccfb7d284bea}},
		{api.Block{Slot: 1, Parent: api.ID{top, top}}, api.ID{0x1da945473e83aa3e, 0xda1bd17d1466c2d2}},
		{api.Block{Slot: 1, Salt: top}, api.ID{0x1d0ee5a1678737c7, 0xf7869e6a10c7f0e4}},
		{api.Block{Slot: math.MaxInt}, api.ID{0xe1db1415abe2009b, 0x7ca0658e1903cc0d}},
		{api.Block{}, api.ID{0xf82df9528ea4efff, 0xa99afa4b45910240}},
		{api.Block{Slot: -1}, api.ID{0xab3cdc3c5ac36648, 0x93e66a2deba48e79}},
		{api.Block{Slot: 1, From: -1}, api.ID{0x98468e7d41fabc6f, 0x5232c16de22c7f05}},
		{api.Block{Slot: math.MinInt, From: math.MinInt}, api.ID{0x9f0e07cda6b94337, 0xf2c1cc19974556a0}},
		{api.Block{Slot: math.MaxInt, From: math.MaxInt, Parent: api.ID{top, top}, Salt: top}, api.ID{0x64defc4d13d90457, 0xb196dfc477a9325f}},
		{api.Block{Slot: -1, From: -1, Parent: api.ID{top, top}, Salt: top}, api.ID{0xc191d50b8f03d4c7, 0x5ac1e2eefbf1ff93}},
		{api.Block{Slot: 3, From: 7, Parent: api.ID{5, 9}, Salt: 11}, api.ID{0xd8ede70b906826ed, 0x0550cae92065a7bb}},
		{api.Block{Slot: 1 << 20, From: 11, Parent: api.ID{1 << 63, 1<<63 - 1}, Salt: 0x0123456789abcdef}, api.ID{0x4bc8e3b3318cf2dc, 0xcf5dade57d8f280a}},
		{nameless(), api.ID{}},
		{twins()[0], api.ID{0x524822da174664a8, 0x8b432a9e94c618f8}},
		{twins()[1], api.ID{0x524822da174664a8, 0x8b432a9e94c618f8}},
	}
}

// nameless was searched for: its Name is the beginning's, and all else of it is right.
func nameless() api.Block {
	return api.Block{Slot: 4386925562764349927, From: -6943071948554506534, Salt: 13775616248727150990}
}

// twins were searched for: they are not the same, but have one Name.
func twins() [2]api.Block {
	return [2]api.Block{
		{Slot: 3101226054416760429, From: 1},
		{Slot: 4619033793057862324, Salt: 6655185758041175899},
	}
}
