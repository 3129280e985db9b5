package lmd_test

import (
	"slices"
	"testing"

	"marigold/api"
	"marigold/duty"
	"marigold/lmd"
)

// P13.1: boosts written out, also such as one that is rounded down but once, or in another order, would not be.
func TestBoostWritten(t *testing.T) {
	for _, x := range []struct {
		w                []int
		epoch, pct, want int
	}{
		{[]int{100}, 1, 40, 40},
		{[]int{10, 20, 70}, 2, 40, 20},
		{[]int{10, 20, 70}, 3, 40, 13}, // 33
		{[]int{10, 20, 70}, 3, 100, 33},
		{[]int{10, 20, 70}, 8, 50, 6}, // 12
		{[]int{15}, 8, 60, 0},         // 1; 60 of 15 by 100 by 8 would be 1
		{[]int{15}, 8, 99, 0},
		{[]int{15}, 8, 100, 1},
		{[]int{7, 8}, 8, 100, 1},
		{[]int{5, 5, 5}, 4, 34, 1}, // 3
		{[]int{5, 5, 5}, 4, 33, 0},
		{[]int{5, 5, 5}, 4, 66, 1},
		{[]int{5, 5, 5}, 4, 67, 2},
		{[]int{5, 5, 5}, 4, 99, 2},
		{[]int{99}, 1, 1, 0},
		{[]int{100}, 1, 1, 1},
		{[]int{199}, 1, 1, 1},
		{[]int{200}, 1, 1, 2},
		{[]int{199}, 2, 1, 0},
		{[]int{199, 1}, 2, 1, 1},
		{[]int{1}, 1, 99, 0},
		{[]int{1}, 1, 100, 1},
		{[]int{1}, 2, 100, 0},
		{[]int{7}, 8, 100, 0},
		{[]int{0}, 1, 100, 0},
		{[]int{0, 0, 0}, 8, 50, 0},
		{[]int{0, 9, 0}, 4, 50, 1},
		{[]int{heavy}, 1, 50, 549755813888},
		{[]int{heavy}, 1, 99, 1088516511498},
		{slices.Repeat([]int{heavy}, 12), 1, 100, 13194139533312},
		{slices.Repeat([]int{heavy}, 12), 1, 99, 13062198137978},
		{slices.Repeat([]int{heavy}, 12), 8, 100, 1649267441664},
		{slices.Repeat([]int{heavy - 1}, 12), 7, 1, 18848770761}, // 1884877076185
		{slices.Repeat([]int{heavy - 1}, 12), 7, 100, 1884877076185},
	} {
		c := weighing(x.w...)
		c.Epoch = x.epoch
		checkBoost(t, c, x.pct, x.want)
	}
}

// P13.1: all totals to some hundreds, with all epochs and all hundredths: 100 boosts go into what is theirs of it, and one more does not; and that many of the greatest share into the total.
func TestBoostEach(t *testing.T) {
	for total := range 300 {
		c := weighing(total/3, total-total/3)
		for c.Epoch = 1; c.Epoch <= 8; c.Epoch++ {
			share := lmd.Boost(c, 100)
			if (share*c.Epoch > total || (share+1)*c.Epoch <= total) && !t.Failed() {
				t.Errorf("%v: all hundredths are %d", c, share)
			}
			for pct := range 101 {
				if got := lmd.Boost(c, pct); (got*100 > share*pct || (got+1)*100 <= share*pct) && !t.Failed() {
					t.Errorf("%v: %d hundredths are %d", c, pct, got)
				}
				checkBoost(t, c, pct, boostOf(c, pct))
			}
		}
	}
}

// P13.1: a pct below 0 or above 100 makes no boost, neither does one of 0; those at the edges do.
func TestBoostPct(t *testing.T) {
	for _, c := range []api.Conf{even(1, 1), even(3, 1000), conf(12), even(12, heavy)} {
		for _, pct := range append(wrongPcts(), 0) {
			checkBoost(t, c, pct, 0)
		}
		for _, pct := range numbers() {
			checkBoost(t, c, pct, boostOf(c, pct))
		}
		for pct := -300; pct <= 400; pct++ {
			checkBoost(t, c, pct, boostOf(c, pct))
		}
	}
	for pct := 0; pct <= 100; pct++ {
		checkBoost(t, weighing(40, 60), pct, pct)
		checkBoost(t, even(12, heavy), pct, 12*heavy*pct/100)
	}
}

// P13.1, and P1: a conf that may not be makes no boost, whatever the pct is.
func TestBoostWrongConfs(t *testing.T) {
	for why, c := range wrongConfs() {
		if duty.May(c) {
			t.Fatalf("%s may be", why)
		}
		for _, pct := range append(wrongPcts(), 0, 1, 50, 99, 100) {
			checkBoost(t, c, pct, 0)
		}
	}
}

// P13.1: confs on every edge of what may be make one; the seed, beta, and who has which weight do not matter.
func TestBoostRightConfs(t *testing.T) {
	for _, seed := range []uint64{0, 1, 1 << 63, top} {
		for _, beta := range [][2]int{{0, 1}, {1, 1}, {0, 1000}, {1000, 1000}, {1, 4}} {
			for turn := range uint64(10) {
				c := conf(12)
				c.W = mixed(c.W, turn)
				c.Seed, c.Num, c.Den = seed, beta[0], beta[1]
				for epoch, want := range []int{1: 4095, 2: 2047, 3: 1365, 4: 1023, 5: 819, 6: 682, 7: 585, 8: 511} {
					if epoch > 0 {
						c.Epoch = epoch
						checkBoost(t, c, 100, want)
						checkBoost(t, c, 50, want/2)
					}
				}
			}
		}
	}
	for n := 1; n <= 12; n++ {
		checkBoost(t, even(n, 10), 70, 7*n)
		checkBoost(t, even(n, heavy), 100, n*heavy)
		checkBoost(t, even(n, 0), 100, 0)
	}
}
