package shuffle

import (
	"sync"
	"testing"

	"marigold/api"
	"marigold/mix"
)

// many runs f in that many goroutines at the same time, and waits for all of them.
func many(n int, f func(k int)) {
	var all sync.WaitGroup
	start := make(chan struct{})
	for k := range n {
		all.Go(func() {
			<-start
			f(k)
		})
	}
	close(start)
	all.Wait()
}

// Ways: nobody gets a place twice, and all of them are counted, whoever asks.
func TestPlacesAreHandedOutOnce(t *testing.T) {
	const askers, each = 8, 125
	s := rounds{seed: 3, n: askers * each}
	got := [askers][]int{}
	many(askers, func(k int) {
		for range each {
			got[k] = append(got[k], s.next())
		}
	})
	seen := [askers * each]int{}
	for _, l := range got {
		for _, i := range l {
			if i < 0 || i >= len(seen) {
				t.Fatalf("the place %d was handed out", i)
			}
			seen[i]++
		}
	}
	for i, times := range seen {
		if times != 1 {
			t.Errorf("the place %d was handed out %d times", i, times)
		}
	}
	if n := s.asked.Load(); n != askers*each {
		t.Errorf("%d were counted", n)
	}
}

// Ways: what a round takes is the same for all who ask at the same time, and is worked out no second time.
func TestRoundIsWorkedOutOnce(t *testing.T) {
	const askers = 8
	s := rounds{seed: 3, n: 997}
	got := [askers][api.Rounds]*round{}
	many(askers, func(k int) {
		for r := range api.Rounds {
			got[k][(r+k)%api.Rounds] = s.round((r + k) % api.Rounds)
		}
	})
	for r := range api.Rounds {
		for k := range askers {
			if got[k][r] != got[0][r] {
				t.Errorf("round %d is held twice", r)
			}
		}
		d := got[0][r]
		if want := int(mix.Step(3, uint64(r)) % 997); d.pivot != want {
			t.Errorf("the pivot of round %d is %d, not %d", r, d.pivot, want)
		}
		if want := mix.Step(3, 1000+uint64(r)); d.turn != want {
			t.Errorf("the turn of round %d is %d, not %d", r, d.turn, want)
		}
		d.pivot = -7
		if s.round(r).pivot != -7 {
			t.Errorf("round %d was worked out twice", r)
		}
	}
}

// Ways: places that go through one seed's rounds at the same time go where they go one by one.
func TestManyGoThroughOneSeed(t *testing.T) {
	const n = 200
	want := Perm(11, n)
	s := rounds{seed: 11, n: n}
	forth, back := [n]int{}, [n]int{}
	many(n, func(i int) {
		forth[i] = s.forth(i)
		back[i] = s.back(want[i])
	})
	for i := range n {
		if forth[i] != want[i] || back[i] != i {
			t.Errorf("%d goes to %d, not %d, and comes from %d", i, forth[i], want[i], back[i])
		}
	}
}
