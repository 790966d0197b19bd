package epoch_test

import (
	"math"
	"math/rand"
	"slices"
	"testing"

	"postchaise/epoch"
)

// wantReady holds what is handed out, and how many are kept behind it, against what should be.
func wantReady(t *testing.T, l *epoch.Limbo, now uint64, kept int, slots ...int) {
	t.Helper()
	if got := l.Ready(now); !slices.Equal(got, slots) || l.Len() != kept {
		t.Errorf("P6.4: ready at %d: %v, and %d are kept, want %v and %d", now, got, l.Len(), slots, kept)
	}
}

func TestEmptyLimbo(t *testing.T) {
	var l epoch.Limbo
	for _, now := range []uint64{0, 1, 2, math.MaxUint64} {
		wantReady(t, &l, now, 0)
	}
	l.Add(0)
	l.Add(5, []int{}...)
	wantReady(t, &l, math.MaxUint64, 0)
}

func TestLimbo(t *testing.T) {
	var l epoch.Limbo
	l.Add(3, 10, 11)
	l.Add(4, 12)
	if l.Len() != 3 {
		t.Errorf("P6.4: %d are kept, want 3", l.Len())
	}
	for now := range uint64(5) {
		wantReady(t, &l, now, 3)
	}
	wantReady(t, &l, 5, 1, 10, 11)
	wantReady(t, &l, 5, 1)
	l.Add(5, 13)
	wantReady(t, &l, 7, 0, 12, 13)
	wantReady(t, &l, 7, 0)
}

// TestLimboInTheOrderOfAdding: the epochs need not rise, and slots need not be others, nor such as there are.
func TestLimboInTheOrderOfAdding(t *testing.T) {
	var l epoch.Limbo
	l.Add(9, 1)
	l.Add(2, 7, 3, 7)
	l.Add(5, -1, math.MaxInt)
	l.Add(2, math.MinInt)
	wantReady(t, &l, 4, 3, 7, 3, 7, math.MinInt)
	l.Add(1, 8)
	l.Add(10, 9)
	wantReady(t, &l, 11, 1, 1, -1, math.MaxInt, 8)
	wantReady(t, &l, 12, 0, 9)
}

func TestLimboOfGreatEpochs(t *testing.T) {
	const most = math.MaxUint64
	var l epoch.Limbo
	l.Add(most, 1)
	l.Add(most-1, 2)
	l.Add(most-2, 3)
	l.Add(1<<63, 4)
	l.Add(0, 5)
	wantReady(t, &l, 0, 5)
	wantReady(t, &l, 1, 5)
	wantReady(t, &l, 2, 4, 5)
	wantReady(t, &l, 1<<63+1, 4)
	wantReady(t, &l, 1<<63+2, 3, 4)
	wantReady(t, &l, most-1, 3)
	wantReady(t, &l, most, 2, 3)
	wantReady(t, &l, most, 2)
}

// TestLimboSharesNothing: neither what was handed in, nor what was handed out, is kept.
func TestLimboSharesNothing(t *testing.T) {
	var l epoch.Limbo
	slots := []int{1, 2, 3}
	l.Add(1, slots[:2]...)
	slots[0], slots[1] = 8, 9
	l.Add(3, 4)
	got := l.Ready(3)
	if !slices.Equal(got, []int{1, 2}) || !slices.Equal(slots, []int{8, 9, 3}) {
		t.Errorf("R4: ready %v, handed in %v", got, slots)
	}
	_ = append(got, 7)
	got[0] = 6
	wantReady(t, &l, 5, 0, 4)
}

// TestAnyLimbo holds a limbo against what it is like, told by a list.
func TestAnyLimbo(t *testing.T) {
	type leaver struct {
		epoch uint64
		slot  int
	}
	r := rand.New(rand.NewSource(9))
	for range 200 {
		var l epoch.Limbo
		var kept []leaver
		for range 60 {
			at := uint64(r.Intn(12))
			if r.Intn(3) > 0 {
				var slots []int
				for range r.Intn(4) {
					slots = append(slots, r.Intn(50))
					kept = append(kept, leaver{at, slots[len(slots)-1]})
				}
				l.Add(at, slots...)
				continue
			}
			var want []int
			var rest []leaver
			for _, v := range kept {
				if v.epoch+2 <= at {
					want = append(want, v.slot)
				} else {
					rest = append(rest, v)
				}
			}
			kept = rest
			wantReady(t, &l, at, len(kept), want...)
		}
	}
}
