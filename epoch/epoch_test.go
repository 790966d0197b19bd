package epoch_test

import (
	"math"
	"math/rand"
	"slices"
	"testing"

	"postchaise/act"
	"postchaise/api"
	"postchaise/epoch"
	"postchaise/mem"
)

// alone is how many steps an act makes at most that is alone; pinning how many one of a reader, if nobody advances.
const (
	alone   = 12
	pinning = 8
)

// dirty is a memory of which no word is 0.
func dirty(words int) *mem.Mem {
	m := mem.New(words)
	for i := range words {
		m.Store(i, math.MaxUint64-uint64(i)*7)
	}
	return m
}

// newEpoch makes an epoch for so many readers, in a memory that is dirty.
func newEpoch(t *testing.T, readers int) (*epoch.Epoch, *mem.Mem) {
	t.Helper()
	m := dirty(readers + 5)
	e, err := epoch.New(m, 2, readers)
	if err != api.OK || e == nil {
		t.Fatalf("P6.1: New for %d readers: %d", readers, err)
	}
	return e, m
}

// finish steps an act that is alone to its end: how many steps it made, each of them one access.
func finish(t *testing.T, m *mem.Mem, a *act.Act) int {
	t.Helper()
	steps := 0
	for !a.Over() {
		time := m.Time()
		a.Step()
		if m.Time() != time+1 {
			t.Fatalf("P6.2: a step of %d accesses", m.Time()-time)
		}
		if steps++; steps > alone {
			t.Fatalf("P6.3: an act that is alone is not over behind %d steps", steps)
		}
	}
	return steps
}

// advance advances alone: did the epoch move?
func advance(t *testing.T, e *epoch.Epoch, m *mem.Mem) bool {
	t.Helper()
	before, v := e.Now(), e.Advance()
	finish(t, m, v.Act)
	want := before
	if v.Moved() {
		want++
	}
	if e.Now() != want {
		t.Fatalf("P6.2: the epoch is %d, it was %d, moved %v", e.Now(), before, v.Moved())
	}
	return v.Moved()
}

// wantPin holds at which epoch a reader is pinned against what it should be.
func wantPin(t *testing.T, e *epoch.Epoch, who int, at uint64, pinned bool) {
	t.Helper()
	if got, ok := e.Pinned(who); got != at || ok != pinned {
		t.Errorf("P6.3: Pinned(%d): %d, %v, want %d, %v", who, got, ok, at, pinned)
	}
}

func TestWords(t *testing.T) {
	for readers, want := range map[int]int{
		1: 2, 2: 3, 7: 8, 8: 9,
		0: 0, -1: 0, -8: 0, 9: 0, 1 << 32: 0, 1<<32 + 1: 0, math.MaxInt: 0, math.MinInt: 0,
	} {
		if got := epoch.Words(readers); got != want {
			t.Errorf("P6.1: Words(%d): %d, want %d", readers, got, want)
		}
	}
}

func TestNew(t *testing.T) {
	for _, c := range []struct{ words, word, readers int }{
		{2, 0, 1}, {3, 1, 1}, {9, 0, 8}, {8192, 0, 8}, {8192, 8183, 8}, {8192, 8190, 1}, {10, 4, 3},
	} {
		e, err := epoch.New(dirty(c.words), c.word, c.readers)
		if err != api.OK || e == nil {
			t.Errorf("P6.1: New of %v: %d", c, err)
			continue
		}
		if e.Now() != 0 {
			t.Errorf("P6.1: New of %v: the epoch is %d", c, e.Now())
		}
		for who := range c.readers {
			wantPin(t, e, who, 0, false)
		}
	}
}

func TestNewOfWhatCannotBe(t *testing.T) {
	if e, err := epoch.New(nil, 0, 1); e != nil || err != api.ErrArg {
		t.Errorf("P6.1: New of no memory: %v, %d", e, err)
	}
	for _, c := range []struct{ words, word, readers int }{
		{1, 0, 1}, {2, 1, 1}, {2, 2, 1}, {2, 3, 1}, {2, -1, 1}, {8192, -1, 1}, {8192, math.MinInt, 1},
		{8192, 0, 0}, {8192, 0, -1}, {8192, 0, 9}, {8192, 0, math.MaxInt}, {8192, 0, math.MinInt},
		{8, 0, 8}, {8192, 8184, 8}, {8192, 8191, 1}, {8192, 8192, 1},
		{8192, math.MaxInt, 1}, {8192, math.MaxInt, math.MaxInt}, {8192, math.MaxInt - 8, 8}, {8192, 1 << 32, 1},
	} {
		m := dirty(c.words)
		time := m.Time()
		if e, err := epoch.New(m, c.word, c.readers); e != nil || err != api.ErrArg {
			t.Errorf("P6.1: New of %v: %v, %d", c, e, err)
		}
		if m.Time() != time {
			t.Errorf("R2: New of %v: %d accesses", c, m.Time()-time)
		}
	}
}

// TestOnlyItsWords: nobody goes to another word than the epoch's own.
func TestOnlyItsWords(t *testing.T) {
	m := dirty(8)
	type word struct{ v, changed uint64 }
	others := func() (l []word) {
		for _, i := range []int{0, 1, 5, 6, 7} {
			l = append(l, word{m.Load(i), m.Changed(i)})
		}
		return l
	}
	before := others()
	e, _ := epoch.New(m, 2, 2)
	for range 3 {
		for who := range 2 {
			finish(t, m, e.Pin(who))
		}
		if !advance(t, e, m) {
			t.Error("P6.2: it did not move")
		}
		for who := range 2 {
			finish(t, m, e.Unpin(who))
		}
	}
	if got := others(); !slices.Equal(got, before) {
		t.Errorf("P6.1: the other words: %v, want %v", got, before)
	}
}

func TestExample(t *testing.T) {
	e, m := newEpoch(t, 1)
	var l epoch.Limbo
	finish(t, m, e.Pin(0))
	wantPin(t, e, 0, 0, true)
	l.Add(e.Now(), 7)
	if !advance(t, e, m) || e.Now() != 1 {
		t.Errorf("P6.2: the epoch is %d, want 1", e.Now())
	}
	if advance(t, e, m) || l.Ready(e.Now()) != nil {
		t.Error("P6.2: it moved twice past a reader")
	}
	wantPin(t, e, 0, 0, true)
	finish(t, m, e.Unpin(0))
	wantPin(t, e, 0, 0, false)
	if !advance(t, e, m) || e.Now() != 2 {
		t.Errorf("P6.2: the epoch is %d, want 2", e.Now())
	}
	if got := l.Ready(e.Now()); !slices.Equal(got, []int{7}) {
		t.Errorf("P6.4: ready is %v", got)
	}
}

func TestNoSuchReader(t *testing.T) {
	for _, readers := range []int{1, 3, 8} {
		e, m := newEpoch(t, readers)
		for _, who := range []int{-1, -2, readers, readers + 1, 8, 9, 1 << 32, math.MaxInt, math.MinInt} {
			if 0 <= who && who < readers {
				continue
			}
			time := m.Time()
			if e.Pin(who) != nil || e.Unpin(who) != nil {
				t.Errorf("P6.2: %d readers: an act of the reader %d", readers, who)
			}
			wantPin(t, e, who, 0, false)
			if m.Time() != time {
				t.Errorf("P6.3: %d accesses", m.Time()-time)
			}
		}
	}
}

func TestPin(t *testing.T) {
	for readers := 1; readers <= 8; readers++ {
		e, m := newEpoch(t, readers)
		for at := range uint64(5) {
			for who := range readers {
				time := m.Time()
				a := e.Pin(who)
				if m.Time() != time || a.Over() {
					t.Errorf("P6.2: a Pin that made no step: %d accesses, over %v", m.Time()-time, a.Over())
				}
				if steps := finish(t, m, a); steps > pinning {
					t.Errorf("P6.5: a Pin of %d steps", steps)
				}
				wantPin(t, e, who, at, true)
			}
			if !advance(t, e, m) {
				t.Errorf("P6.2: all of %d are pinned at %d, and it did not move", readers, at)
			}
			if advance(t, e, m) {
				t.Errorf("P6.2: it moved from %d, at which nobody is pinned", at+1)
			}
			for who := range readers {
				wantPin(t, e, who, at, true)
			}
		}
	}
}

// TestPinAgain: a reader that is pinned pins itself again, at the same epoch and at the next one.
func TestPinAgain(t *testing.T) {
	e, m := newEpoch(t, 2)
	for at := range uint64(4) {
		for range 3 {
			finish(t, m, e.Pin(1))
			wantPin(t, e, 1, at, true)
			wantPin(t, e, 0, 0, false)
		}
		if !advance(t, e, m) || advance(t, e, m) {
			t.Errorf("P6.2: the epoch is %d, want %d", e.Now(), at+1)
		}
	}
}

func TestUnpin(t *testing.T) {
	e, m := newEpoch(t, 3)
	for who := range 3 {
		finish(t, m, e.Pin(who))
	}
	time := m.Time()
	a := e.Unpin(1)
	if m.Time() != time || a.Over() {
		t.Errorf("P6.2: an Unpin that made no step: %d accesses, over %v", m.Time()-time, a.Over())
	}
	wantPin(t, e, 1, 0, true)
	if steps := finish(t, m, a); steps != 1 {
		t.Errorf("P6.2: an Unpin of %d steps", steps)
	}
	wantPin(t, e, 0, 0, true)
	wantPin(t, e, 1, 0, false)
	wantPin(t, e, 2, 0, true)
	// Also of who is not pinned.
	if steps := finish(t, m, e.Unpin(1)); steps != 1 {
		t.Errorf("P6.2: an Unpin of %d steps", steps)
	}
	wantPin(t, e, 1, 0, false)
	if !advance(t, e, m) || advance(t, e, m) {
		t.Errorf("P6.2: the epoch is %d, want 1", e.Now())
	}
	finish(t, m, e.Unpin(0))
	if advance(t, e, m) {
		t.Error("P6.2: it moved past the last reader")
	}
	finish(t, m, e.Unpin(2))
	if !advance(t, e, m) {
		t.Error("P6.2: it did not move when none is pinned")
	}
}

// TestAdvancePastAny: of any readers that are pinned at the epoch, at 1 less, or not, those alone hold it that are pinned at less.
func TestAdvancePastAny(t *testing.T) {
	const readers = 5
	for n := range 243 {
		e, m := newEpoch(t, readers)
		var kinds [readers]int
		held := false
		for who := range readers {
			kinds[who] = n % 3
			n /= 3
			if kinds[who] == 1 {
				finish(t, m, e.Pin(who))
				held = true
			}
		}
		advance(t, e, m)
		for who := range readers {
			if kinds[who] == 2 {
				finish(t, m, e.Pin(who))
			}
		}
		if advance(t, e, m) == held {
			t.Errorf("P6.2: %v: moved %v", kinds, !held)
		}
	}
}

func TestMoved(t *testing.T) {
	e, m := newEpoch(t, 8)
	v := e.Advance()
	if v.Moved() || e.Now() != 0 || v.Over() {
		t.Error("P6.2: moved without a step")
	}
	for !v.Over() {
		if v.Moved() || e.Now() != 0 {
			t.Errorf("P6.2: behind %d steps: moved %v, epoch %d", v.Count(), v.Moved(), e.Now())
		}
		v.Step()
	}
	if !v.Moved() || e.Now() != 1 || v.Count() > alone {
		t.Errorf("P6.2: behind %d steps: moved %v, epoch %d", v.Count(), v.Moved(), e.Now())
	}
	if !v.Step() || !v.Moved() || e.Now() != 1 || advance(t, e, m) != true {
		t.Error("P6.2: behind its end")
	}
}

// TestTwoAdvances: of two that are under way at once one moves the epoch, by 1.
func TestTwoAdvances(t *testing.T) {
	e, _ := newEpoch(t, 2)
	v, u := e.Advance(), e.Advance()
	act.Rest(alone, v.Act, u.Act)
	if v.Moved() == u.Moved() || e.Now() != 1 {
		t.Errorf("P6.2: moved %v and %v, epoch %d", v.Moved(), u.Moved(), e.Now())
	}
}

// TestToldTooLate: a reader that is going to be pinned loaded the epoch long ago: it holds nobody, and is pinned at what is the epoch in the end.
func TestToldTooLate(t *testing.T) {
	for steps := range 2 {
		e, m := newEpoch(t, 2)
		a := e.Pin(0)
		a.Step()
		for range 5 {
			if !advance(t, e, m) {
				t.Error("P6.2: it did not move, though nobody is pinned")
			}
		}
		for range steps {
			a.Step()
		}
		if !advance(t, e, m) || e.Now() != 6 {
			t.Errorf("P6.2: behind %d steps it did not move, though nobody is pinned at %d", steps, e.Now())
		}
		finish(t, m, a)
		wantPin(t, e, 0, 6, true)
		if !advance(t, e, m) || advance(t, e, m) {
			t.Errorf("P6.2: the epoch is %d, want 7", e.Now())
		}
	}
}

// TestPassedAhead: who moves the epoch had gone past a reader when that one was pinned.
func TestPassedAhead(t *testing.T) {
	e, m := newEpoch(t, 3)
	v := e.Advance()
	for range 3 {
		v.Step()
	}
	finish(t, m, e.Pin(0))
	late := e.Pin(1)
	late.Step()
	late.Step()
	if !finishMoved(t, m, v) {
		t.Error("P6.2: it did not move")
	}
	wantPin(t, e, 0, 0, true)
	finish(t, m, late)
	wantPin(t, e, 1, 1, true)
	if advance(t, e, m) {
		t.Error("P6.2: it moved twice past a reader")
	}
	finish(t, m, e.Unpin(0))
	if !advance(t, e, m) || advance(t, e, m) {
		t.Errorf("P6.2: the epoch is %d, want 2", e.Now())
	}
}

// finishMoved steps what moves the epoch to its end: did it move it?
func finishMoved(t *testing.T, m *mem.Mem, v *epoch.Moving) bool {
	t.Helper()
	finish(t, m, v.Act)
	return v.Moved()
}

// TestWordsOfOthers: also when somebody else goes to its words, nothing panics.
func TestWordsOfOthers(t *testing.T) {
	r := rand.New(rand.NewSource(8))
	for range 300 {
		m := mem.New(6)
		e, _ := epoch.New(m, 1, 3)
		var l []*act.Act
		for range 100 {
			switch r.Intn(5) {
			case 0:
				m.Store(r.Intn(6), []uint64{0, 1, math.MaxUint64, uint64(r.Intn(9)), r.Uint64()}[r.Intn(5)])
			case 1:
				l = append(l, e.Pin(r.Intn(5)-1), e.Unpin(r.Intn(5)-1))
			case 2:
				l = append(l, e.Advance().Act)
			default:
				act.Rest(1, l...)
				e.Pinned(r.Intn(3))
				e.Now()
			}
		}
		if act.Rest(1000, l...) == 1000 {
			t.Fatal("R1: acts do not end")
		}
	}
}

// TestEpochsAreApart: two epochs of one memory.
func TestEpochsAreApart(t *testing.T) {
	m := mem.New(5)
	a, _ := epoch.New(m, 0, 1)
	b, _ := epoch.New(m, 2, 2)
	finish(t, m, a.Pin(0))
	for range 3 {
		if !advance(t, b, m) {
			t.Error("R6: the other one's reader holds it")
		}
	}
	wantPin(t, b, 0, 0, false)
	if a.Now() != 0 || b.Now() != 3 || !advance(t, a, m) || advance(t, a, m) {
		t.Errorf("R6: the epochs are %d and %d", a.Now(), b.Now())
	}
}
