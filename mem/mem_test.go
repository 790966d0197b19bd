package mem_test

import (
	"math"
	"math/rand"
	"testing"

	"postchaise/api"
	"postchaise/mem"
)

// maxPlace is the greatest place that can be packed.
const maxPlace = 1<<31 - 2

// strange are numbers that no word of a memory of so many words has.
func strange(words int) []int {
	return []int{-1, -2, words, words + 1, words + api.MaxWords, 1 << 31, 1 << 32, math.MaxInt, math.MinInt}
}

// plain is what a memory is like, told without the package.
type plain struct {
	words, changed map[int]uint64
	count          int
	time           uint64
}

// newPlain is what a new memory is like.
func newPlain(words int) *plain {
	return &plain{words: map[int]uint64{}, changed: map[int]uint64{}, count: words}
}

// store is what a Store does.
func (p *plain) store(i int, v uint64) {
	p.time++
	p.words[i], p.changed[i] = v, p.time
}

// check holds all that a memory tells without an access against what it is like.
func (p *plain) check(t *testing.T, m *mem.Mem) {
	t.Helper()
	if m.Len() != p.count || m.Time() != p.time {
		t.Fatalf("P3.2: Len %d, Time %d, want %d and %d", m.Len(), m.Time(), p.count, p.time)
	}
	for i := range p.count {
		if got := m.Changed(i); got != p.changed[i] {
			t.Fatalf("P3.2: Changed(%d): %d, want %d", i, got, p.changed[i])
		}
	}
}

// checkWords loads all words of a memory, and holds them against what it is like.
func (p *plain) checkWords(t *testing.T, m *mem.Mem) {
	t.Helper()
	for i := range p.count {
		p.time++
		if got := m.Load(i); got != p.words[i] {
			t.Fatalf("P3.1: Load(%d): %d, want %d", i, got, p.words[i])
		}
	}
	p.check(t, m)
}

func TestNew(t *testing.T) {
	for _, words := range []int{1, 2, 3, 63, 64, 65, 4096, 8191, 8192} {
		m := mem.New(words)
		if m == nil {
			t.Fatalf("P3.1: New(%d): nil", words)
		}
		p := newPlain(words)
		p.check(t, m)
		p.checkWords(t, m)
	}
}

func TestNewOfWhatCannotBe(t *testing.T) {
	for _, words := range []int{0, -1, -8192, 8193, 16384, 1 << 31, 1 << 32, 1<<32 + 1, math.MaxInt, math.MinInt} {
		if m := mem.New(words); m != nil {
			t.Errorf("P3.1: New(%d): a memory of %d words", words, m.Len())
		}
	}
}

func TestExample(t *testing.T) {
	m := mem.New(1)
	m.Store(0, 5)
	if !m.Cas(0, 5, 7) || m.Time() != 2 || m.Load(0) != 7 || m.Changed(0) != 2 {
		t.Errorf("P3.1: time %d, changed %d", m.Time(), m.Changed(0))
	}
}

func TestWordsOfAllKinds(t *testing.T) {
	m := mem.New(3)
	for _, v := range []uint64{0, 1, 1<<31 - 1, 1 << 31, 1<<32 - 1, 1 << 32, 1 << 63, math.MaxUint64} {
		m.Store(1, v)
		if got := m.Load(1); got != v {
			t.Errorf("P3.1: stored %d, loaded %d", v, got)
		}
		if !m.Cas(1, v, ^v) || m.Load(1) != ^v {
			t.Errorf("P3.1: Cas of %d: %d", v, m.Load(1))
		}
	}
	if m.Load(0) != 0 || m.Load(2) != 0 {
		t.Errorf("P3.1: its neighbours are %d and %d", m.Load(0), m.Load(2))
	}
}

func TestTheFirstWordAndTheLastOne(t *testing.T) {
	for _, words := range []int{1, 2, 100, 8192} {
		m, p := mem.New(words), newPlain(words)
		m.Store(words-1, 9)
		p.store(words-1, 9)
		p.check(t, m)
		if !m.Cas(0, p.words[0], 4) {
			t.Errorf("P3.1: %d words: Cas of the first one: false", words)
		}
		p.store(0, 4)
		p.check(t, m)
		p.checkWords(t, m)
	}
}

func TestCasThatIsFalse(t *testing.T) {
	m, p := mem.New(2), newPlain(2)
	m.Store(0, 5)
	p.store(0, 5)
	for _, old := range []uint64{0, 4, 6, 5 + 1<<32, math.MaxUint64} {
		p.time++
		if m.Cas(0, old, 7) {
			t.Errorf("P3.1: Cas of 5 and %d: true", old)
		}
		p.check(t, m)
	}
	p.checkWords(t, m)
}

// TestSameValue stores, and swaps for, what stands there: these are changes too.
func TestSameValue(t *testing.T) {
	m, p := mem.New(1), newPlain(1)
	m.Store(0, 0)
	p.store(0, 0)
	p.check(t, m)
	m.Load(0)
	p.time++
	if !m.Cas(0, 0, 0) {
		t.Error("P3.1: Cas of 0 and 0: false")
	}
	p.store(0, 0)
	p.check(t, m)
}

func TestNoSuchWord(t *testing.T) {
	for _, words := range []int{1, 5, 8191, 8192} {
		m, p := mem.New(words), newPlain(words)
		m.Store(0, 3)
		p.store(0, 3)
		for _, i := range strange(words) {
			if got := m.Load(i); got != 0 {
				t.Errorf("P3.1: %d words: Load(%d): %d", words, i, got)
			}
			m.Store(i, 8)
			if m.Cas(i, 0, 8) || m.Cas(i, 8, 8) {
				t.Errorf("P3.1: %d words: Cas(%d): true", words, i)
			}
			if got := m.Changed(i); got != 0 {
				t.Errorf("P3.2: %d words: Changed(%d): %d", words, i, got)
			}
			p.check(t, m)
		}
		p.checkWords(t, m)
	}
}

// TestAnyAccesses makes accesses of all kinds, and holds what they answer against what a memory is like.
func TestAnyAccesses(t *testing.T) {
	r := rand.New(rand.NewSource(3))
	for range 200 {
		words := 1 + r.Intn(6)
		m, p := mem.New(words), newPlain(words)
		for range 100 {
			anyAccess(t, r, m, p)
			p.check(t, m)
		}
		p.checkWords(t, m)
	}
}

// anyAccess makes an access of any kind, also of a number that no word has.
func anyAccess(t *testing.T, r *rand.Rand, m *mem.Mem, p *plain) {
	t.Helper()
	i, old, v := r.Intn(p.count+2)-1, uint64(r.Intn(3)), uint64(r.Intn(3))
	there := 0 <= i && i < p.count
	switch r.Intn(3) {
	case 0:
		if got := m.Load(i); got != p.words[i] {
			t.Fatalf("P3.1: Load(%d): %d, want %d", i, got, p.words[i])
		}
		if there {
			p.time++
		}
	case 1:
		m.Store(i, v)
		if there {
			p.store(i, v)
		}
	case 2:
		want := there && p.words[i] == old
		if got := m.Cas(i, old, v); got != want {
			t.Fatalf("P3.1: Cas(%d, %d, %d): %v of %d", i, old, v, got, p.words[i])
		}
		if want {
			p.store(i, v)
		} else if there {
			p.time++
		}
	}
}

func TestMemoriesAreApart(t *testing.T) {
	a, b := mem.New(2), mem.New(2)
	a.Store(1, 6)
	newPlain(2).check(t, b)
	newPlain(2).checkWords(t, b)
	if a.Load(1) != 6 || a.Time() != 2 {
		t.Errorf("R6: %d, time %d", a.Load(1), a.Time())
	}
}

func TestPack(t *testing.T) {
	for _, c := range []struct {
		place int
		tag   uint32
		want  uint64
	}{
		{-1, 0, 0}, {-1, 1, 1 << 32}, {-1, math.MaxUint32, math.MaxUint32 << 32},
		{0, 0, 1}, {0, 7, 7<<32 + 1}, {1, 0, 2}, {4095, 1 << 31, 1<<63 + 4096},
		{maxPlace, 0, 1<<31 - 1}, {maxPlace, math.MaxUint32, math.MaxUint32<<32 + 1<<31 - 1},
	} {
		if got := mem.Pack(c.place, c.tag); got != c.want {
			t.Errorf("P3.3: Pack(%d, %d): %x, want %x", c.place, c.tag, got, c.want)
		}
	}
}

func TestPackOfAPlaceThatCannotBe(t *testing.T) {
	for _, place := range []int{-2, -3, -1 << 31, -1 << 32, -1<<32 + 1, maxPlace + 1, 1 << 31, 1<<32 - 1, 1 << 32, 1<<32 + 5, math.MaxInt, math.MinInt} {
		for _, tag := range []uint32{0, 1, math.MaxUint32} {
			if got := mem.Pack(place, tag); got != 0 {
				t.Errorf("P3.3: Pack(%d, %d): %x, want 0", place, tag, got)
			}
		}
	}
}

// TestPlaceAndTagOfAnyWord also asks for those of words that nobody packed.
func TestPlaceAndTagOfAnyWord(t *testing.T) {
	for _, c := range []struct {
		w     uint64
		place int
		tag   uint32
	}{
		{0, -1, 0}, {1, 0, 0}, {1 << 32, -1, 1}, {1<<32 - 1, 1<<32 - 2, 0}, {1 << 31, 1<<31 - 1, 0},
		{math.MaxUint64, 1<<32 - 2, math.MaxUint32}, {1 << 63, -1, 1 << 31}, {5<<32 + 9, 8, 5},
	} {
		if p, tag := mem.Place(c.w), mem.Tag(c.w); p != c.place || tag != c.tag {
			t.Errorf("P3.3: %x: %d %d, want %d %d", c.w, p, tag, c.place, c.tag)
		}
	}
}

func TestWhatIsPackedIsToldAsItWas(t *testing.T) {
	r := rand.New(rand.NewSource(4))
	check := func(place int, tag uint32) {
		if w := mem.Pack(place, tag); mem.Place(w) != place || mem.Tag(w) != tag {
			t.Errorf("P3.4: %d %d: %d %d", place, tag, mem.Place(w), mem.Tag(w))
		}
	}
	for _, place := range []int{-1, 0, 1, 4095, 4096, 1 << 16, 1 << 30, maxPlace - 1, maxPlace} {
		for _, tag := range []uint32{0, 1, 1 << 16, 1 << 31, math.MaxUint32} {
			check(place, tag)
		}
	}
	for range 10000 {
		check(r.Intn(1<<31)-1, r.Uint32())
	}
}
