package arena_test

import (
	"math"
	"math/rand"
	"slices"
	"strconv"
	"testing"

	"postchaise/act"
	"postchaise/api"
	"postchaise/arena"
	"postchaise/mem"
)

// strange are numbers that no slot of so many has.
func strange(slots int) []int {
	return []int{-1, -2, slots, slots + 1, slots + api.MaxSlots, 1 << 31, 1 << 32, math.MaxInt, math.MinInt}
}

// dirty is a memory of which no word is 0.
func dirty(words int) *mem.Mem {
	m := mem.New(words)
	for i := range words {
		m.Store(i, math.MaxUint64-uint64(i)*7)
	}
	return m
}

// plain is what an arena is like, told without the package.
type plain struct {
	row     []int // the free slots, the first one first
	taken   []bool
	content []string
	gen     []uint32
}

// newPlain is what a new arena is like.
func newPlain(slots int) *plain {
	p := &plain{taken: make([]bool, slots), content: make([]string, slots), gen: make([]uint32, slots)}
	for i := range slots {
		p.row = append(p.row, i)
	}
	return p
}

// take takes the first free slot, if there is one.
func (p *plain) take() (int, bool) {
	if len(p.row) == 0 {
		return 0, false
	}
	slot := p.row[0]
	p.row = p.row[1:]
	p.taken[slot] = true
	return slot, true
}

// leave is what a Give does at once.
func (p *plain) leave(slot int) {
	p.taken[slot], p.content[slot] = false, ""
	p.gen[slot]++
}

// give is what the last step of the act of a Give does.
func (p *plain) give(slot int) {
	p.row = append([]int{slot}, p.row...)
}

// world is an arena, what it is like, and the acts that are under way at it.
type world struct {
	m     *mem.Mem
	a     *arena.Arena[string]
	p     *plain
	going []doing
	quiet bool // nothing is checked
}

// doing is an act that is under way, and what it does to what the arena is like by its last step.
type doing struct {
	*act.Act
	end func(t *testing.T)
}

// newWorld makes an arena in a memory that is dirty, and greater than need be.
func newWorld(t *testing.T, word, slots int) *world {
	t.Helper()
	return newWorldIn(t, dirty(word+slots+4), word, slots)
}

// newWorldIn makes an arena in a memory.
func newWorldIn(t *testing.T, m *mem.Mem, word, slots int) *world {
	t.Helper()
	a, err := arena.New[string](m, word, slots)
	if err != api.OK || a == nil {
		t.Fatalf("P5.1: New(%d, %d): %d", word, slots, err)
	}
	w := &world{m: m, a: a, p: newPlain(slots)}
	w.check(t)
	return w
}

// free are the slots that are free, in their row.
func free[T any](a *arena.Arena[T]) []int {
	return slices.Collect(a.Free())
}

// check holds all that an arena tells without an access against what it is like.
func (w *world) check(t *testing.T) {
	if w.quiet {
		return
	}
	t.Helper()
	time := w.m.Time()
	if got := free(w.a); !slices.Equal(got, w.p.row) {
		t.Fatalf("P5.3: Free: %v, want %v", got, w.p.row)
	}
	slots := len(w.p.taken)
	if w.a.Used() != slots-len(w.p.row) || w.a.Len() != slots {
		t.Fatalf("P5.3: Used %d, Len %d, want %d and %d", w.a.Used(), w.a.Len(), slots-len(w.p.row), slots)
	}
	for i := range slots {
		if x, ok := w.a.At(i); x != w.p.content[i] || ok != w.p.taken[i] {
			t.Fatalf("P5.3: At(%d): %q, %v, want %q, %v", i, x, ok, w.p.content[i], w.p.taken[i])
		}
		if got := w.a.Gen(i); got != w.p.gen[i] {
			t.Fatalf("P5.3: Gen(%d): %d, want %d", i, got, w.p.gen[i])
		}
	}
	if w.m.Time() != time {
		t.Fatalf("P5.3: %d accesses were made", w.m.Time()-time)
	}
}

// take begins to take a slot, and answers what takes it.
func (w *world) take(t *testing.T) *arena.Taking {
	t.Helper()
	time := w.m.Time()
	taking := w.a.Take()
	w.going = append(w.going, doing{Act: taking.Act, end: func(t *testing.T) {
		slot, ok := w.p.take()
		if got, had := taking.Slot(); got != slot || had != ok {
			t.Fatalf("P5.2: Slot: %d, %v, want %d, %v", got, had, slot, ok)
		}
	}})
	w.begun(t, time)
	return taking
}

// give begins to give a slot back.
func (w *world) give(t *testing.T, slot int) {
	t.Helper()
	time := w.m.Time()
	a, err := w.a.Give(slot)
	if err != api.OK || a == nil {
		t.Fatalf("P5.2: Give(%d): %d", slot, err)
	}
	w.p.leave(slot)
	w.going = append(w.going, doing{Act: a, end: func(*testing.T) { w.p.give(slot) }})
	w.begun(t, time)
}

// begun checks that an act that was just made did nothing, and is not over.
func (w *world) begun(t *testing.T, time uint64) {
	t.Helper()
	if w.m.Time() != time {
		t.Fatalf("P5.2: to begin an act: %d accesses", w.m.Time()-time)
	}
	if w.going[len(w.going)-1].Over() {
		t.Fatal("P5.2: an act that made no step is over")
	}
	w.check(t)
}

// step makes a step of the act at that place, which must be one access, and take effect just if the act is over by it.
func (w *world) step(t *testing.T, i int) bool {
	time := w.m.Time()
	over := w.going[i].Step()
	if w.m.Time() != time+1 {
		t.Fatalf("P5.2: a step of %d accesses", w.m.Time()-time)
	}
	if over {
		w.going[i].end(t)
		w.going = slices.Delete(w.going, i, i+1)
	}
	w.check(t)
	return over
}

// rest steps all acts in turn till all are over: how many rounds were made.
func (w *world) rest(t *testing.T) int {
	t.Helper()
	rounds := 0
	for len(w.going) > 0 {
		w.round(t)
		rounds++
	}
	return rounds
}

// round steps all acts once, in order: how many got over.
func (w *world) round(t *testing.T) int {
	t.Helper()
	over := 0
	for i := 0; i < len(w.going); {
		if w.step(t, i) {
			over++
		} else {
			i++
		}
	}
	return over
}

// all are the slots that are taken.
func (p *plain) all() []int {
	var l []int
	for i, taken := range p.taken {
		if taken {
			l = append(l, i)
		}
	}
	return l
}

// takeAll takes so many slots, one behind the other.
func (w *world) takeAll(t *testing.T, n int) {
	t.Helper()
	for range n {
		w.take(t)
		w.rest(t)
	}
}

// giveAll gives slots back, one behind the other.
func (w *world) giveAll(t *testing.T, slots ...int) {
	t.Helper()
	for _, slot := range slots {
		w.give(t, slot)
		w.rest(t)
	}
}

func TestWords(t *testing.T) {
	for slots, want := range map[int]int{
		1: 2, 2: 3, 7: 8, 4095: 4096, 4096: 4097,
		0: 0, -1: 0, -4096: 0, 4097: 0, 8191: 0, 1 << 32: 0, 1<<32 + 1: 0, math.MaxInt: 0, math.MinInt: 0,
	} {
		if got := arena.Words(slots); got != want {
			t.Errorf("P5.1: Words(%d): %d, want %d", slots, got, want)
		}
	}
}

func TestNew(t *testing.T) {
	for _, c := range []struct{ words, word, slots int }{
		{2, 0, 1}, {3, 1, 1}, {4097, 0, 4096}, {8192, 0, 4096}, {8192, 4095, 4096}, {8192, 8190, 1}, {10, 5, 4},
	} {
		a, err := arena.New[int](mem.New(c.words), c.word, c.slots)
		if err != api.OK || a == nil {
			t.Errorf("P5.1: New of %v: %d", c, err)
			continue
		}
		if a.Len() != c.slots || a.Used() != 0 || len(free(a)) != c.slots {
			t.Errorf("P5.1: New of %v: Len %d, Used %d", c, a.Len(), a.Used())
		}
	}
}

func TestNewOfWhatCannotBe(t *testing.T) {
	if a, err := arena.New[int](nil, 0, 1); a != nil || err != api.ErrArg {
		t.Errorf("P5.1: New of no memory: %v, %d", a, err)
	}
	for _, c := range []struct{ words, word, slots int }{
		{1, 0, 1}, {2, 1, 1}, {2, 2, 1}, {2, 3, 1}, {2, -1, 1}, {8192, -1, 1}, {8192, math.MinInt, 1},
		{8192, 0, 0}, {8192, 0, -1}, {8192, 0, 4097}, {8192, 0, math.MaxInt}, {8192, 0, math.MinInt},
		{4096, 0, 4096}, {8192, 4096, 4096}, {8192, 8191, 1}, {8192, 8192, 1},
		{8192, math.MaxInt, 1}, {8192, math.MaxInt, math.MaxInt}, {8192, math.MaxInt - 4096, 4096}, {8192, 1 << 32, 1},
	} {
		m := dirty(c.words)
		time := m.Time()
		if a, err := arena.New[int](m, c.word, c.slots); a != nil || err != api.ErrArg {
			t.Errorf("P5.1: New of %v: %v, %d", c, a, err)
		}
		if m.Time() != time {
			t.Errorf("R2: New of %v: %d accesses", c, m.Time()-time)
		}
	}
}

// TestOnlyItsWords: nobody goes to another word than the arena's own.
func TestOnlyItsWords(t *testing.T) {
	m := dirty(9)
	type word struct{ v, changed uint64 }
	others := func() (l []word) {
		for _, i := range []int{0, 1, 2, 7, 8} {
			l = append(l, word{m.Load(i), m.Changed(i)})
		}
		return l
	}
	before := others()
	a, _ := arena.New[int](m, 3, 3)
	for range 3 {
		for range 4 {
			act.Rest(10, a.Take().Act)
		}
		for i := range 3 {
			give, err := a.Give(i)
			if err != api.OK {
				t.Fatalf("P5.2: Give(%d): %d", i, err)
			}
			act.Rest(10, give)
		}
	}
	if got := others(); !slices.Equal(got, before) {
		t.Errorf("P5.1: the other words: %v, want %v", got, before)
	}
}

func TestExample(t *testing.T) {
	w := newWorld(t, 0, 2)
	want := func(slot int, ok bool) {
		t.Helper()
		taking := w.take(t)
		w.rest(t)
		if got, had := taking.Slot(); got != slot || had != ok {
			t.Errorf("P5.2: taken %d, %v, want %d, %v", got, had, slot, ok)
		}
	}
	want(0, true)
	want(1, true)
	want(0, false)
	w.giveAll(t, 0, 1)
	want(1, true)
	want(0, true)
	want(0, false)
}

func TestRow(t *testing.T) {
	for _, slots := range []int{1, 2, 3, 16} {
		w := newWorld(t, 2, slots)
		w.takeAll(t, slots+2)
		if w.a.Used() != slots || len(free(w.a)) != 0 {
			t.Errorf("P5.2: %d of %d are used", w.a.Used(), slots)
		}
		back := rand.New(rand.NewSource(int64(slots))).Perm(slots)
		w.giveAll(t, back...)
		slices.Reverse(back)
		if got := free(w.a); !slices.Equal(got, back) {
			t.Errorf("P5.2: free are %v, want %v", got, back)
		}
		w.takeAll(t, slots)
	}
}

func TestAllSlots(t *testing.T) {
	m := mem.New(8192)
	a, _ := arena.New[int](m, 4095, 4096)
	for want := range 4096 {
		taking := a.Take()
		act.Rest(10, taking.Act)
		if slot, ok := taking.Slot(); slot != want || !ok {
			t.Fatalf("P5.2: taken %d, %v, want %d", slot, ok, want)
		}
	}
	taking := a.Take()
	act.Rest(10, taking.Act)
	if slot, ok := taking.Slot(); slot != 0 || ok || a.Used() != 4096 {
		t.Errorf("P5.2: taken %d, %v; used %d", slot, ok, a.Used())
	}
}

func TestSlotOfWhatIsNotOver(t *testing.T) {
	w := newWorld(t, 0, 3)
	w.takeAll(t, 1)
	taking := w.take(t)
	for !taking.Over() {
		if slot, ok := taking.Slot(); slot != 0 || ok {
			t.Errorf("P5.2: Slot: %d, %v of what is not over", slot, ok)
		}
		w.step(t, 0)
	}
	for range 2 {
		if slot, ok := taking.Slot(); slot != 1 || !ok {
			t.Errorf("P5.2: Slot: %d, %v, want 1", slot, ok)
		}
		if !taking.Step() {
			t.Error("P5.2: Step of what is over: false")
		}
		w.check(t)
	}
	// What was taken is told, also when it was given back meanwhile.
	w.giveAll(t, 1)
	if slot, ok := taking.Slot(); slot != 1 || !ok {
		t.Errorf("P5.2: Slot: %d, %v, want 1", slot, ok)
	}
}

// TestNoneIsFree: an act that finds none takes effect by the step by which it finds so.
func TestNoneIsFree(t *testing.T) {
	w := newWorld(t, 0, 1)
	w.takeAll(t, 1)
	refused := w.take(t)
	w.give(t, 0)
	for !w.step(t, 0) {
	}
	if _, ok := refused.Slot(); ok {
		t.Error("P5.2: a slot that is being given back was taken")
	}
	w.rest(t)
	w.takeAll(t, 1)
}

func TestGiveOfWhatIsNotTaken(t *testing.T) {
	w := newWorld(t, 0, 3)
	refuse := func(slots ...int) {
		t.Helper()
		for _, slot := range slots {
			time := w.m.Time()
			if a, err := w.a.Give(slot); a != nil || err != api.ErrNone {
				t.Errorf("P5.2: Give(%d): %v, %d", slot, a, err)
			}
			if err := w.a.Put(slot, "x"); err != api.ErrNone {
				t.Errorf("P5.3: Put(%d): %d", slot, err)
			}
			if x, ok := w.a.At(slot); x != "" || ok {
				t.Errorf("P5.3: At(%d): %q, %v", slot, x, ok)
			}
			if w.m.Time() != time {
				t.Errorf("R2: %d accesses", w.m.Time()-time)
			}
			w.check(t)
		}
	}
	refuse(strange(3)...)
	refuse(0, 1, 2)
	taking := w.take(t)
	for !taking.Over() {
		refuse(0, 1, 2)
		w.step(t, 0)
	}
	refuse(1, 2)
	w.give(t, 0)
	for len(w.going) > 0 {
		refuse(0, 1, 2)
		w.step(t, 0)
	}
	refuse(0, 1, 2)
	for _, slot := range strange(3) {
		if got := w.a.Gen(slot); got != 0 {
			t.Errorf("P5.3: Gen(%d): %d", slot, got)
		}
	}
}

func TestContent(t *testing.T) {
	w := newWorld(t, 1, 2)
	put := func(slot int, x string) {
		t.Helper()
		time := w.m.Time()
		if err := w.a.Put(slot, x); err != api.OK {
			t.Errorf("P5.3: Put(%d): %d", slot, err)
		}
		if w.m.Time() != time {
			t.Errorf("P5.3: Put: %d accesses", w.m.Time()-time)
		}
		w.p.content[slot] = x
		w.check(t)
	}
	w.takeAll(t, 2)
	put(0, "a")
	put(1, "b")
	put(0, "c")
	w.giveAll(t, 0)
	w.takeAll(t, 1)
	put(0, "d")
	w.giveAll(t, 0, 1)
	w.takeAll(t, 2)
}

func TestGenerations(t *testing.T) {
	w := newWorld(t, 0, 2)
	for range 5 {
		w.takeAll(t, 1)
		w.giveAll(t, 0)
	}
	if w.a.Gen(0) != 5 || w.a.Gen(1) != 0 {
		t.Errorf("P5.2: the generations are %d and %d", w.a.Gen(0), w.a.Gen(1))
	}
}

func TestFree(t *testing.T) {
	w := newWorld(t, 0, 4)
	w.takeAll(t, 2)
	w.giveAll(t, 0)
	walk := w.a.Free()
	for stop := range 3 {
		var got []int
		for slot := range walk {
			if got = append(got, slot); len(got) == stop+1 {
				break
			}
		}
		if want := []int{0, 2, 3}[:stop+1]; !slices.Equal(got, want) {
			t.Errorf("P5.3: Free, stopped: %v, want %v", got, want)
		}
	}
	// Slots that are taken and given back in a walk change nothing of it.
	var got []int
	for slot := range walk {
		got = append(got, slot)
		w.takeAll(t, 1)
		w.giveAll(t, w.p.all()[0])
	}
	if !slices.Equal(got, []int{0, 2, 3}) || !slices.Equal(slices.Collect(walk), []int{0, 2, 3}) {
		t.Errorf("R4: Free: %v", got)
	}
}

// TestSwapTagged: between the load and the swap others take the first slot, and the next one, and give the first back: the next one is not to be taken.
func TestSwapTagged(t *testing.T) {
	w := newWorld(t, 0, 3)
	slow := w.take(t)
	w.step(t, 0)
	w.step(t, 0)
	for range 2 {
		w.take(t)
		for !w.step(t, 1) {
		}
	}
	w.give(t, 0)
	for !w.step(t, 1) {
	}
	if w.step(t, 0) {
		t.Fatal("P5.4: a swap came off, though others did meanwhile")
	}
	w.rest(t)
	if slot, ok := slow.Slot(); slot != 0 || !ok {
		t.Errorf("P5.4: taken %d, %v, want 0", slot, ok)
	}
	w.takeAll(t, 2)
}

// TestGiveTagged: likewise of an act that gives back.
func TestGiveTagged(t *testing.T) {
	w := newWorld(t, 0, 3)
	w.takeAll(t, 1)
	w.give(t, 0)
	w.step(t, 0)
	w.step(t, 0)
	for range 2 {
		w.take(t)
		for !w.step(t, 1) {
		}
	}
	for _, slot := range []int{2, 1} {
		w.give(t, slot)
		for !w.step(t, 1) {
		}
	}
	w.rest(t)
	if got := free(w.a); !slices.Equal(got, []int{0, 1, 2}) {
		t.Errorf("P5.4: free are %v", got)
	}
}

// explore makes worlds, one behind the other, and goes through all orders in which the steps of their acts can come, from some first ones on: how many there are.
func explore(t *testing.T, build func() *world, picks []int) int {
	w := build()
	// What comes ahead was checked in another order.
	w.quiet = true
	for _, i := range picks {
		w.step(t, i)
	}
	w.quiet = false
	w.check(t)
	var others [][]int
	for len(w.going) > 0 {
		for i := 1; i < len(w.going); i++ {
			others = append(others, append(slices.Clone(picks), i))
		}
		w.step(t, 0)
		picks = append(slices.Clone(picks), 0)
	}
	orders := 1
	for _, other := range others {
		orders += explore(t, build, other)
	}
	return orders
}

func TestAllOrders(t *testing.T) {
	for _, c := range []struct{ slots, before, takes, gives int }{
		{2, 0, 2, 0}, {2, 2, 0, 2}, {2, 1, 1, 1}, {1, 1, 2, 1}, {3, 1, 2, 1}, {3, 2, 1, 2}, {1, 0, 3, 0},
	} {
		m := dirty(8)
		orders := explore(t, func() *world {
			w := newWorldIn(t, m, 1, c.slots)
			w.takeAll(t, c.before)
			for i := range c.gives {
				w.give(t, i)
			}
			for range c.takes {
				w.take(t)
			}
			return w
		}, nil)
		if orders < 2 {
			t.Errorf("P5.4: %v: %d orders", c, orders)
		}
	}
}

// any makes a step of any act, or begins one.
func (w *world) any(t *testing.T, r *rand.Rand) {
	t.Helper()
	l := w.p.all()
	switch n := r.Intn(12); {
	case n == 0 && len(w.going) < 8:
		w.take(t)
	case n == 1 && len(l) > 0 && len(w.going) < 8:
		w.give(t, l[r.Intn(len(l))])
	case n == 2 && len(l) > 0:
		slot, x := l[r.Intn(len(l))], strconv.Itoa(r.Intn(1000))
		if err := w.a.Put(slot, x); err != api.OK {
			t.Fatalf("P5.3: Put(%d): %d", slot, err)
		}
		w.p.content[slot] = x
		w.check(t)
	case len(w.going) > 0:
		w.step(t, r.Intn(len(w.going)))
	}
}

func TestAnyOrder(t *testing.T) {
	r := rand.New(rand.NewSource(5))
	for range 300 {
		w := newWorld(t, r.Intn(3), 1+r.Intn(6))
		for range 300 {
			w.any(t, r)
		}
		w.rest(t)
	}
}

// TestNobodyIsHindered: from wherever acts stand, one is over within 8 rounds, and all of n within 8 times n.
func TestNobodyIsHindered(t *testing.T) {
	r := rand.New(rand.NewSource(6))
	for range 300 {
		w := newWorld(t, 0, 1+r.Intn(12))
		for range r.Intn(200) {
			w.any(t, r)
		}
		for range r.Intn(9) {
			w.take(t)
		}
		for _, slot := range w.p.all() {
			if r.Intn(2) == 0 {
				w.give(t, slot)
			}
		}
		since, most := 0, 8*len(w.going)
		for rounds := 1; len(w.going) > 0; rounds++ {
			since++
			if w.round(t) > 0 {
				since = 0
			}
			if since >= 8 || rounds > most {
				t.Fatalf("P5.4: none is over since %d rounds; round %d of %d", since, rounds, most)
			}
		}
	}
}

// TestInTurn steps acts by layer 4.
func TestInTurn(t *testing.T) {
	for n := 1; n <= 20; n++ {
		a, _ := arena.New[int](mem.New(64), 0, 40)
		var takings []*arena.Taking
		var l []*act.Act
		for range n {
			taking := a.Take()
			takings, l = append(takings, taking), append(l, taking.Act)
		}
		if rounds := act.Rest(8*n+1, l...); rounds > 8*n {
			t.Errorf("P5.4: %d acts: %d rounds", n, rounds)
		}
		seen := map[int]bool{}
		for _, taking := range takings {
			slot, ok := taking.Slot()
			if !ok || seen[slot] {
				t.Errorf("P5.4: %d acts: %d, %v is taken by two, or by none", n, slot, ok)
			}
			seen[slot] = true
		}
		if a.Used() != n {
			t.Errorf("P5.4: %d are used, want %d", a.Used(), n)
		}
	}
}

// TestWordsOfOthers: also when somebody else goes to its words, nothing panics, and all acts end.
func TestWordsOfOthers(t *testing.T) {
	r := rand.New(rand.NewSource(7))
	for range 500 {
		slots := 1 + r.Intn(4)
		m := mem.New(8)
		a, _ := arena.New[int](m, 1, slots)
		b, _ := arena.New[int](m, r.Intn(2), slots)
		var l []*act.Act
		for range 100 {
			switch r.Intn(5) {
			case 0:
				m.Store(r.Intn(8), []uint64{0, math.MaxUint64, 1 << 31, uint64(r.Intn(9)), r.Uint64()}[r.Intn(5)])
			case 1:
				l = append(l, a.Take().Act, b.Take().Act)
			case 2:
				if give, err := a.Give(r.Intn(slots)); err == api.OK {
					l = append(l, give)
				}
			default:
				act.Rest(1, l...)
			}
			if n := len(free(a)); n > slots || a.Used() != slots-n {
				t.Fatalf("R1: %d are free, %d used, of %d", n, a.Used(), slots)
			}
		}
		if act.Rest(8*len(l)+8, l...) > 8*len(l) {
			t.Fatal("R1: acts do not end")
		}
	}
}

// TestArenasAreApart: two arenas of one memory, and of different contents.
func TestArenasAreApart(t *testing.T) {
	m := mem.New(6)
	a, _ := arena.New[int](m, 0, 2)
	b, _ := arena.New[[2]string](m, 3, 2)
	act.Rest(10, a.Take().Act, b.Take().Act, b.Take().Act)
	if a.Put(0, 7) != api.OK || b.Put(0, [2]string{"x", "y"}) != api.OK {
		t.Fatal("P5.3: Put")
	}
	x, _ := a.At(0)
	y, _ := b.At(0)
	if x != 7 || y != [2]string{"x", "y"} || a.Used() != 1 || b.Used() != 2 {
		t.Errorf("R6: %v, %v; used %d and %d", x, y, a.Used(), b.Used())
	}
}
