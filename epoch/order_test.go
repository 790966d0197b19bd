package epoch_test

import (
	"math/rand"
	"slices"
	"testing"

	"postchaise/act"
	"postchaise/api"
	"postchaise/epoch"
	"postchaise/mem"
)

// The kinds of what is done.
const (
	toPin = iota
	toUnpin
	toAdvance
)

// pinned is what is promised of a reader that is not at anything: whether it is pinned, at which epoch, and the how manieth of its pins that is.
type pinned struct {
	on    bool
	epoch uint64
	count int
}

// actor does one thing behind the other: a reader's acts, or moves of the epoch.
type actor struct {
	todo   []int
	act    *act.Act
	moving *epoch.Moving
	pin    pinned
	nows   []uint64 // the epoch behind each step of a Pin that is under way
	count  int
}

// gone is what was taken away: the slot of that number, when these pins were there.
type gone struct {
	pins []pinned
}

// world is an epoch, and who does what at it: as many readers as it has, and behind them those that advance.
type world struct {
	m       *mem.Mem
	e       *epoch.Epoch
	actors  []*actor
	readers int
	limbo   epoch.Limbo
	gone    []gone
}

// newWorld makes a world of readers that do some things each, and of others that advance so many times each.
func newWorld(t *testing.T, m *mem.Mem, readers [][]int, advances ...int) *world {
	e, err := epoch.New(m, 1, len(readers))
	if err != api.OK {
		t.Fatalf("P6.1: New: %d", err)
	}
	w := &world{m: m, e: e, readers: len(readers)}
	for _, todo := range readers {
		w.actors = append(w.actors, &actor{todo: todo})
	}
	for _, n := range advances {
		w.actors = append(w.actors, &actor{todo: slices.Repeat([]int{toAdvance}, n)})
	}
	return w
}

// busy: is an act of that actor under way?
func (x *actor) busy() bool {
	return x.act != nil
}

// going are the places of the actors that have something to do.
func (w *world) going() []int {
	var l []int
	for i, x := range w.actors {
		if x.busy() || len(x.todo) > 0 {
			l = append(l, i)
		}
	}
	return l
}

// begin begins the next thing that an actor does.
func (w *world) begin(i int) {
	x := w.actors[i]
	switch x.todo[0] {
	case toPin:
		x.act = w.e.Pin(i)
	case toUnpin:
		x.act = w.e.Unpin(i)
	case toAdvance:
		x.moving = w.e.Advance()
		x.act = x.moving.Act
	}
}

// step makes a step of an actor, one access, and checks all that is promised of any moment.
func (w *world) step(t *testing.T, i int) {
	x := w.actors[i]
	if !x.busy() {
		w.begin(i)
	}
	time, before := w.m.Time(), w.e.Now()
	over := x.act.Step()
	if w.m.Time() != time+1 {
		t.Fatalf("P6.2: a step of %d accesses", w.m.Time()-time)
	}
	moved := x.todo[0] == toAdvance && over && x.moving.Moved()
	if x.todo[0] == toAdvance && !over && x.moving.Moved() {
		t.Fatal("P6.2: it moved the epoch and is not over")
	}
	if want := before; w.e.Now() != want && !moved || moved && w.e.Now() != want+1 {
		t.Fatalf("P6.2: the epoch was %d and is %d, moved %v", before, w.e.Now(), moved)
	}
	for _, y := range w.actors[:w.readers] {
		if y.busy() {
			y.nows = append(y.nows, w.e.Now())
		}
	}
	if over {
		w.end(t, i)
	}
	w.checkPins(t)
	w.checkLimbo(t)
}

// end notes what an act that is over did.
func (w *world) end(t *testing.T, i int) {
	x := w.actors[i]
	switch x.todo[0] {
	case toPin:
		at, ok := w.e.Pinned(i)
		if !ok || at != w.e.Now() {
			t.Fatalf("P6.2: pinned at %d, %v, the epoch is %d", at, ok, w.e.Now())
		}
		if x.pin.on && !split(x.nows, x.pin.epoch, at) {
			t.Fatalf("P6.2: pinned at %d, then at %d, and the epoch was %v", x.pin.epoch, at, x.nows)
		}
		x.count++
		x.pin = pinned{on: true, epoch: at, count: x.count}
	case toUnpin:
		x.pin = pinned{}
	}
	x.todo, x.act, x.moving, x.nows = x.todo[1:], nil, nil, nil
}

// split: did some pin count first, and then another one, each as long as the epoch was it or 1 more?
func split(nows []uint64, old, new uint64) bool {
	i := 0
	for i < len(nows) && nows[i]-old <= 1 {
		i++
	}
	for i < len(nows) && nows[i]-new <= 1 {
		i++
	}
	return i == len(nows)
}

// checkPins checks what is promised of readers that are at nothing.
func (w *world) checkPins(t *testing.T) {
	for i, x := range w.actors[:w.readers] {
		if x.busy() {
			continue
		}
		if at, ok := w.e.Pinned(i); at != x.pin.epoch || ok != x.pin.on {
			t.Fatalf("P6.3: Pinned(%d): %d, %v, want %d, %v", i, at, ok, x.pin.epoch, x.pin.on)
		}
		if x.pin.on && w.e.Now()-x.pin.epoch > 1 {
			t.Fatalf("P6.2: the epoch is %d, and a reader is pinned at %d", w.e.Now(), x.pin.epoch)
		}
	}
}

// checkLimbo takes a slot away, at each moment, and checks that none is ready as long as a pin stands that stood then.
func (w *world) checkLimbo(t *testing.T) {
	for _, slot := range w.limbo.Ready(w.e.Now()) {
		for i, then := range w.gone[slot].pins {
			// A reader that does something may have begun to count as what it will be.
			if x := w.actors[i]; then.on && then == x.pin && !x.busy() {
				t.Fatalf("P6.5: ready at %d, and the reader %d is pinned since, at %d", w.e.Now(), i, x.pin.epoch)
			}
		}
	}
	var g gone
	for _, x := range w.actors[:w.readers] {
		g.pins = append(g.pins, x.pin)
	}
	w.limbo.Add(w.e.Now(), len(w.gone))
	w.gone = append(w.gone, g)
}

// explore makes worlds, one behind the other, and goes through all orders in which their steps can come, from some first ones on: how many there are.
func explore(t *testing.T, build func() *world, picks []int) int {
	w := build()
	for _, i := range picks {
		w.step(t, i)
	}
	var others [][]int
	for l := w.going(); len(l) > 0; l = w.going() {
		for _, i := range l[1:] {
			others = append(others, append(slices.Clone(picks), i))
		}
		w.step(t, l[0])
		picks = append(slices.Clone(picks), l[0])
	}
	orders := 1
	for _, other := range others {
		orders += explore(t, build, other)
	}
	return orders
}

func TestAllOrders(t *testing.T) {
	const p, u = toPin, toUnpin
	for _, c := range []struct {
		readers  [][]int
		advances []int
	}{
		{[][]int{{p}}, []int{2, 1}},
		{[][]int{{p}}, []int{4}},
		{[][]int{{p, p}}, []int{2}},
		{[][]int{{p, p}}, []int{1, 1}},
		{[][]int{{p, u, p}}, []int{3}},
		{[][]int{{p}, {p}}, []int{1}},
		{[][]int{{p, u}, {p}}, []int{1}},
	} {
		m := mem.New(8)
		orders := explore(t, func() *world { return newWorld(t, m, c.readers, c.advances...) }, nil)
		if orders < 20 {
			t.Errorf("P6.5: %v: %d orders", c, orders)
		}
	}
}

// anyWorld makes a world of any readers, and any that advance.
func anyWorld(t *testing.T, r *rand.Rand) *world {
	readers := make([][]int, 1+r.Intn(8))
	for i := range readers {
		for range r.Intn(12) {
			readers[i] = append(readers[i], []int{toPin, toPin, toUnpin}[r.Intn(3)])
		}
	}
	advances := make([]int, r.Intn(4))
	for i := range advances {
		advances[i] = r.Intn(20)
	}
	return newWorld(t, mem.New(12), readers, advances...)
}

// run makes so many steps in any order; some actors make more of them than others.
func (w *world) run(t *testing.T, r *rand.Rand, steps int) {
	often := make([]int, len(w.actors))
	for i := range often {
		often[i] = 1 + r.Intn(20)
	}
	for range steps {
		l := w.going()
		if len(l) == 0 {
			return
		}
		if i := l[r.Intn(len(l))]; r.Intn(20) < often[i] {
			w.step(t, i)
		}
	}
}

func TestAnyOrder(t *testing.T) {
	r := rand.New(rand.NewSource(10))
	for range 2000 {
		w := anyWorld(t, r)
		w.run(t, r, 2000)
		if l := w.going(); len(l) > 0 && len(w.actors) > 0 {
			w.run(t, r, 100000)
		}
		if l := w.going(); len(l) > 0 {
			t.Fatalf("R1: %v are not over", l)
		}
	}
}

// TestAlone: from wherever the acts of all stand, one that is alone is over within 12 steps.
func TestAlone(t *testing.T) {
	r := rand.New(rand.NewSource(11))
	for range 3000 {
		w := anyWorld(t, r)
		w.run(t, r, r.Intn(300))
		for _, i := range w.going() {
			if x := w.actors[i]; x.busy() && r.Intn(2) == 0 {
				finish(t, w.m, x.act)
				w.end(t, i)
			}
		}
		w.advanceAlone(t)
	}
}

// advanceAlone advances, while nobody else makes a step, and checks whether it has to move the epoch.
func (w *world) advanceAlone(t *testing.T) {
	pinning, all := false, true
	for i, x := range w.actors[:w.readers] {
		pinning = pinning || x.busy()
		if at, ok := w.e.Pinned(i); ok && at != w.e.Now() {
			all = false
		}
	}
	moved := advance(t, w.e, w.m)
	if !pinning && moved != all {
		t.Fatalf("P6.2: moved %v, want %v", moved, all)
	}
	w.checkPins(t)
}

// TestReadersAlone: if nobody advances any more, each act of a reader is over within 8 steps of its own.
func TestReadersAlone(t *testing.T) {
	r := rand.New(rand.NewSource(12))
	for range 2000 {
		w := anyWorld(t, r)
		w.run(t, r, r.Intn(200))
		own := make([]int, w.readers)
		for {
			l := slices.DeleteFunc(w.going(), func(i int) bool { return i >= w.readers })
			if len(l) == 0 {
				break
			}
			i := l[r.Intn(len(l))]
			w.step(t, i)
			if own[i]++; !w.actors[i].busy() {
				own[i] = 0
			}
			if own[i] >= pinning {
				t.Fatalf("P6.5: an act of a reader is not over behind %d steps", own[i])
			}
		}
	}
}
