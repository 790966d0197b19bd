package txn_test

import (
	"cmp"
	"maps"
	"math/rand"
	"slices"
	"testing"

	"postchaise/act"
	"postchaise/api"
	"postchaise/edit"
	"postchaise/flags"
	"postchaise/mem"
	"postchaise/tree"
	"postchaise/txn"
)

// seen is a slot that was reached from what a session looked at, as it was then.
type seen struct {
	slot int
	gen  uint32
	node tree.Node
}

// event is a change or a look that is over.
type event struct {
	who, box         int
	begin, mark, end uint64
	snap             *txn.Snap
	recs             []tree.Rec // what a snap's tree has
	change           *txn.Change
	edit             edit.Edit
	moved            bool
}

// actor is a session, which does one thing at a time.
type actor struct {
	act  *act.Act
	ev   *event
	end  func() // what is noted when the act is over
	view []seen
}

// world is a space, its sessions, and what they did.
type world struct {
	s      *txn.Space
	c      txn.Config
	actors []*actor
	events []*event
	deep   bool // all views are looked at behind each step
}

// newWorld makes a world of a space.
func newWorld(t *testing.T, c txn.Config) *world {
	t.Helper()
	s, err := txn.New(c)
	if err != api.OK {
		t.Fatalf("P10.1: New: error %d", err)
	}
	w := &world{s: s, c: c}
	for range c.Sessions {
		w.actors = append(w.actors, &actor{})
	}
	return w
}

// begin begins an act of a session.
func (w *world) begin(who int, a *act.Act, end func()) {
	w.actors[who].act, w.actors[who].end = a, end
}

// pin begins to pin a session. What it looked at ahead stands no more.
func (w *world) pin(who int) {
	w.actors[who].view = nil
	w.begin(who, w.s.Pin(who), func() {})
}

// unpin begins to unpin a session.
func (w *world) unpin(who int) {
	w.actors[who].view = nil
	w.begin(who, w.s.Unpin(who), func() {})
}

// collect begins a collect.
func (w *world) collect(who int) {
	w.begin(who, w.s.Collect(who), func() {})
}

// snap begins a look at a box.
func (w *world) snap(who, box int) {
	p := w.s.Snap(who, box)
	ev := &event{who: who, box: box, begin: w.s.Mem().Time(), snap: p}
	w.begin(who, p.Act, func() {
		ev.mark = p.Mark()
		ev.recs = recs(w.s, p.Head())
		w.note(ev)
		w.see(who, p.Slot())
	})
}

// change begins a change of a box.
func (w *world) change(who, box int, e edit.Edit) {
	c := w.s.Change(who, box, e)
	ev := &event{who: who, box: box, begin: w.s.Mem().Time(), change: c, edit: e}
	w.begin(who, c.Act, func() {
		ev.mark = c.Mark()
		ev.moved = c.Err() == api.OK && c.Done().Changed
		w.note(ev)
	})
}

// note notes an event that is over.
func (w *world) note(ev *event) {
	ev.end = w.s.Mem().Time()
	w.events = append(w.events, ev)
}

// see notes all that a session reaches from a head.
func (w *world) see(who, slot int) {
	a := w.s.Arena()
	n, _ := a.At(slot)
	view := []seen{{slot, a.Gen(slot), n}}
	for slot, n := range treeOf(n.Head).Slots(a) {
		view = append(view, seen{slot, a.Gen(slot), n})
	}
	w.actors[who].view = append(w.actors[who].view, view...)
}

// checkViews checks that what a session looked at stands.
func (w *world) checkViews(t *testing.T, who int) {
	t.Helper()
	for _, v := range w.actors[who].view {
		if n, ok := w.s.Arena().At(v.slot); !ok || n != v.node || w.s.Arena().Gen(v.slot) != v.gen {
			t.Fatalf("P10.5: the slot %d was looked at: %v, and is %v, %v", v.slot, v.node, n, ok)
		}
	}
}

// step makes a step of a session, and checks all that is promised of any moment.
func (w *world) step(t *testing.T, who int) {
	t.Helper()
	x := w.actors[who]
	if stepOnce(t, w.s, x.act) {
		x.act = nil
		x.end()
	}
	if w.deep {
		for who := range w.actors {
			w.checkViews(t, who)
		}
	}
	w.checkUsed(t)
}

// checkUsed holds how many slots are used against what is known of them: just those of changes that are under way are beside the boxes' ones and what is kept.
func (w *world) checkUsed(t *testing.T) {
	t.Helper()
	under := false
	for _, x := range w.actors {
		under = under || x.act != nil
	}
	had, kept, used := met(w.s), w.s.Kept(), w.s.Arena().Used()
	if used < had+kept || !under && used != had+kept || used > w.s.Arena().Len() {
		t.Fatalf("P10.4: the boxes have %d slots, %d are kept, %d are used; under way: %v", had, kept, used, under)
	}
}

// going are the sessions that do something.
func (w *world) going() []int {
	var l []int
	for who, x := range w.actors {
		if x.act != nil {
			l = append(l, who)
		}
	}
	return l
}

// settle steps all in turn, till all are over.
func (w *world) settle(t *testing.T) {
	t.Helper()
	for rounds := 0; len(w.going()) > 0; rounds++ {
		for _, who := range w.going() {
			w.step(t, who)
		}
		if rounds > 100000 {
			t.Fatal("R1: acts that do not end")
		}
	}
}

// box is what a box should have.
type box struct {
	has    map[uint32]tree.Rec
	next   uint32
	number uint64
}

// recs are a box's messages in the order of their numbers.
func (b *box) recs() []tree.Rec {
	var l []tree.Rec
	for _, uid := range slices.Sorted(maps.Keys(b.has)) {
		l = append(l, b.has[uid])
	}
	return l
}

// do is what an edit should tell, and whether it changes the box; then it is done.
func (b *box) do(e edit.Edit) (told []tree.Rec, changed bool, err api.Errno) {
	switch e.Kind {
	case edit.Append:
		if uint64(b.next)+uint64(len(e.Recs)) > most {
			return nil, false, api.ErrUid
		}
		for _, r := range e.Recs {
			r.Uid = b.next
			b.next++
			b.has[r.Uid] = r
			told = append(told, r)
		}
		changed = len(told) > 0
	case edit.Flag:
		for _, r := range b.recs() {
			if slices.Contains(e.Uids, r.Uid) {
				now := r.Flags.Change(e.How, e.Flags)
				changed = changed || now != r.Flags
				r.Flags = now
				b.has[r.Uid] = r
				told = append(told, r)
			}
		}
	case edit.Expunge:
		for _, r := range b.recs() {
			if r.Flags.Has(flags.Deleted) {
				delete(b.has, r.Uid)
				told = append(told, r)
			}
		}
		changed = len(told) > 0
	default:
		return nil, false, api.ErrArg
	}
	if changed {
		b.number++
	}
	return told, changed, api.OK
}

// checkEvents holds all that was answered, in the order of the marks, against one thing done behind the other.
func (w *world) checkEvents(t *testing.T) {
	t.Helper()
	slices.SortStableFunc(w.events, func(a, b *event) int { return cmp.Compare(a.mark, b.mark) })
	var boxes []*box
	for range w.c.Boxes {
		boxes = append(boxes, &box{has: map[uint32]tree.Rec{}, next: w.c.Next})
	}
	for i, ev := range w.events {
		if ev.mark <= ev.begin || ev.mark > ev.end || i > 0 && ev.mark == w.events[i-1].mark {
			t.Fatalf("P10.3: the mark %d of what was begun at %d and over at %d", ev.mark, ev.begin, ev.end)
		}
		b := boxes[ev.box]
		if ev.snap != nil {
			w.checkHead(t, b, ev.snap.Head())
			if !slices.Equal(ev.recs, b.recs()) {
				t.Fatalf("P10.5: a look at the box %d: %v, want %v", ev.box, ev.recs, b.recs())
			}
			continue
		}
		w.checkChange(t, ev, b)
	}
	for at, slot := range w.s.Roots() {
		h := headAt(w.s, slot)
		w.checkHead(t, boxes[at], h)
		if got := recs(w.s, h); !slices.Equal(got, boxes[at].recs()) {
			t.Fatalf("P10.5: the box %d has %v, want %v", at, got, boxes[at].recs())
		}
	}
}

// checkHead holds a head against what a box should have.
func (w *world) checkHead(t *testing.T, b *box, h tree.Head) {
	t.Helper()
	if h.Next != b.next || h.Valid != w.c.Valid || h.Number != b.number {
		t.Fatalf("P10.5: the head %v, want Next %d, Number %d", h, b.next, b.number)
	}
}

// checkChange holds what a change answered against what it should.
func (w *world) checkChange(t *testing.T, ev *event, b *box) {
	t.Helper()
	c := ev.change
	others := 0
	for _, o := range w.events {
		if o != ev && o.moved && o.box == ev.box && ev.begin < o.mark && o.mark < ev.end {
			others++
		}
	}
	if c.Fails() > others {
		t.Fatalf("P10.5: %d failures of a swap, and %d others came off meanwhile", c.Fails(), others)
	}
	if c.Err() == api.ErrFull || c.Err() == api.ErrBusy {
		if (c.Err() == api.ErrBusy) != (c.Fails() == api.MaxRetry) {
			t.Fatalf("P10.3: error %d, fails %d", c.Err(), c.Fails())
		}
		checkDone(t, c, c.Err(), edit.Done{})
		return
	}
	told, changed, err := b.do(ev.edit)
	if err != api.OK {
		checkDone(t, c, err, edit.Done{})
		return
	}
	done := c.Done()
	w.checkHead(t, b, done.Head)
	if c.Err() != api.OK || done.Changed != changed || !slices.Equal(done.Recs, told) {
		t.Fatalf("P10.5: %v at the mark %d: error %d, %v, want %v, %v", ev.edit, ev.mark, c.Err(), done, told, changed)
	}
}

// wind lets all that are pinned go, and each session collect three times: just what the boxes have is used then.
func (w *world) wind(t *testing.T) {
	t.Helper()
	w.settle(t)
	w.checkEvents(t)
	for who := range w.actors {
		w.unpin(who)
	}
	w.settle(t)
	collectAll(t, w.s, w.c.Sessions)
	checkSlots(t, w.s, met(w.s), 0)
}

// anyEdit is any edit of a box.
func (w *world) anyEdit(r *rand.Rand, at int) edit.Edit {
	e := edit.Edit{How: r.Intn(4), Flags: flags.Set(r.Intn(32))}
	next := headAt(w.s, w.s.Roots()[at]).Next
	switch r.Intn(12) {
	case 0, 1, 2, 3:
		for range r.Intn(4) {
			e.Recs = append(e.Recs, tree.Rec{Uid: r.Uint32(), Flags: flags.Set(r.Intn(32)), Text: string(rune('a' + r.Intn(26)))})
		}
	case 4, 5, 6:
		e.Kind = edit.Flag
		for range r.Intn(4) {
			e.Uids = append(e.Uids, next-uint32(r.Intn(8)))
		}
	case 7, 8, 9, 10:
		e.Kind = edit.Expunge
	default:
		e.Kind = r.Intn(9) - 3
	}
	return e
}

// any begins any thing that a session can do.
func (w *world) any(r *rand.Rand, who int) {
	at := r.Intn(w.c.Boxes)
	if !w.s.Pinned(who) {
		if r.Intn(4) == 0 {
			w.collect(who)
		} else {
			w.pin(who)
		}
		return
	}
	switch r.Intn(16) {
	case 0:
		w.unpin(who)
	case 1, 2:
		w.pin(who)
	case 3:
		w.collect(who)
	case 4, 5, 6, 7:
		w.snap(who, at)
	default:
		w.change(who, at, w.anyEdit(r, at))
	}
}

// run makes so many steps in any order; some sessions make more of them than others.
func (w *world) run(t *testing.T, r *rand.Rand, steps int) {
	t.Helper()
	often := make([]int, len(w.actors))
	for i := range often {
		often[i] = 1 + r.Intn(20)
	}
	burst := 1 + r.Intn(30)
	for range steps {
		who := r.Intn(len(w.actors))
		if r.Intn(20) >= often[who] {
			continue
		}
		for range 1 + r.Intn(burst) {
			if w.actors[who].act == nil {
				w.any(r, who)
			}
			w.step(t, who)
		}
	}
}

// TestAnyOrder: many sessions do anything, in any order, in spaces with many slots, and with few.
func TestAnyOrder(t *testing.T) {
	r := rand.New(rand.NewSource(30))
	came := map[api.Errno]int{}
	fails := 0
	for i := range 200 {
		c := txn.Config{Sessions: 1 + r.Intn(8), Boxes: 1 + r.Intn(4), Slots: 4 + r.Intn(60), Next: 1 + uint32(r.Intn(20)), Valid: r.Uint32()}
		if i%3 == 0 {
			c.Slots = 4096
		}
		if i%7 == 0 {
			c.Next = most - uint32(r.Intn(20))
		}
		w := newWorld(t, c)
		w.deep = i%2 == 0
		w.run(t, r, 400)
		w.wind(t)
		for _, ev := range w.events {
			if ev.change != nil {
				came[ev.change.Err()]++
				fails += ev.change.Fails()
			}
		}
	}
	for _, err := range []api.Errno{api.OK, api.ErrArg, api.ErrUid, api.ErrFull} {
		if came[err] < 50 {
			t.Errorf("the error %d came %d times: %v", err, came[err], came)
		}
	}
	if fails < 100 {
		t.Errorf("%d swaps failed", fails)
	}
}

// TestTurns: all sessions put behind, over and over, each stepped once a round; each change ends.
func TestTurns(t *testing.T) {
	for sessions := 1; sessions <= 8; sessions++ {
		w := newWorld(t, txn.Config{Sessions: sessions, Boxes: 1, Slots: 2000, Next: 1, Valid: 1})
		for who := range sessions {
			w.pin(who)
		}
		w.settle(t)
		for range 5 {
			for who := range sessions {
				w.change(who, 0, appendOf("x"))
			}
			w.settle(t)
		}
		if got := len(recs(w.s, headAt(w.s, w.s.Roots()[0]))); got != 5*sessions {
			t.Errorf("P10.5: %d sessions: %d messages, want %d", sessions, got, 5*sessions)
		}
		w.wind(t)
	}
}

// parts makes so many steps of each session's act in turn, and then the rest.
func (w *world) parts(t *testing.T, parts ...int) {
	t.Helper()
	for i, n := range parts {
		who := i % len(w.actors)
		for range n {
			if w.actors[who].act != nil {
				w.step(t, who)
			}
		}
	}
	for who, x := range w.actors {
		for x.act != nil {
			w.step(t, who)
		}
	}
}

// TestAllParts: two changes at once, of which each is broken off at any step, and broken off once more.
func TestAllParts(t *testing.T) {
	edits := []edit.Edit{appendOf("x"), flagOf(1, flags.Deleted, 1, 2), {Kind: edit.Expunge}}
	for _, first := range edits {
		for _, other := range edits {
			for a := range 26 {
				for b := range 26 {
					for _, c := range []int{1, 5, 14} {
						w := newWorld(t, txn.Config{Sessions: 2, Boxes: 1, Slots: 40, Next: 1, Valid: 1})
						w.deep = true
						w.pin(0)
						w.pin(1)
						w.settle(t)
						w.change(1, 0, edit.Edit{Recs: []tree.Rec{{Text: "a", Flags: flags.Deleted}, {Text: "b"}}})
						w.settle(t)
						w.snap(0, 0)
						w.settle(t)
						w.change(0, 0, first)
						w.change(1, 0, other)
						w.parts(t, a, b, c)
						w.wind(t)
					}
				}
			}
		}
	}
}

// TestLookWhileOthersChange: a session that pins itself and looks, broken off at any step, while another one changes the box, and collects.
func TestLookWhileOthersChange(t *testing.T) {
	for a := range 5 {
		for b := range 120 {
			w := newWorld(t, txn.Config{Sessions: 2, Boxes: 1, Slots: 30, Next: 1, Valid: 1})
			w.deep = true
			w.pin(0)
			w.settle(t)
			w.pin(1)
			for range a {
				if w.actors[1].act == nil {
					w.snap(1, 0)
				}
				w.step(t, 1)
			}
			do := []func(){
				func() { w.change(0, 0, appendOf("x")) },
				func() { w.pin(0) },
				func() { w.change(0, 0, flagOf(0, flags.Deleted, 1)) },
				func() { w.pin(0) },
				func() { w.change(0, 0, edit.Edit{Kind: edit.Expunge}) },
				func() { w.pin(0) },
				func() { w.collect(0) },
				func() { w.unpin(0) },
				func() { w.collect(0) },
				func() { w.collect(0) },
			}
			for i := range b {
				if w.actors[0].act == nil && len(do) > 0 {
					do[0]()
					do = do[1:]
				}
				if w.actors[0].act != nil {
					w.step(t, 0)
				}
				if i == b/2 && w.actors[1].act != nil {
					w.step(t, 1)
				}
			}
			w.settle(t)
			w.snap(1, 0)
			w.wind(t)
		}
	}
}

// TestAlone: from wherever all stand, a change or a collect that is alone is over within its steps.
func TestAlone(t *testing.T) {
	r := rand.New(rand.NewSource(31))
	for range 400 {
		w := newWorld(t, txn.Config{Sessions: 2 + r.Intn(4), Boxes: 1 + r.Intn(2), Slots: 10 + r.Intn(80), Next: 1, Valid: 1})
		w.run(t, r, r.Intn(200))
		x := w.actors[0]
		for x.act != nil {
			w.step(t, 0)
		}
		if !w.s.Pinned(0) {
			w.pin(0)
			for x.act != nil {
				w.step(t, 0)
			}
		}
		at := r.Intn(w.c.Boxes)
		change(t, w.s, 0, at, w.anyEdit(r, at))
		collect(t, w.s, 0)
	}
}

// TestWordsOfOthers: a box's word stands where no other one does, nor the arena's, nor the epoch's.
func TestWordsOfOthers(t *testing.T) {
	s := newSpace(t, 2, 3, 30)
	pin(t, s, 0)
	words := map[int]bool{}
	for at := range 3 {
		c := change(t, s, 0, at, appendOf("x"))
		for i := range s.Mem().Len() {
			if s.Mem().Changed(i) == c.Mark() {
				words[i] = true
				if mem.Place(s.Mem().Load(i)) != c.Slot() || c.Slot() != s.Roots()[at] {
					t.Errorf("P10.3: the box %d: the word %d tells the slot %d, want %d", at, i, mem.Place(s.Mem().Load(i)), c.Slot())
				}
			}
		}
	}
	if len(words) != 3 {
		t.Errorf("P10.3: three boxes have the words %v", words)
	}
}
