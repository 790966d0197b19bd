package txn_test

import (
	"math"
	"slices"
	"testing"

	"postchaise/act"
	"postchaise/api"
	"postchaise/edit"
	"postchaise/flags"
	"postchaise/mem"
	"postchaise/tree"
	"postchaise/txn"
)

// most is the greatest number.
const most = math.MaxUint32

// newSpace is a space with boxes whose Next is 1, and whose Valid is 7.
func newSpace(t *testing.T, sessions, boxes, slots int) *txn.Space {
	t.Helper()
	s, err := txn.New(txn.Config{Sessions: sessions, Boxes: boxes, Slots: slots, Next: 1, Valid: 7})
	if err != api.OK || s == nil {
		t.Fatalf("P10.1: New: error %d", err)
	}
	return s
}

// stepOnce makes a step, of one access at most: is the act over then?
func stepOnce(t *testing.T, s *txn.Space, a *act.Act) bool {
	t.Helper()
	time := s.Mem().Time()
	over := a.Step()
	if got := s.Mem().Time(); got > time+1 {
		t.Fatalf("a step of %d accesses", got-time)
	}
	return over
}

// finish steps an act till it is over: how many steps it did.
func finish(t *testing.T, s *txn.Space, a *act.Act) int {
	t.Helper()
	steps := 0
	for !a.Over() {
		stepOnce(t, s, a)
		if steps++; steps > 1000000 {
			t.Fatal("R1: an act that does not end")
		}
	}
	return steps
}

// pin pins a session.
func pin(t *testing.T, s *txn.Space, who int) {
	t.Helper()
	finish(t, s, s.Pin(who))
}

// look looks at a box's head.
func look(t *testing.T, s *txn.Space, who, box int) *txn.Snap {
	t.Helper()
	p := s.Snap(who, box)
	if p == nil {
		t.Fatal("P10.2: no Snap")
	}
	finish(t, s, p.Act)
	return p
}

// change changes a box by a session that is alone, and checks how many steps that takes.
func change(t *testing.T, s *txn.Space, who, box int, e edit.Edit) *txn.Change {
	t.Helper()
	c := s.Change(who, box, e)
	if c == nil {
		t.Fatal("P10.3: no Change")
	}
	nodes, given := newNodes(s, box, e), givenBack(s)
	steps := finish(t, s, c.Act)
	given = givenBack(s) - given
	if most := 30 + 8*nodes + 8*given; steps > most || c.Count() != steps {
		t.Fatalf("P10.3: a change of %d steps, of %d new nodes, with %d slots given back", steps, nodes, given)
	}
	return c
}

// newNodes is how many new nodes the plan of an edit has.
func newNodes(s *txn.Space, box int, e edit.Edit) int {
	p, _, _ := edit.Apply(s.Arena(), headAt(s, s.Roots()[box]), e)
	return len(p.Nodes)
}

// givenBack is how many slots were given back since the start.
func givenBack(s *txn.Space) int {
	sum := 0
	for slot := range s.Arena().Len() {
		sum += int(s.Arena().Gen(slot))
	}
	return sum
}

// collect collects for a session that is alone, and checks how many steps that takes.
func collect(t *testing.T, s *txn.Space, who int) {
	t.Helper()
	given := givenBack(s)
	steps := finish(t, s, s.Collect(who))
	if given = givenBack(s) - given; steps > 30+8*given {
		t.Fatalf("P10.3: a collect of %d steps, with %d slots given back", steps, given)
	}
}

// collectAll lets each session of a space collect three times.
func collectAll(t *testing.T, s *txn.Space, sessions int) {
	t.Helper()
	for who := range sessions {
		for range 3 {
			collect(t, s, who)
		}
	}
}

// headAt is the head that stands in a slot.
func headAt(s *txn.Space, slot int) tree.Head {
	n, _ := s.Arena().At(slot)
	return n.Head
}

// treeOf is a head's tree.
func treeOf(h tree.Head) tree.Tree {
	return tree.Tree{Root: h.Root, Height: h.Height}
}

// recs are a head's messages.
func recs(s *txn.Space, h tree.Head) []tree.Rec {
	return slices.Collect(treeOf(h).Walk(s.Arena()))
}

// met is how many slots the boxes have.
func met(s *txn.Space) int {
	n := 0
	for _, slot := range s.Roots() {
		n++
		for range treeOf(headAt(s, slot)).Slots(s.Arena()) {
			n++
		}
	}
	return n
}

// checkSlots holds how many slots are used, by the boxes and by what is kept, against what should.
func checkSlots(t *testing.T, s *txn.Space, had, kept int) {
	t.Helper()
	if got := met(s); got != had || s.Kept() != kept || s.Arena().Used() != had+kept {
		t.Fatalf("P10.4: the boxes have %d slots, %d are kept, %d are used, want %d, %d, %d", got, s.Kept(), s.Arena().Used(), had, kept, had+kept)
	}
}

// appendOf is an edit that puts messages with these texts behind.
func appendOf(texts ...string) edit.Edit {
	e := edit.Edit{Kind: edit.Append}
	for _, text := range texts {
		e.Recs = append(e.Recs, tree.Rec{Text: text})
	}
	return e
}

// flagOf is an edit that puts flags to messages.
func flagOf(how int, set flags.Set, uids ...uint32) edit.Edit {
	return edit.Edit{Kind: edit.Flag, How: how, Flags: set, Uids: uids}
}

func TestNewOfWhatCantBe(t *testing.T) {
	for _, c := range []txn.Config{
		{},
		{Sessions: 0, Boxes: 1, Slots: 9, Next: 1}, {Sessions: 9, Boxes: 1, Slots: 9, Next: 1}, {Sessions: -1, Boxes: 1, Slots: 9, Next: 1},
		{Sessions: 1, Boxes: 0, Slots: 9, Next: 1}, {Sessions: 1, Boxes: 5, Slots: 9, Next: 1}, {Sessions: 1, Boxes: -1, Slots: 9, Next: 1},
		{Sessions: 1, Boxes: 1, Slots: 0, Next: 1}, {Sessions: 1, Boxes: 1, Slots: 4097, Next: 1}, {Sessions: 1, Boxes: 1, Slots: -1, Next: 1},
		{Sessions: 1, Boxes: 3, Slots: 2, Next: 1}, {Sessions: 1, Boxes: 4, Slots: 3, Next: 1},
		{Sessions: 1, Boxes: 1, Slots: 9, Next: 0, Valid: 7},
		{Sessions: math.MaxInt, Boxes: 1, Slots: 9, Next: 1}, {Sessions: 1, Boxes: math.MaxInt, Slots: math.MaxInt, Next: 1},
		{Sessions: 1, Boxes: 1, Slots: math.MaxInt, Next: 1}, {Sessions: math.MinInt, Boxes: math.MinInt, Slots: math.MinInt, Next: 1},
	} {
		if s, err := txn.New(c); s != nil || err != api.ErrArg {
			t.Errorf("P10.1: New(%v): %v, error %d, want ErrArg", c, s, err)
		}
	}
}

func TestNew(t *testing.T) {
	for _, c := range []txn.Config{
		{Sessions: 1, Boxes: 1, Slots: 1, Next: 1},
		{Sessions: 8, Boxes: 4, Slots: 4096, Next: most, Valid: most},
		{Sessions: 3, Boxes: 4, Slots: 4, Next: 9, Valid: 2},
		{Sessions: 2, Boxes: 2, Slots: 30, Next: 5, Valid: 0},
	} {
		s, err := txn.New(c)
		if err != api.OK {
			t.Fatalf("P10.1: New(%v): error %d", c, err)
		}
		roots := s.Roots()
		if len(roots) != c.Boxes || s.Arena().Len() != c.Slots || s.Mem().Len() > api.MaxWords {
			t.Errorf("P10.1: of %v: the roots %v, %d slots, %d words", c, roots, s.Arena().Len(), s.Mem().Len())
		}
		checkSlots(t, s, c.Boxes, 0)
		if slices.Sort(roots); len(slices.Compact(roots)) != c.Boxes {
			t.Errorf("P10.4: two boxes have the same slot: %v", roots)
		}
		want := tree.Node{Kind: tree.Box, Head: tree.Head{Root: -1, Next: c.Next, Valid: c.Valid}}
		for _, slot := range roots {
			if n, ok := s.Arena().At(slot); !ok || n != want {
				t.Errorf("P10.1: of %v: the head %v", c, n)
			}
		}
		for who := -1; who <= c.Sessions; who++ {
			there := 0 <= who && who < c.Sessions
			if s.Pinned(who) || (s.Pin(who) != nil) != there || (s.Unpin(who) != nil) != there || (s.Collect(who) != nil) != there {
				t.Errorf("P10.1: of %v: the session %d", c, who)
			}
		}
	}
}

func TestSpacesShareNothing(t *testing.T) {
	s, u := newSpace(t, 2, 2, 20), newSpace(t, 2, 2, 20)
	pin(t, s, 0)
	change(t, s, 0, 0, appendOf("x"))
	if u.Pinned(0) || u.Arena().Used() != 2 {
		t.Error("R4: two spaces share memory")
	}
	roots := s.Roots()
	roots[0], roots[1] = 99, 99
	if got := s.Roots(); got[0] == 99 || got[1] == 99 {
		t.Error("R4: the roots are not handed out by a copy")
	}
}

func TestPin(t *testing.T) {
	s := newSpace(t, 3, 1, 9)
	pin(t, s, 1)
	if s.Pinned(0) || !s.Pinned(1) || s.Pinned(2) || s.Pinned(-1) || s.Pinned(3) || s.Pinned(math.MaxInt) || s.Pinned(math.MinInt) {
		t.Error("P10.1: Pinned")
	}
	pin(t, s, 1)
	pin(t, s, 2)
	if steps := finish(t, s, s.Unpin(1)); steps != 1 || s.Pinned(1) || !s.Pinned(2) {
		t.Errorf("P10.1: Unpin: %d steps, %v", steps, s.Pinned(1))
	}
}

func TestSnap(t *testing.T) {
	s := newSpace(t, 2, 2, 20)
	pin(t, s, 1)
	change(t, s, 1, 1, appendOf("x"))
	p := s.Snap(1, 1)
	if p.Head() != (tree.Head{}) || p.Slot() != 0 || p.Mark() != 0 || p.Over() {
		t.Errorf("P10.2: a Snap that is not over: %v, %d, %d", p.Head(), p.Slot(), p.Mark())
	}
	time := s.Mem().Time()
	if !p.Step() || p.Count() != 1 || s.Mem().Time() != time+1 {
		t.Errorf("P10.2: a Snap of %d steps, and %d accesses", p.Count(), s.Mem().Time()-time)
	}
	if slot := s.Roots()[1]; p.Slot() != slot || p.Head() != headAt(s, slot) || p.Head().Next != 2 || p.Head().Number != 1 || p.Mark() != time+1 {
		t.Errorf("P10.2: %v, %d, %d", p.Head(), p.Slot(), p.Mark())
	}
	was := p.Head()
	change(t, s, 1, 1, appendOf("y"))
	if p.Head() != was || p.Mark() != time+1 || p.Slot() == s.Roots()[1] {
		t.Error("P10.2: what a Snap tells is not as it was then")
	}
	// It looks at the head as it is when the step is made.
	p = s.Snap(1, 0)
	change(t, s, 1, 0, appendOf("z"))
	finish(t, s, p.Act)
	if p.Head().Number != 1 || p.Slot() != s.Roots()[0] {
		t.Errorf("P10.2: %v", p.Head())
	}
}

// TestWhoAndWhere: there are no acts for sessions and boxes that there are not, or for one that is not pinned.
func TestWhoAndWhere(t *testing.T) {
	s := newSpace(t, 2, 2, 20)
	pin(t, s, 0)
	for _, c := range []struct {
		who, box int
		there    bool
	}{
		{0, 0, true}, {0, 1, true}, {1, 0, false}, {1, 1, false}, {2, 0, false}, {-1, 0, false}, {0, 2, false}, {0, -1, false},
		{math.MaxInt, 0, false}, {math.MinInt, 0, false}, {0, math.MaxInt, false}, {0, math.MinInt, false},
	} {
		for kind := -1; kind < 4; kind++ {
			if got := s.Change(c.who, c.box, edit.Edit{Kind: kind}) != nil; got != c.there {
				t.Errorf("P10.3: Change of %v: %v", c, got)
			}
		}
		if got := s.Snap(c.who, c.box) != nil; got != c.there {
			t.Errorf("P10.2: Snap of %v: %v", c, got)
		}
	}
	finish(t, s, s.Unpin(0))
	if s.Snap(0, 0) != nil || s.Change(0, 0, appendOf("x")) != nil {
		t.Error("P10.2: a session that is not pinned any more")
	}
}

func TestExample(t *testing.T) {
	s := newSpace(t, 1, 1, 9)
	pin(t, s, 0)
	old := s.Roots()[0]
	c := change(t, s, 0, 0, appendOf("hello"))
	checkSlots(t, s, 3, 1)
	want := edit.Done{Head: headAt(s, c.Slot()), Recs: []tree.Rec{{Uid: 1, Text: "hello"}}, Changed: true}
	checkDone(t, c, api.OK, want)
	if c.Slot() == old || c.Slot() != s.Roots()[0] || c.Fails() != 0 {
		t.Errorf("P10.3: the slot %d behind %d, fails %d", c.Slot(), old, c.Fails())
	}
	h := want.Head
	if h.Next != 2 || h.Valid != 7 || h.Number != 1 || h.Height != 1 || !slices.Equal(recs(s, h), want.Recs) {
		t.Errorf("P10.3: the head %v", h)
	}
	if n, ok := s.Arena().At(old); !ok || n.Kind != tree.Box || n.Head.Root != -1 {
		t.Errorf("P10.5: the old head: %v", n)
	}
}

// checkDone holds what came of a change against what should.
func checkDone(t *testing.T, c *txn.Change, err api.Errno, want edit.Done) {
	t.Helper()
	done := c.Done()
	if c.Err() != err || done.Head != want.Head || done.Changed != want.Changed || !slices.Equal(done.Recs, want.Recs) {
		t.Errorf("P10.3: error %d, %v, want %d, %v", c.Err(), done, err, want)
	}
}

// TestNothingIsToldAhead: not till a change is over; what it does takes effect by its mark.
func TestNothingIsToldAhead(t *testing.T) {
	s := newSpace(t, 2, 1, 40)
	pin(t, s, 0)
	change(t, s, 0, 0, appendOf("a", "b"))
	for range 3 {
		change(t, s, 0, 0, flagOf(1, flags.Deleted, 1))
		change(t, s, 0, 0, flagOf(2, flags.Deleted, 1))
	}
	before := s.Roots()[0]
	c := s.Change(0, 0, appendOf("c"))
	swapped := uint64(0)
	for over := false; !over; {
		if c.Err() != 0 || c.Slot() != 0 || c.Mark() != 0 || c.Fails() != 0 || c.Done().Changed || c.Done().Head != (tree.Head{}) || len(c.Done().Recs) != 0 {
			t.Fatal("P10.3: a change that is not over tells something")
		}
		over = stepOnce(t, s, c.Act)
		if swapped == 0 && s.Roots()[0] != before {
			swapped = s.Mem().Time()
		}
	}
	if swapped == 0 || c.Mark() != swapped || c.Mark() == s.Mem().Time() {
		t.Errorf("P10.3: the mark %d, swapped at %d", c.Mark(), swapped)
	}
	if again := c.Step(); !again || c.Mark() != swapped || len(recs(s, headAt(s, s.Roots()[0]))) != 3 {
		t.Error("P10.3: a change that is over goes on")
	}
}

// TestNothingIsChanged: then the mark is the load.
func TestNothingIsChanged(t *testing.T) {
	s := newSpace(t, 1, 2, 40)
	pin(t, s, 0)
	change(t, s, 0, 1, appendOf("a", "b"))
	used, kept := s.Arena().Used(), s.Kept()
	root := s.Roots()[1]
	for _, c := range []struct {
		e    edit.Edit
		told []tree.Rec
	}{
		{edit.Edit{Kind: edit.Append}, nil},
		{edit.Edit{Kind: edit.Expunge}, nil},
		{flagOf(1, 0, 2, 1), []tree.Rec{{Uid: 1, Text: "a"}, {Uid: 2, Text: "b"}}},
		{flagOf(2, 31, 2, 9), []tree.Rec{{Uid: 2, Text: "b"}}},
		{flagOf(7, 31, 1), []tree.Rec{{Uid: 1, Text: "a"}}},
		{flagOf(0, 31, 9, 0), nil},
	} {
		time := s.Mem().Time()
		d := change(t, s, 0, 1, c.e)
		checkDone(t, d, api.OK, edit.Done{Head: headAt(s, root), Recs: c.told})
		if d.Slot() != root || d.Mark() != time+1 || d.Count() != 1 || d.Fails() != 0 {
			t.Errorf("P10.3: %v: the slot %d, the mark %d, %d steps", c.e, d.Slot(), d.Mark(), d.Count())
		}
		if s.Arena().Used() != used || s.Kept() != kept || s.Roots()[1] != root {
			t.Errorf("P10.3: %v changed something", c.e)
		}
	}
}

func TestErrorsOfTheEdit(t *testing.T) {
	s, _ := txn.New(txn.Config{Sessions: 1, Boxes: 1, Slots: 20, Next: most - 1})
	pin(t, s, 0)
	for _, c := range []struct {
		e   edit.Edit
		err api.Errno
	}{
		{edit.Edit{Kind: 3, Recs: []tree.Rec{{}}}, api.ErrArg}, {edit.Edit{Kind: -1}, api.ErrArg}, {edit.Edit{Kind: math.MinInt}, api.ErrArg},
		{appendOf("a", "b"), api.ErrUid},
	} {
		root, time := s.Roots()[0], s.Mem().Time()
		d := change(t, s, 0, 0, c.e)
		checkDone(t, d, c.err, edit.Done{})
		if d.Slot() != 0 || d.Fails() != 0 || d.Mark() != time+1 || s.Roots()[0] != root {
			t.Errorf("P10.3: %v: the slot %d, the mark %d", c.e, d.Slot(), d.Mark())
		}
		checkSlots(t, s, 1, 0)
	}
	d := change(t, s, 0, 0, appendOf("a"))
	checkDone(t, d, api.OK, edit.Done{Head: headAt(s, s.Roots()[0]), Recs: []tree.Rec{{Uid: most - 1, Text: "a"}}, Changed: true})
	if d.Done().Head.Next != most {
		t.Errorf("P10.3: Next %d behind the last number", d.Done().Head.Next)
	}
}

// TestFull: of a space with so many slots, each change that needs more is refused, and changes nothing.
func TestFull(t *testing.T) {
	for slots := 1; slots < 14; slots++ {
		s := newSpace(t, 1, 1, slots)
		pin(t, s, 0)
		had := slices.Collect(s.Arena().Free())
		time := s.Mem().Time()
		c := change(t, s, 0, 0, appendOf("a", "b", "c", "d"))
		need := 1 + 4 + 1
		if slots-1 >= need {
			checkDone(t, c, api.OK, edit.Done{Head: headAt(s, s.Roots()[0]), Recs: c.Done().Recs, Changed: true})
			checkSlots(t, s, need, 1)
			continue
		}
		checkDone(t, c, api.ErrFull, edit.Done{})
		if c.Slot() != 0 || c.Mark() != time+1 || c.Fails() != 0 {
			t.Errorf("P10.3: of %d slots: the slot %d, the mark %d, fails %d", slots, c.Slot(), c.Mark(), c.Fails())
		}
		checkSlots(t, s, 1, 0)
		if got := slices.Collect(s.Arena().Free()); !slices.Equal(got, had) {
			t.Errorf("R2: the free ones stand in another row: %v, want %v", got, had)
		}
	}
}

// TestFullOfWhatIsKept: what is kept is not free, as long as the session is pinned.
func TestFullOfWhatIsKept(t *testing.T) {
	s := newSpace(t, 2, 1, 12)
	pin(t, s, 1)
	view := look(t, s, 1, 0)
	pin(t, s, 0)
	err := api.OK
	for range 9 {
		if c := change(t, s, 0, 0, appendOf("a")); c.Err() != api.OK {
			err = c.Err()
			checkDone(t, c, api.ErrFull, edit.Done{})
		}
	}
	if n, ok := s.Arena().At(view.Slot()); err != api.ErrFull || !ok || n.Head != view.Head() {
		t.Errorf("P10.5: error %d, and what was looked at is %v, %v", err, n.Head, ok)
	}
	finish(t, s, s.Unpin(1))
	finish(t, s, s.Unpin(0))
	collectAll(t, s, 2)
	checkSlots(t, s, met(s), 0)
	pin(t, s, 0)
	if c := change(t, s, 0, 0, edit.Edit{Kind: edit.Flag, Uids: []uint32{1}, Flags: 1}); c.Err() != api.OK {
		t.Errorf("P10.3: what was given back is not free: error %d", c.Err())
	}
}

// TestBusy: a change whose swap failed 64 times is over.
func TestBusy(t *testing.T) {
	s := newSpace(t, 2, 1, 4096)
	pin(t, s, 0)
	pin(t, s, 1)
	change(t, s, 1, 0, appendOf("a", "b"))
	c := s.Change(0, 0, appendOf("never"))
	load := uint64(0)
	for i := 0; !c.Over(); i++ {
		time := s.Mem().Time()
		stepOnce(t, s, c.Act)
		// A try that begins is the only thing that the next change can be told by, if all slots that it had were given back.
		if s.Arena().Used() == met(s)+s.Kept() && s.Mem().Time() == time+1 {
			load = s.Mem().Time()
		}
		if c.Over() {
			break
		}
		if i%4 == 0 {
			change(t, s, 1, 0, flagOf(1+i/4%2, flags.Seen, 1))
		}
		if i > 10000 {
			t.Fatal("P10.3: it goes on and on")
		}
	}
	checkDone(t, c, api.ErrBusy, edit.Done{})
	if c.Fails() != api.MaxRetry || c.Slot() != 0 || c.Mark() == 0 || c.Mark() >= load {
		t.Errorf("P10.3: fails %d, the slot %d, the mark %d, all was given back at %d", c.Fails(), c.Slot(), c.Mark(), load)
	}
	checkSlots(t, s, met(s), s.Kept())
	if got := recs(s, headAt(s, s.Roots()[0])); len(got) != 2 {
		t.Errorf("P10.3: it changed the box: %v", got)
	}
}

// TestAllButTheLastTry: 63 failures, and then it comes off.
func TestAllButTheLastTry(t *testing.T) {
	s := newSpace(t, 2, 1, 4096)
	pin(t, s, 0)
	pin(t, s, 1)
	change(t, s, 1, 0, appendOf("a"))
	seen := 0
	for _, others := range []int{1, 2, 63} {
		c := s.Change(0, 0, appendOf("x"))
		for range others {
			// It is about to swap, as soon as it has all slots that it needs: a leaf, a branch, and a head.
			for !c.Over() && s.Arena().Used() < met(s)+s.Kept()+3 {
				stepOnce(t, s, c.Act)
			}
			change(t, s, 1, 0, flagOf(1+seen, flags.Seen, 1))
			seen = 1 - seen
			for !c.Over() && s.Arena().Used() > met(s)+s.Kept() {
				stepOnce(t, s, c.Act)
			}
		}
		finish(t, s, c.Act)
		if c.Err() != api.OK || c.Fails() != others || !c.Done().Changed {
			t.Errorf("P10.3: error %d, fails %d, want %d", c.Err(), c.Fails(), others)
		}
	}
}

// TestNoOtherSwap: what others do beside changes of that box does not make a swap fail.
func TestNoOtherSwap(t *testing.T) {
	s := newSpace(t, 3, 2, 400)
	for who := range 3 {
		pin(t, s, who)
	}
	change(t, s, 1, 0, appendOf("a"))
	c := s.Change(0, 0, appendOf("x", "z"))
	for i := 0; !c.Over(); i++ {
		stepOnce(t, s, c.Act)
		look(t, s, 1, 0)
		if i%5 > 0 {
			continue // else somebody else would take a slot each time that this one is about to
		}
		change(t, s, 1, 1, appendOf("y"))
		change(t, s, 1, 0, flagOf(1, 0, 1))
		change(t, s, 1, 0, edit.Edit{Kind: 9})
		finish(t, s, s.Unpin(2))
		collect(t, s, 2)
		pin(t, s, 2)
	}
	if c.Err() != api.OK || c.Fails() != 0 {
		t.Errorf("P10.5: error %d, fails %d", c.Err(), c.Fails())
	}
}

// TestTheSameSlotAgain: a swap fails also if the box's head stands in the same slot again.
func TestTheSameSlotAgain(t *testing.T) {
	s := newSpace(t, 2, 1, 40)
	pin(t, s, 0)
	pin(t, s, 1)
	c := s.Change(0, 0, appendOf("x"))
	first := s.Roots()[0]
	// The session 0 is not pinned any more, though its change goes on: so slots come again.
	stepOnce(t, s, c.Act)
	finish(t, s, s.Unpin(0))
	came := false
	for i := 0; i < 200 && !came; i++ {
		pin(t, s, 1)
		change(t, s, 1, 0, appendOf("y"))
		change(t, s, 1, 0, flagOf(1, flags.Deleted, uint32(i)+1))
		change(t, s, 1, 0, edit.Edit{Kind: edit.Expunge})
		finish(t, s, s.Unpin(1))
		for range i % 5 {
			collect(t, s, 1)
		}
		came = s.Roots()[0] == first
	}
	if !came {
		t.Fatal("the same slot never came again")
	}
	finish(t, s, c.Act)
	if c.Err() != api.OK || c.Fails() != 1 {
		t.Errorf("P10.5: error %d, fails %d, want 1", c.Err(), c.Fails())
	}
}

// TestHandedIn: what is handed in is neither changed nor kept, and answers share no memory.
func TestHandedIn(t *testing.T) {
	s := newSpace(t, 1, 1, 60)
	pin(t, s, 0)
	e := appendOf("a", "b", "c")
	c := s.Change(0, 0, e)
	e.Recs[0].Text = "other"
	finish(t, s, c.Act)
	if got := c.Done().Recs; len(got) != 3 || got[0].Text != "a" || e.Recs[1] != (tree.Rec{Text: "b"}) {
		t.Errorf("R4: %v", got)
	}
	c.Done().Recs[0].Text = "other"
	if got := c.Done().Recs; got[0].Text != "a" || recs(s, c.Done().Head)[0].Text != "a" {
		t.Errorf("R4: two answers share memory: %v", got)
	}
	e = flagOf(1, flags.Seen, 3, 1)
	c = s.Change(0, 0, e)
	e.Uids[0] = 2
	finish(t, s, c.Act)
	if got := c.Done().Recs; len(got) != 2 || got[1].Uid != 3 || e.Uids[1] != 1 {
		t.Errorf("R4: %v", got)
	}
}

// TestKept: what was taken away is kept till two epochs behind, and till it is given back.
func TestKept(t *testing.T) {
	s := newSpace(t, 2, 1, 60)
	pin(t, s, 0)
	change(t, s, 0, 0, appendOf("a", "b"))
	checkSlots(t, s, 4, 1)
	change(t, s, 0, 0, flagOf(1, flags.Seen, 1, 2))
	checkSlots(t, s, 4, 1+4)
	for range 5 {
		collect(t, s, 0)
		collect(t, s, 1)
	}
	checkSlots(t, s, 4, 5)
	finish(t, s, s.Unpin(0))
	for range 5 {
		collect(t, s, 1)
	}
	checkSlots(t, s, 4, 5)
	a := s.Collect(0)
	for last := s.Kept(); !a.Over(); last = s.Kept() {
		stepOnce(t, s, a)
		if now := s.Kept(); now > last || now < last-1 || s.Arena().Used() != 4+now {
			t.Fatalf("P10.4: %d are kept, and then %d, and %d used", last, now, s.Arena().Used())
		}
	}
	checkSlots(t, s, 4, 0)
	if a := s.Collect(0); finish(t, s, a) > 30 {
		t.Errorf("P10.3: a collect of nothing: %d steps", a.Count())
	}
}

// TestTwoEpochsBehind: what was taken away at an epoch is given back as soon as that is 2 more; a change advances it, too.
func TestTwoEpochsBehind(t *testing.T) {
	s := newSpace(t, 2, 1, 60)
	pin(t, s, 0)
	change(t, s, 0, 0, appendOf("a"))
	finish(t, s, s.Unpin(0))
	checkSlots(t, s, 3, 1)
	collect(t, s, 0)
	checkSlots(t, s, 3, 0)
	pin(t, s, 0)
	change(t, s, 0, 0, flagOf(1, flags.Seen, 1))
	collect(t, s, 1)
	checkSlots(t, s, 3, 3)
	pin(t, s, 0)
	collect(t, s, 1)
	collect(t, s, 0)
	checkSlots(t, s, 3, 0)
}

// TestChangesCollect: what is ready is given back by a change, too.
func TestChangesCollect(t *testing.T) {
	s := newSpace(t, 1, 1, 24)
	for i := range 200 {
		for _, e := range []edit.Edit{appendOf("x"), flagOf(1, flags.Deleted, uint32(i)+1), {Kind: edit.Expunge}} {
			pin(t, s, 0)
			if c := change(t, s, 0, 0, e); c.Err() != api.OK || !c.Done().Changed {
				t.Fatalf("P10.3: the change %v number %d: error %d, %d are kept", e, i, c.Err(), s.Kept())
			}
			finish(t, s, s.Unpin(0))
		}
	}
}

// TestOfTelling: none of what tells of a space is an access.
func TestOfTelling(t *testing.T) {
	s := newSpace(t, 2, 2, 20)
	pin(t, s, 0)
	c := change(t, s, 0, 0, appendOf("x"))
	p := look(t, s, 0, 0)
	time := s.Mem().Time()
	s.Roots()
	s.Kept()
	s.Pinned(0)
	s.Arena()
	s.Pin(1)
	s.Unpin(1)
	s.Collect(1)
	s.Snap(0, 1)
	s.Change(0, 1, appendOf("y"))
	c.Done()
	c.Err()
	p.Head()
	if got := s.Mem().Time(); got != time {
		t.Errorf("P10.4: %d accesses", got-time)
	}
}

// TestMuchAtOnce: a change of many messages, also of more than there are slots.
func TestMuchAtOnce(t *testing.T) {
	s := newSpace(t, 1, 1, 4096)
	pin(t, s, 0)
	if c := change(t, s, 0, 0, edit.Edit{Recs: make([]tree.Rec, 5000)}); c.Err() != api.ErrFull {
		t.Errorf("P10.3: error %d, want ErrFull", c.Err())
	}
	checkSlots(t, s, 1, 0)
	if c := change(t, s, 0, 0, edit.Edit{Recs: make([]tree.Rec, 3000)}); c.Err() != api.OK || c.Done().Head.Next != 3001 {
		t.Errorf("P10.3: error %d", c.Err())
	}
	var uids []uint32
	for uid := range uint32(3000) {
		uids = append(uids, uid+1)
	}
	if c := change(t, s, 0, 0, flagOf(1, flags.Deleted, uids...)); c.Err() != api.ErrFull {
		t.Errorf("P10.3: error %d, want ErrFull", c.Err())
	}
	change(t, s, 0, 0, flagOf(1, flags.Deleted, uids[:400]...))
	change(t, s, 0, 0, edit.Edit{Kind: edit.Expunge})
	finish(t, s, s.Unpin(0))
	collectAll(t, s, 1)
	checkSlots(t, s, met(s), 0)
}

// TestSpoilt: whoever goes to the words, or gives back what is not his, may spoil a space; each call ends all the same.
func TestSpoilt(t *testing.T) {
	edits := []edit.Edit{appendOf("x", "y"), flagOf(0, 31, 0, 1, 2, 3), {Kind: edit.Expunge}, {Kind: 7}}
	for _, w := range []uint64{0, 1, 2, 5, 1 << 31, math.MaxUint32, math.MaxUint64, mem.Pack(3, 9)} {
		for word := range newSpace(t, 2, 2, 12).Mem().Len() {
			s := newSpace(t, 2, 2, 12)
			pin(t, s, 0)
			change(t, s, 0, 0, appendOf("a"))
			s.Mem().Store(word, w)
			spoil(t, s, edits)
		}
	}
	for slot := range 12 {
		s := newSpace(t, 2, 2, 12)
		pin(t, s, 0)
		change(t, s, 0, 0, appendOf("a"))
		if give, err := s.Arena().Give(slot); err == api.OK {
			finish(t, s, give)
		}
		spoil(t, s, edits)
	}
}

// spoil does all that there is to a space that is not whole; no act need end, but each step does.
func spoil(t *testing.T, s *txn.Space, edits []edit.Edit) {
	t.Helper()
	for box := range 2 {
		for _, e := range edits {
			for _, a := range []*act.Act{s.Pin(0), s.Change(0, box, e).Act, s.Snap(0, box).Act, s.Collect(0), s.Collect(1)} {
				act.Rest(2000, a)
			}
		}
	}
	s.Roots()
	s.Kept()
}
