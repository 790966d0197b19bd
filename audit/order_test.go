package audit_test

import (
	"math"
	"math/rand"
	"slices"
	"strings"
	"testing"

	"postchaise/act"
	"postchaise/api"
	"postchaise/audit"
	"postchaise/edit"
	"postchaise/flags"
	"postchaise/server"
	"postchaise/tree"
	"postchaise/txn"
)

// asks are what clients ask for, so that messages come, change and go.
var asks = []string{
	"SELECT x", "SELECT x", "SELECT y", "UNSELECT", "NOOP", "EXPUNGE", "EXPUNGE", "EXPUNGE",
	"APPEND x () {2}\r\nhi", "APPEND x (\\Deleted) {0}\r\n", "APPEND y (\\Deleted) {1}\r\n\n", "APPEND y {0}\r\n", "APPEND none {0}\r\n",
	"STORE 1 +FLAGS (\\Deleted)", "STORE 1:* FLAGS.SILENT (\\Seen)", "UID STORE 1:* -FLAGS (\\Deleted)", "UID STORE 3:* +FLAGS.SILENT (\\Deleted)",
	"FETCH 1:* (FLAGS BODY.PEEK[])", "UID SEARCH DELETED", "COPY 1:2 y", "COPY * x", "UID COPY 1:* x", "SLEEP",
}

// look is what a session looked at: the slots that it reaches, and what stood in them.
type look struct {
	tree  tree.Tree
	slots []int
	gens  []uint32
	nodes []tree.Node
}

// looked is what is reached from a tree now.
func looked(s *txn.Space, t tree.Tree) look {
	l := look{tree: t, slots: audit.Reach(s, t)}
	for _, slot := range l.slots {
		n, _ := s.Arena().At(slot)
		l.gens, l.nodes = append(l.gens, s.Arena().Gen(slot)), append(l.nodes, n)
	}
	return l
}

// holdLook holds that what was looked at stands.
func holdLook(t *testing.T, s *txn.Space, l look) {
	t.Helper()
	now := looked(s, l.tree)
	if !slices.Equal(now.slots, l.slots) || !slices.Equal(now.gens, l.gens) || !slices.Equal(now.nodes, l.nodes) {
		t.Fatalf("P3: what was looked at had the slots %v, and has %v", l.slots, now.slots)
	}
}

// holdWhole holds that a space is whole, as it is at each moment; when all is over, just what is met and what is kept is used.
func holdWhole(t *testing.T, s *txn.Space, over bool) {
	t.Helper()
	time := s.Mem().Time()
	r := audit.Of(s)
	if r.Wrong != "" || r.Box != -1 || r.Slots != s.Arena().Len() || r.Kept != s.Kept() || s.Mem().Time() != time {
		t.Fatalf("P23.2: the space comes to %+v", r)
	}
	if rest := r.Used - r.Met - r.Kept; rest < 0 || r.Used > r.Slots || over && rest != 0 {
		t.Fatalf("P23.2: all is over: %v, and the space comes to %+v", over, r)
	}
	met := len(s.Roots())
	for _, slot := range s.Roots() {
		h := headAt(s, slot)
		met += len(audit.Reach(s, tree.Tree{Root: h.Root, Height: h.Height}))
	}
	if r.Met != met {
		t.Fatalf("P23.1: %d slots are reached, but %d met", met, r.Met)
	}
}

// actor is a session, what it does, what its act notes when it is over, and what it looked at.
type actor struct {
	act  *act.Act
	end  func()
	view *look
}

// anyEdit is any edit of a box, the numbers of whose messages are near to one.
func anyEdit(r *rand.Rand, near uint32) edit.Edit {
	e := edit.Edit{Kind: r.Intn(4), How: r.Intn(3), Flags: flags.Set(r.Intn(32)) | flags.Deleted}
	for range r.Intn(5) {
		e.Recs = append(e.Recs, tree.Rec{Flags: flags.Set(r.Intn(32)), Text: "x"})
		e.Uids = append(e.Uids, near+uint32(r.Intn(12)))
	}
	return e
}

// begin lets a session begin anything.
func (a *actor) begin(s *txn.Space, r *rand.Rand, who int, near uint32) {
	box := r.Intn(len(s.Roots()))
	a.end = func() {}
	switch snap, change := s.Snap(who, box), s.Change(who, box, anyEdit(r, near)); {
	case r.Intn(8) == 0:
		a.act = s.Collect(who)
	case snap == nil || r.Intn(6) == 0:
		a.act, a.view = s.Pin(who), nil
	case r.Intn(6) == 0:
		a.act, a.view = s.Unpin(who), nil
	case r.Intn(4) == 0:
		a.act = snap.Act
		a.end = func() {
			l := looked(s, tree.Tree{Root: snap.Head().Root, Height: snap.Head().Height})
			a.view = &l
		}
	default:
		a.act = change.Act
	}
}

// step makes a step of a session, and holds what is promised of any moment.
func (a *actor) step(t *testing.T, s *txn.Space) {
	t.Helper()
	if a.act.Step() {
		a.act = nil
		a.end()
	}
	holdWhole(t, s, false)
}

// end lets all that is under way be over, and all that was kept be given back.
func end(t *testing.T, s *txn.Space, actors []*actor) {
	t.Helper()
	for _, a := range actors {
		for a.act != nil {
			a.step(t, s)
		}
	}
	holdWhole(t, s, true)
	for who := range actors {
		finish(t, s.Unpin(who))
	}
	collectAll(t, s, len(actors))
}

// collectAll lets each session collect three times: when nobody is pinned, just what the boxes have is used then.
func collectAll(t *testing.T, s *txn.Space, sessions int) {
	t.Helper()
	for who := range sessions {
		for range 3 {
			finish(t, s.Collect(who))
			holdWhole(t, s, true)
		}
	}
	if r := audit.Of(s); r.Kept != 0 || r.Used != r.Met {
		t.Fatalf("P6: behind all, the space comes to %+v", r)
	}
}

// TestAnySteps: many sessions do anything, step by step in any order, in spaces with many slots, and with few.
func TestAnySteps(t *testing.T) {
	r := rand.New(rand.NewSource(233))
	full, high, views := 0, 0, 0
	for i := range 150 {
		c := txn.Config{Sessions: 1 + r.Intn(8), Boxes: 1 + r.Intn(4), Slots: 4 + r.Intn(60), Next: 1 + uint32(r.Intn(300)), Valid: 7}
		if i%3 == 0 {
			c.Slots = 500
		}
		if i%5 == 0 {
			c.Next = math.MaxUint32 - uint32(r.Intn(60))
		}
		s := newSpace(t, c)
		var actors []*actor
		for range c.Sessions {
			actors = append(actors, &actor{})
		}
		for range 500 {
			who := r.Intn(c.Sessions)
			a := actors[who]
			for range 1 + r.Intn(9) {
				if a.act == nil {
					a.begin(s, r, who, c.Next)
				}
				a.step(t, s)
			}
			for _, a := range actors {
				if a.view != nil {
					holdLook(t, s, *a.view)
					views += len(a.view.slots)
				}
			}
			now := audit.Of(s)
			full += now.Used / now.Slots
		}
		for _, slot := range s.Roots() {
			high += headAt(s, slot).Height / 8
		}
		end(t, s, actors)
	}
	if full < 100 || high < 20 || views < 10000 {
		t.Errorf("no slot was free %d times, %d trees had the height 8, %d slots were looked at", full, high, views)
	}
}

// TestBetween: two changes, of which the other one goes on at any step of the first.
func TestBetween(t *testing.T) {
	edits := []edit.Edit{
		{Recs: []tree.Rec{{Text: "c"}, {Text: "d"}}},
		{Kind: edit.Flag, Uids: []uint32{1, 2}, How: 1, Flags: flags.Deleted},
		{Kind: edit.Expunge},
		{Kind: 3},
	}
	for _, one := range edits {
		for _, other := range edits {
			for _, slots := range []int{10, 13, 16, 40} {
				for steps := range 40 {
					s := newSpace(t, txn.Config{Sessions: 2, Boxes: 2, Slots: slots, Next: 15, Valid: 7})
					change(t, s, 0, edit.Edit{Recs: []tree.Rec{{Text: "a", Flags: flags.Deleted}, {Text: "b"}}})
					finish(t, s.Pin(0))
					finish(t, s.Pin(1))
					actors := []*actor{{act: s.Change(0, 0, one).Act, end: func() {}}, {act: s.Change(1, 0, other).Act, end: func() {}}}
					for i := 0; i < steps && actors[0].act != nil; i++ {
						actors[0].step(t, s)
					}
					for actors[1].act != nil {
						actors[1].step(t, s)
					}
					end(t, s, actors)
				}
			}
		}
	}
}

// TestBusy: a change whose swap fails as often as it may leaves the space whole.
func TestBusy(t *testing.T) {
	s := newSpace(t, txn.Config{Sessions: 2, Boxes: 1, Slots: 4096, Next: 1, Valid: 7})
	finish(t, s.Pin(0))
	finish(t, s.Pin(1))
	finish(t, s.Change(0, 0, edit.Edit{Recs: make([]tree.Rec, 1)}).Act)
	c := s.Change(1, 0, edit.Edit{Recs: make([]tree.Rec, 1)})
	a := &actor{act: c.Act, end: func() {}}
	for how := 1; a.act != nil; how = 3 - how {
		finish(t, s.Change(0, 0, edit.Edit{Kind: edit.Flag, Uids: []uint32{1}, How: how, Flags: flags.Seen}).Act)
		finish(t, s.Pin(0))
		for i := 0; i < 6 && a.act != nil; i++ {
			a.step(t, s)
		}
	}
	if c.Err() != api.ErrBusy {
		t.Fatalf("P10.3: error %d", c.Err())
	}
	end(t, s, []*actor{{}, {}})
}

// TestServer: whatever clients ask for, and however the steps come, the server's space is whole.
func TestServer(t *testing.T) {
	r := rand.New(rand.NewSource(234))
	full, met := 0, 0
	for range 60 {
		c := server.Config{Sessions: 1 + r.Intn(8), Slots: 15 + r.Intn(200), Names: []string{"x", "y"}, Next: 1 + uint32(r.Intn(20)), Valid: 7}
		s, err := server.New(c)
		if err != api.OK {
			t.Fatalf("P20.1: error %d", err)
		}
		for range 120 {
			s.Feed(r.Intn(c.Sessions), []byte("a "+asks[r.Intn(len(asks))]+"\r\n"))
			for range r.Intn(60) {
				s.Step(r.Intn(c.Sessions))
				holdWhole(t, s.Space(), false)
			}
			if r.Intn(20) == 0 {
				s.Rest(100000)
				holdWhole(t, s.Space(), true)
			}
		}
		s.Rest(100000)
		holdWhole(t, s.Space(), true)
		met += audit.Of(s.Space()).Met
		for who := range c.Sessions {
			full += strings.Count(s.Output(who), "NO full")
			s.Feed(who, []byte("a UNSELECT\r\n"))
		}
		s.Rest(100000)
		collectAll(t, s.Space(), c.Sessions)
	}
	if full < 100 || met < 1000 {
		t.Errorf("no slot was free %d times, %d slots were met at the end", full, met)
	}
}
