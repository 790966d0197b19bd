package session_test

import (
	"math"
	"slices"
	"strconv"
	"strings"
	"testing"

	"postchaise/api"
	"postchaise/command"
	"postchaise/flags"
	"postchaise/item"
	"postchaise/list"
	"postchaise/reply"
	"postchaise/search"
	"postchaise/seqset"
	"postchaise/session"
	"postchaise/tree"
	"postchaise/txn"
)

// lineEnd is the end of a line.
const lineEnd = "\r\n"

// newSpace is a space with boxes whose Next is 1, and whose Valid is 7.
func newSpace(t *testing.T, sessions, boxes, slots int) *txn.Space {
	t.Helper()
	s, err := txn.New(txn.Config{Sessions: sessions, Boxes: boxes, Slots: slots, Next: 1, Valid: 7})
	if err != api.OK {
		t.Fatalf("no space: error %d", err)
	}
	return s
}

// parse is the command of a text that is one.
func parse(t *testing.T, text string) command.Command {
	t.Helper()
	c, err := command.Parse(text)
	if err != api.OK {
		t.Fatalf("%q is no command", text)
	}
	return c
}

// made is a world of some sessions, and the boxes x and y.
func made(t *testing.T, sessions int) *world {
	t.Helper()
	return newWorld(t, txn.Config{Sessions: sessions, Boxes: 2, Slots: 200, Next: 1, Valid: 7})
}

// do does commands, one behind the other, with no other one meanwhile.
func (w *world) do(t *testing.T, who int, texts ...string) {
	t.Helper()
	for _, text := range texts {
		w.begin(t, who, text)
		w.finish(t, who)
	}
}

// last is what was told of the command that was over last.
func (w *world) last() *event {
	return w.events[len(w.events)-1]
}

// hold does a command, and holds what is told.
func (w *world) hold(t *testing.T, who int, text string, want ...string) {
	t.Helper()
	w.do(t, who, text)
	w.holdLast(t, text, want...)
}

// holdLast holds what was told last.
func (w *world) holdLast(t *testing.T, text string, want ...string) {
	t.Helper()
	if got := w.last().told; got != strings.Join(want, lineEnd)+lineEnd {
		t.Fatalf("P19.2: %q:\n%q\nnot\n%q", text, got, strings.Join(want, lineEnd)+lineEnd)
	}
}

// holdNone holds that a session has selected none.
func holdNone(t *testing.T, s *session.Session) {
	t.Helper()
	l, has := s.List()
	v, sees := s.View()
	if has || sees || len(l) != 0 || v != (tree.Tree{}) {
		t.Fatalf("P19.1: it has selected none, but has %v %v, %v %v", l, has, v, sees)
	}
}

// greeted is what is told ahead of the fetches, when a box is selected.
func greeted(exists, next string) []string {
	return []string{
		`* FLAGS (\Answered \Flagged \Deleted \Seen \Draft)`,
		"* " + exists + " EXISTS",
		"* 0 RECENT",
		"* OK [UIDVALIDITY 7] valid",
		"* OK [UIDNEXT " + next + "] next",
	}
}

// selected is all that is told, when a box is selected.
func selected(tag, exists, next string, fetches ...string) []string {
	return slices.Concat(greeted(exists, next), fetches, []string{tag + " OK [READ-WRITE] done"})
}

func TestNew(t *testing.T) {
	space := newSpace(t, 3, 2, 20)
	for _, c := range []struct {
		space *txn.Space
		who   int
		names []string
		ok    bool
	}{
		{space, 0, []string{"x", "y"}, true},
		{space, 2, []string{"x", "X"}, true},
		{space, 1, []string{"", "my box\r\n"}, true},
		{space, 1, []string{strings.Repeat("x", 70000), strings.Repeat("x", 70001)}, true},
		{nil, 0, []string{"x", "y"}, false},
		{nil, 0, nil, false},
		{space, -1, []string{"x", "y"}, false},
		{space, 3, []string{"x", "y"}, false},
		{space, 8, []string{"x", "y"}, false},
		{space, math.MinInt, []string{"x", "y"}, false},
		{space, math.MaxInt, []string{"x", "y"}, false},
		{space, 0, nil, false},
		{space, 0, []string{"x"}, false},
		{space, 0, []string{"x", "y", "z"}, false},
		{space, 0, []string{"x", "x"}, false},
		{space, 0, []string{"", ""}, false},
		{newSpace(t, 1, 4, 20), 0, []string{"a", "b", "c", "a"}, false},
		{newSpace(t, 1, 4, 20), 0, []string{"a", "b", "c", "d"}, true},
		{newSpace(t, 1, 1, 20), 0, []string{"a"}, true},
	} {
		s, err := session.New(c.space, c.who, c.names...)
		if c.ok != (err == api.OK) || c.ok != (s != nil) || !c.ok && err != api.ErrArg {
			t.Errorf("P19.1: the reader %d, %.20q: %v, error %d", c.who, c.names, s, err)
		}
		if s != nil {
			holdNone(t, s)
		}
	}
	for who := range 3 {
		if space.Pinned(who) {
			t.Errorf("P19.1: %d is pinned at first", who)
		}
	}
}

// The names, and a command, may be changed by who handed them in, also while the command is under way.
func TestHandedIn(t *testing.T) {
	space := newSpace(t, 1, 2, 50)
	names := []string{"x", "y"}
	s, _ := session.New(space, 0, names...)
	names[0], names[1] = "y", "z"
	tell := func(c command.Command, spoil func(c command.Command), want ...string) {
		t.Helper()
		d := s.Do(c)
		spoil(c)
		for !d.Step() {
			spoil(c)
		}
		if got := reply.Print(d.Lines()...); got != strings.Join(want, lineEnd)+lineEnd {
			t.Fatalf("R4: %q", got)
		}
	}
	none := func(command.Command) {}
	tell(parse(t, "a SELECT x"), none, selected("a", "0", "1")...)
	tell(parse(t, "a APPEND x {3}\r\none"), none, "* 1 EXISTS", "* 1 FETCH (UID 1 FLAGS ())", "a OK [APPENDUID 7 1] done")
	tell(parse(t, "a APPEND x {3}\r\ntwo"), none, "* 2 EXISTS", "* 2 FETCH (UID 2 FLAGS ())", "a OK [APPENDUID 7 2] done")
	spoilSet := func(c command.Command) { c.Set[0] = seqset.Range{From: 9, To: 9} }
	tell(parse(t, "a FETCH 2 UID"), spoilSet, "* 2 FETCH (UID 2)", "a OK done")
	tell(parse(t, "a UID FETCH 1 UID"), spoilSet, "* 1 FETCH (UID 1)", "a OK done")
	tell(parse(t, "a STORE 2 FLAGS (\\Seen)"), spoilSet, "* 2 FETCH (FLAGS (\\Seen))", "a OK done")
	spoilKey := func(c command.Command) {
		c.Key.Kids[0].Set[0] = seqset.Range{From: 9, To: 9}
		c.Key.Kids[1].Kids[0] = search.Key{Kind: search.Has, Flag: flags.Draft}
	}
	tell(parse(t, "a SEARCH OR 1 NOT 1:2"), spoilKey, "* SEARCH 1", "a OK done")
	tell(parse(t, "a UID SEARCH OR 1 NOT 1:2"), spoilKey, "* SEARCH 1", "a OK done")
}

// What is answered has nothing in common with what is kept, nor with other answers.
func TestApart(t *testing.T) {
	space := newSpace(t, 1, 1, 50)
	s, _ := session.New(space, 0, "x")
	tell := func(text string) *session.Doing {
		t.Helper()
		d := s.Do(parse(t, text))
		for !d.Step() {
		}
		return d
	}
	tell("a SELECT x")
	tell("a APPEND x {3}\r\none")
	tell("a APPEND x {3}\r\ntwo")
	want := list.List{{Uid: 1}, {Uid: 2}}
	got, _ := s.List()
	got[0].Uid = 9
	_ = append(got[:1], list.Entry{Uid: 8})
	if got, ok := s.List(); !ok || !slices.Equal(got, want) {
		t.Errorf("R4: the list %v", got)
	}
	d := tell("a SEARCH ALL")
	one := d.Lines()
	one[0].Nums[0] = 9
	one[1] = reply.Line{}
	if got := reply.Print(d.Lines()...); got != "* SEARCH 1 2\r\na OK done\r\n" {
		t.Errorf("R4: it told %q", got)
	}
}

// wrong are commands that are not right.
func wrong() []command.Command {
	return []command.Command{
		{},
		{Kind: command.Noop},
		{Tag: "a+", Kind: command.Noop},
		{Tag: "a b", Kind: command.Noop},
		{Tag: strings.Repeat("a", 61), Kind: command.Noop},
		{Tag: "a", Kind: -1},
		{Tag: "a", Kind: command.Unselect + 1},
		{Tag: "a", Kind: math.MaxInt},
		{Tag: "a", Kind: math.MinInt},
		{Tag: "a", Kind: command.Noop, Name: "x"},
		{Tag: "a", Kind: command.Noop, ByUid: true},
		{Tag: "a", Kind: command.Select, Name: strings.Repeat("x", 65537)},
		{Tag: "a", Kind: command.Append, Name: "x", Flags: 32},
		{Tag: "a", Kind: command.Append, Name: "x", Text: strings.Repeat("x", 65537)},
		{Tag: "a", Kind: command.Fetch, Items: item.Uid},
		{Tag: "a", Kind: command.Fetch, Set: seqset.Set{{From: 1, To: 1}}},
		{Tag: "a", Kind: command.Store, Set: seqset.Set{{From: 1, To: 1}}, Order: item.Order{How: 3}},
		{Tag: "a", Kind: command.Copy, Name: "x", Set: make(seqset.Set, 65)},
		{Tag: "a", Kind: command.Search, Key: search.Key{Kind: search.And}},
		{Tag: "a", Kind: command.Search, Key: search.Key{Kind: 11}},
	}
}

func TestDoOfWhatIsNotRight(t *testing.T) {
	w := made(t, 1)
	for range 2 {
		for _, c := range wrong() {
			if d := w.sessions[0].Do(c); d != nil {
				t.Errorf("P19.1: Do(%v): not nil", c)
			}
		}
		// It hinders nothing.
		w.do(t, 0, "a APPEND x {1}\r\nx", "a SELECT x", "a NOOP")
	}
}

// While a command is under way there is no other one; it is so from when it is asked for, till it is over.
func TestDoOneAtATime(t *testing.T) {
	for _, text := range []string{"a NOOP", "a SELECT x", "a SELECT z", "a APPEND x {1}\r\nx", "a FETCH 1 FLAGS", "a UNSELECT"} {
		for _, begin := range [][]string{nil, {"a SELECT x"}} {
			w := made(t, 2)
			w.do(t, 0, begin...)
			s := w.sessions[0]
			w.begin(t, 0, text)
			for over := false; !over; over = w.step(t, 0) {
				if d := s.Do(parse(t, "b NOOP")); d != nil {
					t.Fatalf("P19.1: %q is under way, but another one begins", text)
				}
				if w.sessions[1].Do(command.Command{}) != nil {
					t.Fatal("P19.1: a command that is not right begins")
				}
			}
			w.do(t, 0, "b NOOP")
			w.wind(t)
		}
	}
}

// As long as an act is not stepped it does nothing.
func TestDoAlone(t *testing.T) {
	w := made(t, 1)
	w.do(t, 0, "a SELECT x", "a APPEND x {3}\r\none")
	for _, text := range []string{"a NOOP", "a SELECT y", "a SELECT z", "a APPEND x {1}\r\nx", "a STORE 1 FLAGS (\\Seen)", "a UID STORE 1 FLAGS (\\Seen)", "a FETCH 1 FLAGS", "a UID FETCH 1 FLAGS", "a SEARCH ALL", "a UID SEARCH ALL", "a EXPUNGE", "a COPY 1 x", "a UNSELECT"} {
		space := w.space
		s := w.sessions[0]
		time, used := space.Mem().Time(), space.Arena().Used()
		was, _ := s.List()
		view, _ := s.View()
		w.begin(t, 0, text)
		now, ok := s.List()
		if nowView, sees := s.View(); !ok || !sees || !slices.Equal(now, was) || nowView != view {
			t.Errorf("P19.1: %q did something, but no step was made", text)
		}
		if space.Mem().Time() != time || space.Arena().Used() != used || !space.Pinned(0) {
			t.Errorf("P19.1: %q reached for the space, but no step was made", text)
		}
		w.finish(t, 0)
		w.do(t, 0, "a SELECT x")
	}
	w.wind(t)
}

// TestTold holds what is told, as the chapter of the model has it.
func TestTold(t *testing.T) {
	w := made(t, 2)
	for _, text := range []string{"a STORE 1 FLAGS ()", "a UID STORE 1 FLAGS ()", "a FETCH 1 FLAGS", "a UID FETCH 1 FLAGS", "a SEARCH ALL", "a UID SEARCH ALL", "a EXPUNGE", "a COPY 1 x", "a UID COPY 1 z", "a UNSELECT"} {
		w.hold(t, 0, text, "a BAD state")
	}
	w.hold(t, 0, "a NOOP", "a OK done")
	w.hold(t, 0, "a SELECT z", "a NO none")
	w.hold(t, 0, "a APPEND z {0}\r\n", "a NO [TRYCREATE] none")
	w.hold(t, 0, "a SELECT x", selected("a", "0", "1")...)
	w.hold(t, 0, "b APPEND x (\\Seen) {2}\r\nhi", "* 1 EXISTS", "* 1 FETCH (UID 1 FLAGS (\\Seen))", "b OK [APPENDUID 7 1] done")
	w.hold(t, 1, "c APPEND x {1}\r\nx", "c OK [APPENDUID 7 2] done")
	w.hold(t, 0, "d FETCH 1:* FLAGS", "* 1 FETCH (FLAGS (\\Seen))", "d OK done")
	w.hold(t, 0, "d FETCH 2 FLAGS", "d BAD set")
	w.hold(t, 0, "d STORE 2 FLAGS ()", "d BAD set")
	w.hold(t, 0, "d COPY 2 z", "d BAD set")
	w.hold(t, 0, "e UID FETCH 1:* BODY.PEEK[]", "* 2 EXISTS", "* 2 FETCH (UID 2 FLAGS ())", "* 1 FETCH (UID 1 BODY[] {2}\r\nhi)", "* 2 FETCH (UID 2 BODY[] {1}\r\nx)", "e OK done")
	w.hold(t, 1, "f SELECT x", selected("f", "2", "3", "* 1 FETCH (UID 1 FLAGS (\\Seen))", "* 2 FETCH (UID 2 FLAGS ())")...)
	w.hold(t, 0, "g STORE 1 +FLAGS (\\Deleted)", "* 1 FETCH (FLAGS (\\Deleted \\Seen))", "g OK done")
	w.hold(t, 0, "h STORE 2 FLAGS.SILENT (\\Draft)", "h OK done")
	w.hold(t, 0, "i FETCH 2 (FLAGS RFC822.SIZE)", "* 2 FETCH (FLAGS () RFC822.SIZE 1)", "i OK done")
	w.hold(t, 0, "i NOOP", "* 2 FETCH (UID 2 FLAGS (\\Draft))", "i OK done")
	w.hold(t, 0, "i NOOP", "i OK done")
	w.hold(t, 1, "i UID STORE 2 +FLAGS (\\Seen)", "* 2 FETCH (UID 2 FLAGS (\\Seen \\Draft))", "* 1 FETCH (UID 1 FLAGS (\\Deleted \\Seen))", "i OK done")
	w.hold(t, 1, "i UID STORE 2 -FLAGS.SILENT (\\Seen)", "i OK done")
	w.hold(t, 0, "j EXPUNGE", "* 1 EXPUNGE", "j OK done")
	w.hold(t, 0, "j EXPUNGE", "j OK done")
	w.hold(t, 1, "k SEARCH SEEN", "* SEARCH 1 2", "k OK done")
	w.hold(t, 1, "k FETCH 1 BODY.PEEK[]", "* 1 FETCH (BODY[] {2}\r\nhi)", "k OK done")
	w.hold(t, 1, "l COPY 1:2 y", "l OK [COPYUID 7 1:2 1:2] done")
	w.hold(t, 1, "l COPY 1 z", "l NO [TRYCREATE] none")
	w.hold(t, 1, "m STORE 1 FLAGS ()", "m OK done")
	w.hold(t, 1, "n UID SEARCH ALL", "* 1 EXPUNGE", "* 1 FETCH (UID 2 FLAGS (\\Draft))", "* SEARCH 2", "n OK done")
	w.hold(t, 1, "n UID COPY 5 x", "n OK done")
	w.hold(t, 1, "n COPY 1 x", "* 2 EXISTS", "* 2 FETCH (UID 3 FLAGS (\\Draft))", "n OK [COPYUID 7 2 3] done")
	w.hold(t, 0, "q UID STORE 9 FLAGS ()", "* 2 EXISTS", "* 2 FETCH (UID 3 FLAGS (\\Draft))", "q OK done")
	w.hold(t, 1, "o SELECT y", selected("o", "2", "3", "* 1 FETCH (UID 1 FLAGS (\\Deleted \\Seen))", "* 2 FETCH (UID 2 FLAGS (\\Seen \\Draft))")...)
	w.hold(t, 1, "o SELECT z", "o NO none")
	holdNone(t, w.sessions[1])
	w.hold(t, 1, "p UNSELECT", "p BAD state")
	w.hold(t, 0, "p UNSELECT", "p OK done")
	holdNone(t, w.sessions[0])
	w.wind(t)
}

// recs are the messages of a tree of a space.
func recs(s *txn.Space, t tree.Tree) []tree.Rec {
	return slices.Collect(t.Walk(s.Arena()))
}

// The view is what the box had when the session looked last, also if its list tells other flags.
func TestView(t *testing.T) {
	w := made(t, 2)
	s := w.sessions[0]
	holdView := func(of []list.Entry, texts ...string) {
		t.Helper()
		l, has := s.List()
		v, sees := s.View()
		if !has || !sees || !slices.Equal(l, of) {
			t.Fatalf("P19.1: the list %v %v, the view %v", l, has, sees)
		}
		var got []string
		for _, rec := range recs(w.space, v) {
			got = append(got, strconv.Itoa(int(rec.Uid))+rec.Flags.String()+rec.Text)
		}
		if !slices.Equal(got, texts) {
			t.Fatalf("P19.1: the view has %q, not %q", got, texts)
		}
	}
	w.do(t, 0, "a APPEND x {3}\r\none", "a APPEND x {3}\r\ntwo")
	holdNone(t, s)
	w.do(t, 0, "a SELECT x")
	holdView([]list.Entry{{Uid: 1}, {Uid: 2}}, "1()one", "2()two")
	w.do(t, 0, "a STORE 1 FLAGS (\\Seen)")
	holdView([]list.Entry{{Uid: 1, Flags: flags.Seen}, {Uid: 2}}, "1()one", "2()two")
	w.do(t, 0, "a STORE 2 FLAGS.SILENT (\\Draft)")
	holdView([]list.Entry{{Uid: 1, Flags: flags.Seen}, {Uid: 2}}, "1()one", "2()two")
	w.do(t, 1, "a APPEND x {5}\r\nthree", "a SELECT x", "a STORE 2 FLAGS (\\Deleted)", "a EXPUNGE")
	w.do(t, 0, "a FETCH 1:* BODY.PEEK[]", "a SEARCH ALL", "a COPY 1:2 y", "a APPEND y {0}\r\n", "a UID COPY 9 y", "a UID STORE 9 FLAGS.SILENT ()")
	holdView([]list.Entry{{Uid: 1, Flags: flags.Seen}, {Uid: 2}}, "1()one", "2()two")
	w.do(t, 0, "a UID STORE 2 FLAGS ()")
	holdView([]list.Entry{{Uid: 1, Flags: flags.Seen}, {Uid: 3}}, `1(\Seen)one`, "3()three")
	w.do(t, 0, "a SELECT y")
	holdView([]list.Entry{{Uid: 1, Flags: flags.Seen}, {Uid: 2}, {Uid: 3}}, `1(\Seen)one`, "2()two", "3()")
	w.do(t, 1, "a STORE 1:* FLAGS (\\Deleted)", "a EXPUNGE")
	w.do(t, 0, "a SELECT x")
	holdView(nil)
	w.wind(t)
}

// A change for which no slot is free does not come off, and changes nothing.
func TestLimits(t *testing.T) {
	w := newWorld(t, txn.Config{Sessions: 2, Boxes: 2, Slots: 12, Next: 1, Valid: 7})
	w.do(t, 0, "a APPEND x {1}\r\nx", "a APPEND x {1}\r\ny", "a SELECT x", "a STORE 1 FLAGS (\\Deleted)", "a STORE 1 FLAGS (\\Deleted \\Seen)")
	if used := w.space.Arena().Used(); used != 11 {
		t.Fatalf("%d slots are used, not all but one", used)
	}
	before := w.all()
	for _, text := range []string{"a APPEND x {0}\r\n", "a APPEND y (\\Seen) {2}\r\nhi", "a STORE 1 FLAGS (\\Draft)", "a UID STORE 1 FLAGS (\\Draft)", "a UID STORE 1 FLAGS.SILENT (\\Draft)", "a EXPUNGE", "a COPY 1 x", "a UID COPY 1 y"} {
		w.hold(t, 0, text, "a NO full")
		if w.last().limit != api.ErrFull || w.all() != before {
			t.Errorf("P19.2: %q: limit %d,\n%snot\n%s", text, w.last().limit, w.all(), before)
		}
	}
	w.hold(t, 1, "a APPEND y {0}\r\n", "a NO full")
	if w.last().limit != api.ErrFull || w.space.Pinned(1) {
		t.Errorf("P19.2: limit %d, pinned %v", w.last().limit, w.space.Pinned(1))
	}
	// What changes nothing, or is refused ahead, needs no slot.
	ahead := len(w.events)
	w.hold(t, 0, "a UID STORE 9 FLAGS (\\Seen)", "a OK done")
	w.hold(t, 0, "a STORE 1 FLAGS (\\Deleted \\Seen)", "* 1 FETCH (FLAGS (\\Deleted \\Seen))", "a OK done")
	w.hold(t, 0, "a STORE 3 FLAGS ()", "a BAD set")
	w.hold(t, 0, "a COPY 1 z", "a NO [TRYCREATE] none")
	w.hold(t, 0, "a UID COPY 9 y", "a OK done")
	for _, ev := range w.events[ahead:] {
		if ev.limit != api.OK {
			t.Errorf("P19.2: %q: limit %d", ev.told, ev.limit)
		}
	}
	w.wind(t)
	// What the session alone could reach is free now.
	w.hold(t, 0, "a APPEND x {0}\r\n", "a OK [APPENDUID 7 3] done")
}

// Numbers go up to the last but one that there is.
func TestNoNumber(t *testing.T) {
	w := newWorld(t, txn.Config{Sessions: 1, Boxes: 2, Slots: 60, Next: math.MaxUint32 - 1, Valid: 7})
	w.hold(t, 0, "a APPEND x {0}\r\n", "a OK [APPENDUID 7 4294967294] done")
	w.hold(t, 0, "a APPEND x {0}\r\n", "a NO uid")
	if w.last().limit != api.OK || w.space.Pinned(0) {
		t.Errorf("P19.2: limit %d, pinned %v", w.last().limit, w.space.Pinned(0))
	}
	w.hold(t, 0, "a SELECT x", selected("a", "1", "4294967295", "* 1 FETCH (UID 4294967294 FLAGS ())")...)
	w.hold(t, 0, "a APPEND x {0}\r\n", "a NO uid")
	w.hold(t, 0, "a COPY 1 x", "a NO uid")
	w.hold(t, 0, "a UID COPY 1 x", "a OK done")
	w.hold(t, 0, "a COPY 1 y", "a OK [COPYUID 7 4294967294 4294967294] done")
	w.wind(t)
}

// A change is tried 64 times: if others come off ahead of it each time, it does not.
func TestBusy(t *testing.T) {
	for _, text := range []string{"b APPEND x {1}\r\nx", "b STORE 1 +FLAGS (\\Draft)", "b UID STORE 1:* +FLAGS.SILENT (\\Draft)", "b EXPUNGE", "b COPY 1:2 x"} {
		w := newWorld(t, txn.Config{Sessions: 2, Boxes: 1, Slots: 4096, Next: 1, Valid: 7})
		w.do(t, 0, "a APPEND x {3}\r\none", "a APPEND x (\\Deleted) {3}\r\ntwo", "a SELECT x")
		w.do(t, 1, "a SELECT x")
		before, _ := w.sessions[0].List()
		w.begin(t, 0, text)
		for i := range 1000000 {
			// So often that it comes off between each load and the swap behind that.
			w.do(t, 1, []string{"c STORE 1 FLAGS.SILENT (\\Seen)", "c STORE 1 FLAGS.SILENT ()"}[i%2])
			if w.steps(t, 0, 6) {
				break
			}
		}
		w.holdLast(t, text, "b NO busy")
		after, _ := w.sessions[0].List()
		if w.last().limit != api.ErrBusy || !slices.Equal(before, after) {
			t.Errorf("P19.2: %q: limit %d, the list %v", text, w.last().limit, after)
		}
		w.wind(t)
	}
}

// A mark is that of the look, or of the change; of all else the time when it is over.
func TestMarks(t *testing.T) {
	w := made(t, 1)
	words := map[string]int{}
	for _, name := range []string{"x", "y"} {
		time := w.space.Mem().Time()
		w.do(t, 0, "a APPEND "+name+" {1}\r\nx")
		// The box's word is the one that has changed, and that tells the head's slot.
		for i := range w.space.Mem().Len() {
			if at := w.space.Mem().Changed(i); at > time && at == w.last().mark {
				words[name] = i
			}
		}
		if ev := w.last(); words[name] == 0 || ev.mark >= ev.end {
			t.Fatalf("P19.2: the mark %d of an append from %d to %d", ev.mark, ev.begin, ev.end)
		}
	}
	holdSwap := func(text, name string) {
		t.Helper()
		w.do(t, 0, text)
		if ev := w.last(); ev.mark != w.space.Mem().Changed(words[name]) || ev.mark <= ev.begin {
			t.Errorf("P19.2: %q: the mark %d, from %d to %d", text, ev.mark, ev.begin, ev.end)
		}
	}
	holdLoad := func(text string, behind uint64) {
		t.Helper()
		w.do(t, 0, text)
		if ev := w.last(); ev.mark != ev.end-behind || ev.mark <= ev.begin {
			t.Errorf("P19.2: %q: the mark %d, from %d to %d", text, ev.mark, ev.begin, ev.end)
		}
	}
	holdNow := func(text string, accesses uint64) {
		t.Helper()
		w.do(t, 0, text)
		if ev := w.last(); ev.mark != ev.end || ev.end != ev.begin+accesses {
			t.Errorf("P19.2: %q: the mark %d, from %d to %d", text, ev.mark, ev.begin, ev.end)
		}
	}
	holdSwap("a APPEND x {1}\r\nx", "x")
	for _, text := range []string{"a NOOP", "a FETCH 1 FLAGS", "a UID FETCH 1 FLAGS", "a EXPUNGE", "a UNSELECT", "a SELECT z", "a APPEND z {0}\r\n"} {
		holdNow(text, 0)
	}
	for _, text := range []string{"a SELECT x", "a SELECT y", "a SELECT x", "a NOOP", "a UID FETCH 1 FLAGS", "a UID FETCH 99 FLAGS", "a UID SEARCH ALL"} {
		holdLoad(text, 0)
	}
	// What changes nothing has the mark of the load, behind which there is no access.
	for _, text := range []string{"a STORE 1 FLAGS ()", "a UID STORE 99 FLAGS (\\Seen)", "a UID STORE 99 FLAGS.SILENT (\\Seen)", "a EXPUNGE", "a UID COPY 99 x", "a UID COPY 99 y"} {
		holdLoad(text, 0)
	}
	for _, text := range []string{"a STORE 1 FLAGS (\\Seen)", "a STORE 1 FLAGS.SILENT (\\Deleted)", "a UID STORE 1 FLAGS ()", "a UID STORE 1 FLAGS.SILENT (\\Deleted)", "a EXPUNGE", "a COPY 1 x", "a APPEND x {0}\r\n"} {
		holdSwap(text, "x")
	}
	holdSwap("a COPY 1 y", "y")
	holdSwap("a APPEND y {0}\r\n", "y")
	for _, text := range []string{"a FETCH 1 FLAGS", "a FETCH 99 FLAGS", "a SEARCH ALL", "a STORE 99 FLAGS ()", "a COPY 99 x", "a COPY 1 z", "a APPEND z {0}\r\n"} {
		holdNow(text, 0)
	}
	holdNow("a UNSELECT", 1)
	w.do(t, 0, "a SELECT x")
	holdNow("a SELECT z", 1)
	w.wind(t)
}

// A session that looks is pinned anew: what others took away meanwhile is not held by it any more.
func TestPinnedAnew(t *testing.T) {
	for _, text := range []string{"a NOOP", "a UID FETCH 9 FLAGS", "a UID SEARCH ALL", "a SELECT x", "a SELECT y"} {
		for _, anew := range []bool{true, false} {
			w := made(t, 2)
			w.do(t, 0, "a SELECT x")
			for range 5 {
				w.do(t, 1, "a APPEND x {0}\r\n")
				if anew {
					w.do(t, 0, text)
				}
			}
			for range 2 {
				w.collect(t, 1)
				if anew {
					w.do(t, 0, text)
				}
			}
			if kept := w.space.Kept(); anew && kept > 0 || !anew && kept < 5 {
				t.Errorf("P19.1: %q: %v: %d are kept", text, anew, kept)
			}
			w.wind(t)
		}
	}
}
