package model_test

import (
	"math"
	"slices"
	"strconv"
	"strings"
	"testing"

	"postchaise/api"
	"postchaise/command"
	"postchaise/flags"
	"postchaise/list"
	"postchaise/model"
	"postchaise/reply"
	"postchaise/search"
	"postchaise/tree"
)

// The limits that the chapter, and those of the layers below, name.
const (
	maxSessions = 8
	maxBoxes    = 4
)

// lineEnd is the end of a line.
const lineEnd = "\r\n"

// boxes are some boxes.
func boxes(n int) []model.Box {
	var l []model.Box
	for i := range n {
		l = append(l, model.Box{Name: "x" + strconv.Itoa(i), Next: 1, Valid: 7})
	}
	return l
}

// small is a model of two sessions, and the boxes x and y.
func small(t *testing.T) *model.Model {
	t.Helper()
	return made(t, 2, model.Box{Name: "x", Next: 1, Valid: 7}, model.Box{Name: "y", Next: 30, Valid: 8})
}

// made is a model that can be.
func made(t *testing.T, sessions int, l ...model.Box) *model.Model {
	t.Helper()
	m, err := model.New(sessions, l...)
	if err != api.OK || m == nil {
		t.Fatalf("P18.1: %d sessions, boxes %v: error %d", sessions, l, err)
	}
	return m
}

// parse is the command of a text that is one.
func parse(t *testing.T, text string) command.Command {
	t.Helper()
	c, err := command.Parse(text)
	if err != api.OK {
		t.Fatalf("%q is no command", text)
	}
	return c
}

// told is what is told of a command, as a text.
func told(t *testing.T, m *model.Model, who int, text string, limit api.Errno) string {
	t.Helper()
	lines, err := m.Do(who, parse(t, text), limit)
	if err != api.OK {
		t.Fatalf("P18.1: %q: error %d", text, err)
	}
	return reply.Print(lines...)
}

// hold holds what is told of a command.
func hold(t *testing.T, m *model.Model, who int, text string, want ...string) {
	t.Helper()
	holdLimited(t, m, who, text, api.OK, want...)
}

// holdLimited holds what is told of a command with a limit.
func holdLimited(t *testing.T, m *model.Model, who int, text string, limit api.Errno, want ...string) {
	t.Helper()
	if got := told(t, m, who, text, limit); got != strings.Join(want, lineEnd)+lineEnd {
		t.Fatalf("P18.1: %q, limit %d:\n%q\nnot\n%q", text, limit, got, strings.Join(want, lineEnd)+lineEnd)
	}
}

// put puts messages of these texts, and with these flags, behind in a box.
func put(t *testing.T, m *model.Model, who int, box, set string, texts ...string) {
	t.Helper()
	for _, text := range texts {
		s := "p APPEND " + box + " " + set + " {" + strconv.Itoa(len(text)) + "}\r\n" + text
		if got := told(t, m, who, s, api.OK); !strings.Contains(got, "p OK [APPENDUID ") {
			t.Fatalf("P18.1: %q: %q", s, got)
		}
	}
}

// all is all that is to be seen of a model.
func all(m *model.Model) string {
	var b strings.Builder
	for who := range maxSessions {
		l, ok := m.List(who)
		b.WriteString(strconv.FormatBool(ok))
		for _, e := range l {
			b.WriteString(" " + strconv.Itoa(int(e.Uid)) + e.Flags.String())
		}
		b.WriteString("\n")
	}
	for box := range maxBoxes {
		b.WriteString(strconv.Itoa(int(m.Next(box))))
		for _, rec := range m.Recs(box) {
			b.WriteString(" " + strconv.Itoa(int(rec.Uid)) + rec.Flags.String() + strconv.Quote(rec.Text))
		}
		b.WriteString("\n")
	}
	return b.String()
}

// holdList holds a session's list.
func holdList(t *testing.T, m *model.Model, who int, want ...list.Entry) {
	t.Helper()
	if got, ok := m.List(who); !ok || !slices.Equal(got, want) {
		t.Fatalf("P18.1: the list of %d: %v %v, not %v", who, got, ok, want)
	}
}

// holdNoList holds that a session has selected none.
func holdNoList(t *testing.T, m *model.Model, who int) {
	t.Helper()
	if got, ok := m.List(who); ok || len(got) != 0 {
		t.Fatalf("P18.1: the list of %d: %v %v, not nothing", who, got, ok)
	}
}

// greeted is what is told ahead of the fetches, when a box is selected.
func greeted(exists, valid, next string) []string {
	return []string{
		`* FLAGS (\Answered \Flagged \Deleted \Seen \Draft)`,
		"* " + exists + " EXISTS",
		"* 0 RECENT",
		"* OK [UIDVALIDITY " + valid + "] valid",
		"* OK [UIDNEXT " + next + "] next",
	}
}

func TestNew(t *testing.T) {
	for _, sessions := range []int{math.MinInt, -1, 0, 1, 2, maxSessions, maxSessions + 1, math.MaxInt} {
		for n := range maxBoxes + 3 {
			m, err := model.New(sessions, boxes(n)...)
			if sessions < 1 || sessions > maxSessions || n < 1 || n > maxBoxes {
				if m != nil || err != api.ErrArg {
					t.Errorf("P18.1: %d sessions, %d boxes: %v, error %d, not nothing, %d", sessions, n, m, err, api.ErrArg)
				}
				continue
			}
			if m == nil || err != api.OK {
				t.Fatalf("P18.1: %d sessions, %d boxes: error %d", sessions, n, err)
			}
			for _, who := range []int{math.MinInt, -1, 0, 1, sessions - 1, sessions, math.MaxInt} {
				holdNoList(t, m, who)
				if want := who >= 0 && who < sessions; m.Has(who) != want {
					t.Errorf("P18.2: the session %d of %d: %v", who, sessions, m.Has(who))
				}
			}
			for _, box := range []int{math.MinInt, -1, 0, n - 1, n, math.MaxInt} {
				want := uint32(0)
				if box >= 0 && box < n {
					want = 1
				}
				if len(m.Recs(box)) != 0 || m.Next(box) != want {
					t.Errorf("P18.2: the box %d of %d: %v, Next %d", box, n, m.Recs(box), m.Next(box))
				}
			}
		}
	}
}

func TestNewBoxes(t *testing.T) {
	for _, c := range []struct {
		l  []model.Box
		ok bool
	}{
		{[]model.Box{{Name: "", Next: 1}}, true},
		{[]model.Box{{Name: "x", Next: math.MaxUint32, Valid: math.MaxUint32}}, true},
		{[]model.Box{{Name: "x"}}, false},
		{[]model.Box{{Name: "x", Valid: 7}}, false},
		{[]model.Box{{Name: "x", Next: 1}, {Name: "y"}}, false},
		{[]model.Box{{Name: "x", Next: 1}, {Name: "y", Next: 2}, {Name: "z", Next: 3}, {Name: "X", Next: 4}}, true},
		{[]model.Box{{Name: "x", Next: 1}, {Name: "X", Next: 1}}, true},
		{[]model.Box{{Name: "x", Next: 1}, {Name: "x ", Next: 1}}, true},
		{[]model.Box{{Name: "x", Next: 1}, {Name: "x", Next: 1}}, false},
		{[]model.Box{{Name: "x", Next: 1, Valid: 1}, {Name: "x", Next: 2, Valid: 2}}, false},
		{[]model.Box{{Name: "x", Next: 1}, {Name: "y", Next: 1}, {Name: "x", Next: 1}}, false},
		{[]model.Box{{Name: "", Next: 1}, {Name: "y", Next: 1}, {Name: "z", Next: 1}, {Name: "", Next: 1}}, false},
	} {
		m, err := model.New(1, c.l...)
		if c.ok && (m == nil || err != api.OK) || !c.ok && (m != nil || err != api.ErrArg) {
			t.Errorf("P18.1: %v: %v, error %d", c.l, m, err)
		}
	}
}

// A model does not keep the boxes that it was handed.
func TestNewApart(t *testing.T) {
	l := boxes(2)
	m := made(t, 1, l...)
	clear(l)
	hold(t, m, 0, "a SELECT x1", append(greeted("0", "7", "1"), "a OK [READ-WRITE] done")...)
}

// What can't be done changes nothing.
func TestDoWrong(t *testing.T) {
	m := small(t)
	put(t, m, 0, "x", "()", "one")
	told(t, m, 0, "a SELECT x", api.OK)
	put(t, m, 1, "x", "(\\Deleted)", "two")
	before := all(m)
	check := func(who int, c command.Command, limit api.Errno) {
		t.Helper()
		if lines, err := m.Do(who, c, limit); err != api.ErrArg || len(lines) != 0 {
			t.Errorf("P18.1: the session %d, %+v, limit %d: %v, error %d, not nothing, %d", who, c, limit, lines, err, api.ErrArg)
		}
		if now := all(m); now != before {
			t.Fatalf("P18.1: the session %d, %+v, limit %d changed it from\n%sto\n%s", who, c, limit, before, now)
		}
	}
	for _, text := range []string{"a SELECT y", "a NOOP", "a APPEND x {1}\r\nx", "a STORE 1 FLAGS (\\Seen)", "a FETCH 1 UID", "a SEARCH ALL", "a EXPUNGE", "a COPY 1 x", "a UNSELECT"} {
		c := parse(t, text)
		for _, who := range []int{math.MinInt, -1, 2, maxSessions, math.MaxInt} {
			check(who, c, api.OK)
		}
		for limit := api.Errno(-2); limit < 20; limit++ {
			if limit != api.OK && limit != api.ErrFull && limit != api.ErrBusy {
				check(0, c, limit)
			}
		}
		check(0, c, math.MaxInt)
		check(0, c, math.MinInt)
		for _, tag := range []string{"", "*", "a b", "a+", "a\r\n"} {
			wrong := c
			wrong.Tag = tag
			check(0, wrong, api.OK)
		}
	}
	for _, c := range []command.Command{
		{},
		{Tag: "a", Kind: -1},
		{Tag: "a", Kind: 9},
		{Tag: "a", Kind: math.MaxInt},
		{Tag: "a", Kind: command.Noop, Name: "x"},
		{Tag: "a", Kind: command.Expunge, ByUid: true},
		{Tag: "a", Kind: command.Append, Name: "x", Flags: 32},
		{Tag: "a", Kind: command.Store},
		{Tag: "a", Kind: command.Fetch, Items: 1},
		{Tag: "a", Kind: command.Search, Key: search.Key{Kind: search.Not}},
		{Tag: "a", Kind: command.Copy, Name: "y"},
	} {
		check(0, c, api.OK)
	}
}

// In a session that has not selected one that comes ahead of all else.
func TestState(t *testing.T) {
	m := small(t)
	put(t, m, 0, "x", "(\\Deleted)", "one")
	before := all(m)
	for _, text := range []string{"a STORE 1 FLAGS ()", "a STORE 9 FLAGS.SILENT ()", "a UID STORE 1 FLAGS ()", "a FETCH 1 UID", "a FETCH 9 UID", "a UID FETCH 9 FLAGS", "a SEARCH ALL", "a UID SEARCH ALL", "a EXPUNGE", "a COPY 1 y", "a COPY 9 none", "a UID COPY 1 none", "a UNSELECT"} {
		for _, limit := range []api.Errno{api.OK, api.ErrFull, api.ErrBusy} {
			for who := range 2 {
				holdLimited(t, m, who, text, limit, "a BAD state")
			}
		}
	}
	if now := all(m); now != before {
		t.Errorf("P18.1: it was changed from\n%sto\n%s", before, now)
	}
	// The other session's box counts for nothing.
	told(t, m, 1, "a SELECT x", api.OK)
	hold(t, m, 0, "a UNSELECT", "a BAD state")
	hold(t, m, 1, "a UNSELECT", "a OK done")
	hold(t, m, 1, "a UNSELECT", "a BAD state")
	hold(t, m, 1, "a EXPUNGE", "a BAD state")
}

func TestSelect(t *testing.T) {
	m := made(t, 2, model.Box{Name: "x", Next: 1, Valid: 7}, model.Box{Name: "my box", Next: 4294967290, Valid: math.MaxUint32})
	hold(t, m, 0, "a SELECT x", append(greeted("0", "7", "1"), "a OK [READ-WRITE] done")...)
	holdList(t, m, 0)
	holdNoList(t, m, 1)
	put(t, m, 1, "x", "()", "one")
	put(t, m, 1, "x", "(\\Seen \\Draft)", "two")
	whole := append(greeted("2", "7", "3"), "* 1 FETCH (UID 1 FLAGS ())", "* 2 FETCH (UID 2 FLAGS (\\Seen \\Draft))", "b OK [READ-WRITE] done")
	// Of the same box it is as if nothing were known, also a second time.
	for range 2 {
		hold(t, m, 0, "b SELECT x", whole...)
		holdList(t, m, 0, list.Entry{Uid: 1}, list.Entry{Uid: 2, Flags: flags.Seen | flags.Draft})
	}
	hold(t, m, 1, "b SELECT x", whole...)
	hold(t, m, 1, "c select \"my box\"", append(greeted("0", "4294967295", "4294967290"), "c OK [READ-WRITE] done")...)
	holdList(t, m, 1)
	for _, name := range []string{"y", "X", "x0", `""`, `"x "`, "{0}\r\n", `"MY BOX"`} {
		told(t, m, 0, "b SELECT x", api.OK)
		hold(t, m, 0, "d SELECT "+name, "d NO none")
		holdNoList(t, m, 0)
		hold(t, m, 0, "e EXPUNGE", "e BAD state")
		hold(t, m, 0, "e NOOP", "e OK done")
	}
	for _, limit := range []api.Errno{api.ErrFull, api.ErrBusy} {
		holdLimited(t, m, 0, "d SELECT z", limit, "d NO none")
		holdLimited(t, m, 0, "b SELECT x", limit, whole...)
	}
}

// What is seen of a box that is selected anew is what it has then, not what was known.
func TestSelectAnew(t *testing.T) {
	m := small(t)
	told(t, m, 0, "a SELECT x", api.OK)
	put(t, m, 0, "x", "(\\Deleted)", "one", "two")
	told(t, m, 1, "a SELECT x", api.OK)
	told(t, m, 1, "a STORE 2 -FLAGS (\\Deleted)", api.OK)
	told(t, m, 1, "a EXPUNGE", api.OK)
	hold(t, m, 0, "a SELECT x", append(greeted("1", "7", "3"), "* 1 FETCH (UID 2 FLAGS ())", "a OK [READ-WRITE] done")...)
	hold(t, m, 0, "a FETCH 1 BODY.PEEK[]", "* 1 FETCH (BODY[] {3}\r\ntwo)", "a OK done")
	hold(t, m, 0, "a SELECT y", append(greeted("0", "8", "30"), "a OK [READ-WRITE] done")...)
	hold(t, m, 0, "a UID FETCH 1:* UID", "a OK done")
}

func TestNoop(t *testing.T) {
	m := small(t)
	hold(t, m, 0, "a NOOP", "a OK done")
	holdNoList(t, m, 0)
	told(t, m, 0, "a SELECT x", api.OK)
	hold(t, m, 0, "a NOOP", "a OK done")
	put(t, m, 1, "x", "()", "one", "two", "three")
	holdList(t, m, 0)
	hold(t, m, 0, "a NOOP", "* 3 EXISTS", "* 1 FETCH (UID 1 FLAGS ())", "* 2 FETCH (UID 2 FLAGS ())", "* 3 FETCH (UID 3 FLAGS ())", "a OK done")
	holdList(t, m, 0, list.Entry{Uid: 1}, list.Entry{Uid: 2}, list.Entry{Uid: 3})
	told(t, m, 1, "a SELECT x", api.OK)
	told(t, m, 1, "a STORE 1,3 FLAGS (\\Deleted)", api.OK)
	told(t, m, 1, "a EXPUNGE", api.OK)
	told(t, m, 1, "a STORE 1 FLAGS (\\Seen)", api.OK)
	put(t, m, 1, "x", "(\\Draft)", "four")
	for _, limit := range []api.Errno{api.ErrFull, api.ErrBusy} {
		hold(t, m, 1, "a NOOP", "a OK done")
		holdLimited(t, m, 1, "a NOOP", limit, "a OK done")
	}
	holdList(t, m, 0, list.Entry{Uid: 1}, list.Entry{Uid: 2}, list.Entry{Uid: 3})
	holdLimited(t, m, 0, "a NOOP", api.ErrFull, "* 3 EXPUNGE", "* 1 EXPUNGE", "* 2 EXISTS", "* 1 FETCH (UID 2 FLAGS (\\Seen))", "* 2 FETCH (UID 4 FLAGS (\\Draft))", "a OK done")
	holdList(t, m, 0, list.Entry{Uid: 2, Flags: flags.Seen}, list.Entry{Uid: 4, Flags: flags.Draft})
	hold(t, m, 0, "a NOOP", "a OK done")
	// Of another box nothing is told.
	put(t, m, 1, "y", "()", "one")
	hold(t, m, 0, "a NOOP", "a OK done")
}

func TestUnselect(t *testing.T) {
	m := small(t)
	told(t, m, 0, "a SELECT x", api.OK)
	told(t, m, 1, "a SELECT x", api.OK)
	put(t, m, 0, "x", "(\\Deleted)", "one")
	// It neither looks, nor takes anything away.
	holdLimited(t, m, 1, "a UNSELECT", api.ErrFull, "a OK done")
	holdNoList(t, m, 1)
	holdList(t, m, 0, list.Entry{Uid: 1, Flags: flags.Deleted})
	hold(t, m, 0, "a UNSELECT", "a OK done")
	if len(m.Recs(0)) != 1 {
		t.Errorf("P18.1: %v", m.Recs(0))
	}
}

func TestAppend(t *testing.T) {
	m := small(t)
	hold(t, m, 0, "a APPEND x (\\Seen) {3}\r\none", "a OK [APPENDUID 7 1] done")
	hold(t, m, 0, "a APPEND y {0}\r\n", "a OK [APPENDUID 8 30] done")
	if want := []tree.Rec{{Uid: 1, Flags: flags.Seen, Text: "one"}}; !slices.Equal(m.Recs(0), want) || m.Next(0) != 2 {
		t.Errorf("P18.2: %v, Next %d", m.Recs(0), m.Next(0))
	}
	if want := []tree.Rec{{Uid: 30}}; !slices.Equal(m.Recs(1), want) || m.Next(1) != 31 {
		t.Errorf("P18.2: %v, Next %d", m.Recs(1), m.Next(1))
	}
	holdNoList(t, m, 0)
	told(t, m, 0, "a SELECT x", api.OK)
	told(t, m, 1, "a SELECT y", api.OK)
	// It looks, if that box is the selected one, at all that others did, too.
	hold(t, m, 1, "a APPEND x {3}\r\ntwo", "a OK [APPENDUID 7 2] done")
	holdList(t, m, 1, list.Entry{Uid: 30})
	holdList(t, m, 0, list.Entry{Uid: 1, Flags: flags.Seen})
	hold(t, m, 0, "a APPEND x (\\Draft) {5}\r\nthree", "* 3 EXISTS", "* 2 FETCH (UID 2 FLAGS ())", "* 3 FETCH (UID 3 FLAGS (\\Draft))", "a OK [APPENDUID 7 3] done")
	// And not, if it is another one.
	put(t, m, 1, "x", "()", "four")
	hold(t, m, 0, "a APPEND y {3}\r\none", "a OK [APPENDUID 8 31] done")
	hold(t, m, 0, "a NOOP", "* 4 EXISTS", "* 4 FETCH (UID 4 FLAGS ())", "a OK done")
	for _, name := range []string{"z", "X", `""`} {
		for _, limit := range []api.Errno{api.OK, api.ErrFull, api.ErrBusy} {
			put(t, m, 1, "x", "()", "five")
			before := all(m)
			holdLimited(t, m, 0, "a APPEND "+name+" {3}\r\none", limit, "a NO [TRYCREATE] none")
			if now := all(m); now != before {
				t.Errorf("P18.1: it was changed from\n%sto\n%s", before, now)
			}
		}
	}
}

// A number is given just once, also when its message is gone.
func TestAppendNumbers(t *testing.T) {
	m := small(t)
	told(t, m, 0, "a SELECT x", api.OK)
	for i := 1; i < 20; i++ {
		n := strconv.Itoa(i)
		hold(t, m, 0, "a APPEND x (\\Deleted) {1}\r\nx", "* 1 EXISTS", "* 1 FETCH (UID "+n+" FLAGS (\\Deleted))", "a OK [APPENDUID 7 "+n+"] done")
		hold(t, m, 0, "a EXPUNGE", "* 1 EXPUNGE", "a OK done")
	}
	if m.Next(0) != 20 {
		t.Errorf("P18.2: Next is %d, not 20", m.Next(0))
	}
}

func TestStore(t *testing.T) {
	m := small(t)
	put(t, m, 0, "x", "(\\Seen)", "one", "two", "three", "four")
	told(t, m, 0, "a SELECT x", api.OK)
	told(t, m, 1, "a SELECT x", api.OK)
	hold(t, m, 0, "a STORE 2 +FLAGS (\\Draft)", "* 2 FETCH (FLAGS (\\Seen \\Draft))", "a OK done")
	hold(t, m, 0, "a STORE *,1 FLAGS (\\Flagged)", "* 1 FETCH (FLAGS (\\Flagged))", "* 4 FETCH (FLAGS (\\Flagged))", "a OK done")
	hold(t, m, 0, "a STORE 2 -FLAGS (\\Seen \\Answered)", "* 2 FETCH (FLAGS (\\Draft))", "a OK done")
	hold(t, m, 0, "a STORE 3 FLAGS ()", "* 3 FETCH (FLAGS ())", "a OK done")
	// Also where nothing is changed.
	hold(t, m, 0, "a STORE 3 FLAGS ()", "* 3 FETCH (FLAGS ())", "a OK done")
	holdList(t, m, 0, list.Entry{Uid: 1, Flags: flags.Flagged}, list.Entry{Uid: 2, Flags: flags.Draft}, list.Entry{Uid: 3}, list.Entry{Uid: 4, Flags: flags.Flagged})
	hold(t, m, 0, "a NOOP", "a OK done")
	for _, text := range []string{"a STORE 5 FLAGS ()", "a STORE 1:5 +FLAGS (\\Seen)", "a STORE 1,5 FLAGS.SILENT ()", "a STORE 0:4294967295 FLAGS ()"} {
		before := all(m)
		for _, limit := range []api.Errno{api.OK, api.ErrFull, api.ErrBusy} {
			if c, err := command.Parse(text); err == api.OK {
				holdLimited(t, m, 0, c.String(), limit, "a BAD set")
			}
		}
		if now := all(m); now != before {
			t.Errorf("P18.1: it was changed from\n%sto\n%s", before, now)
		}
	}
	// The other session knows what it looked at; what it changes is what is there.
	holdList(t, m, 1, list.Entry{Uid: 1, Flags: flags.Seen}, list.Entry{Uid: 2, Flags: flags.Seen}, list.Entry{Uid: 3, Flags: flags.Seen}, list.Entry{Uid: 4, Flags: flags.Seen})
	hold(t, m, 1, "a STORE 2 +FLAGS (\\Answered)", "* 2 FETCH (FLAGS (\\Answered \\Draft))", "a OK done")
	holdList(t, m, 1, list.Entry{Uid: 1, Flags: flags.Seen}, list.Entry{Uid: 2, Flags: flags.Answered | flags.Draft}, list.Entry{Uid: 3, Flags: flags.Seen}, list.Entry{Uid: 4, Flags: flags.Seen})
	hold(t, m, 1, "a NOOP", "* 1 FETCH (UID 1 FLAGS (\\Flagged))", "* 3 FETCH (UID 3 FLAGS ())", "* 4 FETCH (UID 4 FLAGS (\\Flagged))", "a OK done")
}

// Of an empty list no sequence number is within it.
func TestEmptyList(t *testing.T) {
	m := small(t)
	told(t, m, 0, "a SELECT x", api.OK)
	for _, set := range []string{"1", "*", "1:*", "*:*", "4294967295"} {
		hold(t, m, 0, "a STORE "+set+" FLAGS ()", "a BAD set")
		hold(t, m, 0, "a FETCH "+set+" UID", "a BAD set")
		hold(t, m, 0, "a COPY "+set+" y", "a BAD set")
		hold(t, m, 0, "a COPY "+set+" none", "a BAD set")
		hold(t, m, 0, "a SEARCH "+set, "* SEARCH", "a OK done")
		hold(t, m, 0, "a UID STORE "+set+" FLAGS ()", "a OK done")
		hold(t, m, 0, "a UID FETCH "+set+" UID", "a OK done")
		hold(t, m, 0, "a UID COPY "+set+" y", "a OK done")
		hold(t, m, 0, "a UID SEARCH UID "+set, "* SEARCH", "a OK done")
	}
}

func TestStoreSilent(t *testing.T) {
	m := small(t)
	put(t, m, 0, "x", "()", "one", "two")
	told(t, m, 0, "a SELECT x", api.OK)
	put(t, m, 1, "x", "()", "three")
	// Nothing is told, and the list is as it was; the next NOOP tells the flags.
	hold(t, m, 0, "a STORE 1 FLAGS.SILENT (\\Seen)", "a OK done")
	holdList(t, m, 0, list.Entry{Uid: 1}, list.Entry{Uid: 2})
	hold(t, m, 0, "a FETCH 1 FLAGS", "* 1 FETCH (FLAGS ())", "a OK done")
	// By numbers neither.
	hold(t, m, 0, "a UID STORE 1:* +FLAGS.SILENT (\\Draft)", "a OK done")
	holdList(t, m, 0, list.Entry{Uid: 1}, list.Entry{Uid: 2})
	hold(t, m, 0, "a NOOP", "* 3 EXISTS", "* 1 FETCH (UID 1 FLAGS (\\Seen \\Draft))", "* 2 FETCH (UID 2 FLAGS (\\Draft))", "* 3 FETCH (UID 3 FLAGS ())", "a OK done")
	hold(t, m, 0, "a STORE 1:3 -FLAGS.SILENT (\\Seen \\Draft)", "a OK done")
	hold(t, m, 0, "a NOOP", "* 1 FETCH (UID 1 FLAGS ())", "* 2 FETCH (UID 2 FLAGS ())", "a OK done")
}

func TestStoreByNumbers(t *testing.T) {
	m := made(t, 2, model.Box{Name: "x", Next: 10, Valid: 7})
	put(t, m, 0, "x", "()", "one", "two", "three", "four")
	told(t, m, 0, "a SELECT x", api.OK)
	told(t, m, 1, "a SELECT x", api.OK)
	told(t, m, 1, "a STORE 1,3 FLAGS (\\Deleted)", api.OK)
	told(t, m, 1, "a EXPUNGE", api.OK)
	told(t, m, 1, "a STORE 2 FLAGS (\\Answered)", api.OK)
	put(t, m, 1, "x", "(\\Draft)", "five")
	// First those that are meant and still there, as the list has them; then it looks.
	hold(t, m, 0, "a UID STORE 10:11 +FLAGS (\\Seen)", "* 2 FETCH (UID 11 FLAGS (\\Seen))",
		"* 3 EXPUNGE", "* 1 EXPUNGE", "* 3 EXISTS", "* 2 FETCH (UID 13 FLAGS (\\Answered))", "* 3 FETCH (UID 14 FLAGS (\\Draft))", "a OK done")
	holdList(t, m, 0, list.Entry{Uid: 11, Flags: flags.Seen}, list.Entry{Uid: 13, Flags: flags.Answered}, list.Entry{Uid: 14, Flags: flags.Draft})
	// Of numbers that are not there none is meant; the last one stands for the list's.
	hold(t, m, 0, "a UID STORE 1:10,12,15:99 FLAGS ()", "a OK done")
	hold(t, m, 0, "a UID STORE 99:* FLAGS ()", "* 3 FETCH (UID 14 FLAGS ())", "a OK done")
	hold(t, m, 0, "a UID STORE 4294967295 FLAGS ()", "a OK done")
	hold(t, m, 0, "a UID STORE 1:* FLAGS ()", "* 1 FETCH (UID 11 FLAGS ())", "* 2 FETCH (UID 13 FLAGS ())", "* 3 FETCH (UID 14 FLAGS ())", "a OK done")
	// It looks also where none is meant.
	put(t, m, 1, "x", "()", "six")
	hold(t, m, 0, "a UID STORE 1 FLAGS ()", "* 4 EXISTS", "* 4 FETCH (UID 15 FLAGS ())", "a OK done")
}

// What the box has no more is not told, and not changed; without numbers it does not look.
func TestStoreGone(t *testing.T) {
	m := small(t)
	put(t, m, 0, "x", "()", "one", "two", "three")
	told(t, m, 0, "a SELECT x", api.OK)
	told(t, m, 1, "a SELECT x", api.OK)
	told(t, m, 1, "a STORE 1,3 FLAGS (\\Deleted)", api.OK)
	told(t, m, 1, "a EXPUNGE", api.OK)
	put(t, m, 1, "x", "()", "four")
	hold(t, m, 0, "a STORE 1:* FLAGS (\\Seen)", "* 2 FETCH (FLAGS (\\Seen))", "a OK done")
	holdList(t, m, 0, list.Entry{Uid: 1}, list.Entry{Uid: 2, Flags: flags.Seen}, list.Entry{Uid: 3})
	// Of those alone nothing is changed, so the limit counts for nothing.
	holdLimited(t, m, 0, "a STORE 1,3 FLAGS (\\Draft)", api.ErrFull, "a OK done")
	hold(t, m, 0, "a NOOP", "* 3 EXPUNGE", "* 1 EXPUNGE", "* 2 EXISTS", "* 2 FETCH (UID 4 FLAGS ())", "a OK done")
	if want := []tree.Rec{{Uid: 2, Flags: flags.Seen, Text: "two"}, {Uid: 4, Text: "four"}}; !slices.Equal(m.Recs(0), want) {
		t.Errorf("P18.2: %v, not %v", m.Recs(0), want)
	}
}

func TestFetch(t *testing.T) {
	m := made(t, 2, model.Box{Name: "x", Next: 5, Valid: 7})
	put(t, m, 0, "x", "(\\Seen)", "hello", "")
	told(t, m, 0, "a SELECT x", api.OK)
	put(t, m, 1, "x", "()", "\r\n)")
	hold(t, m, 0, "a FETCH 1 UID", "* 1 FETCH (UID 5)", "a OK done")
	hold(t, m, 0, "a FETCH 1 FLAGS", "* 1 FETCH (FLAGS (\\Seen))", "a OK done")
	hold(t, m, 0, "a FETCH 1 RFC822.SIZE", "* 1 FETCH (RFC822.SIZE 5)", "a OK done")
	hold(t, m, 0, "a FETCH 1 BODY.PEEK[]", "* 1 FETCH (BODY[] {5}\r\nhello)", "a OK done")
	hold(t, m, 0, "a FETCH 2,1 (BODY.PEEK[] UID FLAGS RFC822.SIZE)", "* 1 FETCH (UID 5 FLAGS (\\Seen) RFC822.SIZE 5 BODY[] {5}\r\nhello)", "* 2 FETCH (UID 6 FLAGS (\\Seen) RFC822.SIZE 0 BODY[] {0}\r\n)", "a OK done")
	hold(t, m, 0, "a FETCH * UID", "* 2 FETCH (UID 6)", "a OK done")
	hold(t, m, 0, "a FETCH *:1,2,1:2 UID", "* 1 FETCH (UID 5)", "* 2 FETCH (UID 6)", "a OK done")
	// Without numbers it does not look; and BAD comes alone.
	for _, set := range []string{"3", "1:3", "1,3", "3:*", "4294967295"} {
		for _, limit := range []api.Errno{api.OK, api.ErrFull, api.ErrBusy} {
			holdLimited(t, m, 0, "a FETCH "+set+" UID", limit, "a BAD set")
		}
	}
	holdList(t, m, 0, list.Entry{Uid: 5, Flags: flags.Seen}, list.Entry{Uid: 6, Flags: flags.Seen})
	// By numbers it looks first, and then finds what it found; the number is always told.
	hold(t, m, 0, "a UID FETCH 7 RFC822.SIZE", "* 3 EXISTS", "* 3 FETCH (UID 7 FLAGS ())", "* 3 FETCH (UID 7 RFC822.SIZE 3)", "a OK done")
	hold(t, m, 0, "a UID FETCH 7,5 BODY.PEEK[]", "* 1 FETCH (UID 5 BODY[] {5}\r\nhello)", "* 3 FETCH (UID 7 BODY[] {3}\r\n\r\n))", "a OK done")
	hold(t, m, 0, "a UID FETCH 6:* UID", "* 2 FETCH (UID 6)", "* 3 FETCH (UID 7)", "a OK done")
	hold(t, m, 0, "a UID FETCH 9:* FLAGS", "* 3 FETCH (UID 7 FLAGS ())", "a OK done")
	hold(t, m, 0, "a UID FETCH 9 FLAGS", "a OK done")
	hold(t, m, 0, "a UID FETCH 1:4,8 FLAGS", "a OK done")
	holdLimited(t, m, 0, "a UID FETCH 5 FLAGS", api.ErrBusy, "* 1 FETCH (UID 5 FLAGS (\\Seen))", "a OK done")
}

// What was looked at is told as it was, till the session looks.
func TestFetchView(t *testing.T) {
	m := small(t)
	put(t, m, 0, "x", "()", "one", "two", "three")
	told(t, m, 0, "a SELECT x", api.OK)
	told(t, m, 1, "a SELECT x", api.OK)
	told(t, m, 1, "a STORE 1:2 FLAGS (\\Deleted)", api.OK)
	told(t, m, 1, "a STORE 3 FLAGS (\\Draft)", api.OK)
	told(t, m, 1, "a EXPUNGE", api.OK)
	hold(t, m, 0, "a FETCH 1:* (FLAGS BODY.PEEK[])", "* 1 FETCH (FLAGS () BODY[] {3}\r\none)", "* 2 FETCH (FLAGS () BODY[] {3}\r\ntwo)", "* 3 FETCH (FLAGS () BODY[] {5}\r\nthree)", "a OK done")
	hold(t, m, 0, "a UID FETCH 1:2 BODY.PEEK[]", "* 2 EXPUNGE", "* 1 EXPUNGE", "* 1 FETCH (UID 3 FLAGS (\\Draft))", "a OK done")
	hold(t, m, 0, "a FETCH 1 BODY.PEEK[]", "* 1 FETCH (BODY[] {5}\r\nthree)", "a OK done")
	// Its own STORE changes what it knows, by which the FETCH tells.
	told(t, m, 0, "a STORE 1 FLAGS (\\Seen)", api.OK)
	hold(t, m, 0, "a FETCH 1 (FLAGS BODY.PEEK[])", "* 1 FETCH (FLAGS (\\Seen) BODY[] {5}\r\nthree)", "a OK done")
}

func TestSearch(t *testing.T) {
	m := made(t, 2, model.Box{Name: "x", Next: 10, Valid: 7})
	put(t, m, 0, "x", "(\\Seen)", "hello")
	put(t, m, 0, "x", "(\\Draft)", "hell")
	put(t, m, 0, "x", "()", "")
	told(t, m, 0, "a SELECT x", api.OK)
	put(t, m, 1, "x", "(\\Seen)", "HELLO all")
	for _, c := range []struct{ key, seqs string }{
		{"ALL", " 1 2 3"}, {"SEEN", " 1"}, {"UNSEEN", " 2 3"}, {"DELETED", ""}, {"1:2", " 1 2"}, {"*", " 3"}, {"9", ""}, {"9:*", " 3"}, {"UID 10:11", " 1 2"}, {"UID *", " 3"}, {"UID 1:3", ""},
		{"LARGER 4", " 1"}, {"SMALLER 4", " 3"}, {"BODY hELL", " 1 2"}, {"NOT BODY hELL", " 3"}, {"OR SEEN DRAFT", " 1 2"}, {"SEEN DRAFT", ""}, {"UNSEEN UNDRAFT", " 3"}, {"13", ""}, {"UID 13", ""},
	} {
		hold(t, m, 0, "a SEARCH "+c.key, "* SEARCH"+c.seqs, "a OK done")
		holdLimited(t, m, 0, "a SEARCH "+c.key, api.ErrFull, "* SEARCH"+c.seqs, "a OK done")
	}
	holdList(t, m, 0, list.Entry{Uid: 10, Flags: flags.Seen}, list.Entry{Uid: 11, Flags: flags.Draft}, list.Entry{Uid: 12})
	// By numbers it looks first, and tells numbers.
	hold(t, m, 0, "a UID SEARCH BODY hell", "* 4 EXISTS", "* 4 FETCH (UID 13 FLAGS (\\Seen))", "* SEARCH 10 11 13", "a OK done")
	hold(t, m, 0, "a UID SEARCH 2:3", "* SEARCH 11 12", "a OK done")
	hold(t, m, 0, "a UID SEARCH UID 12:*", "* SEARCH 12 13", "a OK done")
	hold(t, m, 0, "a UID SEARCH DELETED", "* SEARCH", "a OK done")
	hold(t, m, 0, "a SEARCH *", "* SEARCH 4", "a OK done")
}

// What is searched is what was looked at.
func TestSearchView(t *testing.T) {
	m := small(t)
	put(t, m, 0, "x", "(\\Seen)", "one", "two")
	told(t, m, 0, "a SELECT x", api.OK)
	told(t, m, 1, "a SELECT x", api.OK)
	told(t, m, 1, "a STORE 1 FLAGS (\\Deleted)", api.OK)
	told(t, m, 1, "a EXPUNGE", api.OK)
	told(t, m, 1, "a STORE 1 FLAGS (\\Draft)", api.OK)
	hold(t, m, 0, "a SEARCH SEEN BODY o", "* SEARCH 1 2", "a OK done")
	hold(t, m, 0, "a SEARCH DRAFT", "* SEARCH", "a OK done")
	told(t, m, 0, "a STORE 1:2 +FLAGS (\\Flagged)", api.OK)
	hold(t, m, 0, "a SEARCH FLAGGED", "* SEARCH 2", "a OK done")
	hold(t, m, 0, "a SEARCH DRAFT", "* SEARCH 2", "a OK done")
	hold(t, m, 0, "a UID SEARCH DRAFT", "* 1 EXPUNGE", "* SEARCH 2", "a OK done")
}

func TestExpunge(t *testing.T) {
	m := small(t)
	put(t, m, 0, "x", "()", "one", "two", "three", "four")
	told(t, m, 0, "a SELECT x", api.OK)
	told(t, m, 1, "a SELECT x", api.OK)
	hold(t, m, 0, "a EXPUNGE", "a OK done")
	// By the flags that the box has, also where the list has others.
	told(t, m, 1, "a STORE 2,4 +FLAGS (\\Deleted \\Seen)", api.OK)
	put(t, m, 1, "x", "(\\Deleted)", "five")
	put(t, m, 1, "x", "(\\Draft)", "six")
	hold(t, m, 0, "a EXPUNGE", "* 4 EXPUNGE", "* 2 EXPUNGE", "* 3 EXISTS", "* 3 FETCH (UID 6 FLAGS (\\Draft))", "a OK done")
	holdList(t, m, 0, list.Entry{Uid: 1}, list.Entry{Uid: 3}, list.Entry{Uid: 6, Flags: flags.Draft})
	if want := []tree.Rec{{Uid: 1, Text: "one"}, {Uid: 3, Text: "three"}, {Uid: 6, Flags: flags.Draft, Text: "six"}}; !slices.Equal(m.Recs(0), want) || m.Next(0) != 7 {
		t.Errorf("P18.2: %v, Next %d", m.Recs(0), m.Next(0))
	}
	// It looks also where none goes.
	told(t, m, 0, "a STORE 1 FLAGS (\\Answered)", api.OK)
	hold(t, m, 1, "a EXPUNGE", "* 5 EXPUNGE", "* 4 EXPUNGE", "* 2 EXPUNGE", "* 1 FETCH (UID 1 FLAGS (\\Answered))", "a OK done")
	told(t, m, 1, "a STORE 1:* FLAGS.SILENT (\\Deleted)", api.OK)
	hold(t, m, 1, "a EXPUNGE", "* 3 EXPUNGE", "* 2 EXPUNGE", "* 1 EXPUNGE", "a OK done")
	if len(m.Recs(0)) != 0 || m.Next(0) != 7 {
		t.Errorf("P18.2: %v, Next %d", m.Recs(0), m.Next(0))
	}
}

func TestCopy(t *testing.T) {
	m := small(t)
	put(t, m, 0, "x", "(\\Seen)", "one", "two", "three", "four")
	told(t, m, 0, "a SELECT x", api.OK)
	told(t, m, 1, "a SELECT y", api.OK)
	hold(t, m, 0, "a COPY 4,1:2 y", "a OK [COPYUID 8 1:2,4 30:32] done")
	if want := []tree.Rec{{Uid: 30, Flags: flags.Seen, Text: "one"}, {Uid: 31, Flags: flags.Seen, Text: "two"}, {Uid: 32, Flags: flags.Seen, Text: "four"}}; !slices.Equal(m.Recs(1), want) || m.Next(1) != 33 {
		t.Errorf("P18.2: %v, Next %d", m.Recs(1), m.Next(1))
	}
	holdList(t, m, 1)
	hold(t, m, 1, "a NOOP", "* 3 EXISTS", "* 1 FETCH (UID 30 FLAGS (\\Seen))", "* 2 FETCH (UID 31 FLAGS (\\Seen))", "* 3 FETCH (UID 32 FLAGS (\\Seen))", "a OK done")
	// Into the selected one, at which it looks then.
	put(t, m, 1, "x", "()", "five")
	hold(t, m, 0, "a COPY * x", "* 6 EXISTS", "* 5 FETCH (UID 5 FLAGS ())", "* 6 FETCH (UID 6 FLAGS (\\Seen))", "a OK [COPYUID 7 4 6] done")
	hold(t, m, 0, "a UID COPY 6:*,2 x", "* 8 EXISTS", "* 7 FETCH (UID 7 FLAGS (\\Seen))", "* 8 FETCH (UID 8 FLAGS (\\Seen))", "a OK [COPYUID 7 2,6 7:8] done")
	// None is meant: it looks all the same, if it is the selected one.
	put(t, m, 1, "x", "()", "six")
	hold(t, m, 0, "a UID COPY 99 y", "a OK done")
	hold(t, m, 0, "a UID COPY 99 x", "* 9 EXISTS", "* 9 FETCH (UID 9 FLAGS ())", "a OK done")
	// A box that there is not; the set comes ahead of it.
	for _, limit := range []api.Errno{api.OK, api.ErrFull, api.ErrBusy} {
		put(t, m, 1, "x", "()", "seven")
		before := all(m)
		holdLimited(t, m, 0, "a COPY 1 z", limit, "a NO [TRYCREATE] none")
		holdLimited(t, m, 0, "a UID COPY 1 Y", limit, "a NO [TRYCREATE] none")
		holdLimited(t, m, 0, "a UID COPY 99 z", limit, "a NO [TRYCREATE] none")
		holdLimited(t, m, 0, "a COPY 99 z", limit, "a BAD set")
		holdLimited(t, m, 0, "a COPY 99 y", limit, "a BAD set")
		holdLimited(t, m, 0, "a COPY 1:99 x", limit, "a BAD set")
		if now := all(m); now != before {
			t.Errorf("P18.1: it was changed from\n%sto\n%s", before, now)
		}
	}
}

// What is copied is what was looked at, with the flags that the session knows.
func TestCopyView(t *testing.T) {
	m := small(t)
	put(t, m, 0, "x", "()", "one", "two")
	told(t, m, 0, "a SELECT x", api.OK)
	told(t, m, 1, "a SELECT x", api.OK)
	told(t, m, 1, "a STORE 2 FLAGS (\\Answered)", api.OK)
	told(t, m, 1, "a STORE 1 FLAGS (\\Deleted)", api.OK)
	told(t, m, 1, "a EXPUNGE", api.OK)
	hold(t, m, 0, "a COPY 1:2 y", "a OK [COPYUID 8 1:2 30:31] done")
	told(t, m, 0, "a STORE 2 +FLAGS.SILENT (\\Seen)", api.OK)
	hold(t, m, 0, "a UID COPY 2 y", "a OK [COPYUID 8 2 32] done")
	told(t, m, 0, "a STORE 2 +FLAGS (\\Draft)", api.OK)
	hold(t, m, 0, "a UID COPY 2 y", "a OK [COPYUID 8 2 33] done")
	want := []tree.Rec{{Uid: 30, Text: "one"}, {Uid: 31, Text: "two"}, {Uid: 32, Text: "two"}, {Uid: 33, Flags: flags.Answered | flags.Seen | flags.Draft, Text: "two"}}
	if !slices.Equal(m.Recs(1), want) {
		t.Errorf("P18.2: %v, not %v", m.Recs(1), want)
	}
	hold(t, m, 0, "a COPY 1 x", "* 1 EXPUNGE", "* 2 EXISTS", "* 2 FETCH (UID 3 FLAGS ())", "a OK [COPYUID 7 1 3] done")
}
