package server_test

import (
	"math"
	"slices"
	"strings"
	"testing"

	"postchaise/api"
	"postchaise/command"
	"postchaise/feed"
	"postchaise/server"
)

// The limits that the chapters name.
const (
	maxSessions = 8
	maxBoxes    = 4
	maxSlots    = 4096
	maxLine     = 8192
	maxLiteral  = 65536
)

// The kinds of pieces.
const (
	whole = iota
	goOn
	tooBig
	tooLong
)

// lineEnd is the end of a line.
const lineEnd = "\r\n"

// none are numbers that no session has.
var none = []int{-1, 3, 8, 1000, math.MinInt, math.MaxInt}

// small is a server of three sessions, and the boxes x and y.
func small(t *testing.T) *server.Server {
	t.Helper()
	return made(t, config(3, 200, "x", "y"))
}

// config is one with the Next 1, and the Valid 7.
func config(sessions, slots int, names ...string) server.Config {
	return server.Config{Sessions: sessions, Slots: slots, Names: names, Next: 1, Valid: 7}
}

// made is a server that can be.
func made(t *testing.T, c server.Config) *server.Server {
	t.Helper()
	s, err := server.New(c)
	if err != api.OK || s == nil {
		t.Fatalf("P20.1: New(%v): error %d", c, err)
	}
	return s
}

// send sends bytes of a client.
func send(t *testing.T, s *server.Server, who int, text string) {
	t.Helper()
	if err := s.Feed(who, []byte(text)); err != api.OK {
		t.Fatalf("P20.1: Feed(%d, %q): error %d", who, text, err)
	}
}

// rest lets all that came be done: how many rounds that takes.
func rest(t *testing.T, s *server.Server) int {
	t.Helper()
	rounds := s.Rest(100000)
	for who := range maxSessions {
		if !s.Idle(who) {
			t.Fatalf("P20.3: behind %d rounds %d is not idle", rounds, who)
		}
	}
	return rounds
}

// hold sends lines of a client, lets them be done, and holds what goes to its output by that.
func hold(t *testing.T, s *server.Server, who int, text string, want ...string) {
	t.Helper()
	was := s.Output(who)
	send(t, s, who, text+lineEnd)
	rest(t, s)
	if got := s.Output(who); got != was+strings.Join(want, lineEnd)+lineEnd {
		t.Fatalf("P20.1: %.100q:\n%.1000q\nnot\n%.1000q", text, got[len(was):], want)
	}
}

// selected is all that is told, when a box is selected.
func selected(tag, exists, next string, fetches ...string) []string {
	return slices.Concat([]string{
		`* FLAGS (\Answered \Flagged \Deleted \Seen \Draft)`,
		"* " + exists + " EXISTS",
		"* 0 RECENT",
		"* OK [UIDVALIDITY 7] valid",
		"* OK [UIDNEXT " + next + "] next",
	}, fetches, []string{tag + " OK [READ-WRITE] done"})
}

func TestNew(t *testing.T) {
	names := []string{"a", "b", "c", "d", "e"}
	for _, sessions := range []int{math.MinInt, -1, 0, 1, 3, maxSessions, maxSessions + 1, math.MaxInt} {
		for n := range names {
			for _, slots := range []int{math.MinInt, -1, 0, 1, n - 1, n, 100, maxSlots, maxSlots + 1, math.MaxInt} {
				for _, next := range []uint32{0, 1, math.MaxUint32} {
					s, err := server.New(server.Config{Sessions: sessions, Slots: slots, Names: names[:n], Next: next, Valid: 7})
					ok := sessions >= 1 && sessions <= maxSessions && n >= 1 && n <= maxBoxes && slots >= n && slots <= maxSlots && next > 0
					if ok != (err == api.OK) || ok != (s != nil) || !ok && err != api.ErrArg {
						t.Fatalf("P20.1: New of %d, %d, %d, %d: error %d", sessions, slots, n, next, err)
					}
					if s != nil {
						holdNew(t, s, sessions, n)
					}
				}
			}
		}
	}
	for _, names := range [][]string{nil, names, {"x", "x"}, {"", ""}, {"a", "b", "c", "b"}} {
		if s, err := server.New(config(2, 50, names...)); s != nil || err != api.ErrArg {
			t.Errorf("P20.1: New of %q: error %d", names, err)
		}
	}
	if s, err := server.New(config(2, 50, "x", "X", "")); s == nil || err != api.OK {
		t.Errorf("P20.1: New of three names: error %d", err)
	}
}

// holdNew holds a server in which nothing was done.
func holdNew(t *testing.T, s *server.Server, sessions, boxes int) {
	t.Helper()
	if s.Space() == nil || len(s.Space().Roots()) != boxes || len(s.Log()) != 0 {
		t.Fatalf("P20.1: a new server of %d sessions and %d boxes: %v, %v", sessions, boxes, s.Space(), s.Log())
	}
	for who := range maxSessions + 1 {
		one := s.Session(who)
		if (one != nil) != (who < sessions) || s.Output(who) != "" || !s.Idle(who) || s.Space().Pinned(who) {
			t.Fatalf("P20.1: %d of %d sessions: %v, %q", who, sessions, one, s.Output(who))
		}
		if one != nil {
			if l, ok := one.List(); ok || len(l) > 0 {
				t.Fatalf("P20.1: %d has %v", who, l)
			}
		}
	}
}

// Of sessions that there are not nothing is to be had, and nothing changes.
func TestNoSession(t *testing.T) {
	s := small(t)
	send(t, s, 0, "a NOOP\r\n")
	for _, who := range none {
		if err := s.Feed(who, []byte("a NOOP\r\n")); err != api.ErrNone {
			t.Errorf("P20.1: Feed(%d): error %d", who, err)
		}
		if s.Output(who) != "" || !s.Idle(who) || s.Session(who) != nil || s.Step(who) {
			t.Errorf("P20.1: the session %d: %q, %v, %v", who, s.Output(who), s.Idle(who), s.Session(who))
		}
	}
	if rounds := rest(t, s); rounds != 1 || s.Output(0) != "a OK done\r\n" || len(s.Log()) != 1 {
		t.Errorf("P20.2: %d rounds, %q", rounds, s.Output(0))
	}
	met := map[any]bool{}
	for who := range 3 {
		met[s.Session(who)] = true
		if s.Session(who) != s.Session(who) {
			t.Errorf("P20.1: the session %d is not always the same", who)
		}
	}
	if len(met) != 3 {
		t.Error("P20.1: two sessions are the same")
	}
}

// What was handed in may be changed, and what was handed out, too.
func TestApart(t *testing.T) {
	names := []string{"x", "y"}
	s := made(t, config(1, 50, names...))
	names[0], names[1] = "z", "z"
	b := []byte("a SELECT x\r\nb APPEND x {2}\r\nhi\r\nc FET")
	if err := s.Feed(0, b); err != api.OK {
		t.Fatalf("P20.1: error %d", err)
	}
	copy(b, strings.Repeat("?", len(b)))
	send(t, s, 0, "CH 1 BODY.PEEK[]\r\n")
	rest(t, s)
	want := strings.Join(selected("a", "0", "1"), lineEnd) + lineEnd + "+ go\r\n* 1 EXISTS\r\n* 1 FETCH (UID 1 FLAGS ())\r\nb OK [APPENDUID 7 1] done\r\n* 1 FETCH (BODY[] {2}\r\nhi)\r\nc OK done\r\n"
	if got := s.Output(0); got != want {
		t.Fatalf("R4: %q, not %q", got, want)
	}
	l := s.Log()
	was := slices.Clone(l)
	clear(l)
	_ = append(l[:0], server.Entry{Who: 9})
	if !slices.Equal(s.Log(), was) || len(was) != 3 {
		t.Errorf("R4: the log is %v, not %v", s.Log(), was)
	}
}

// TestPieces holds what is told of each kind of pieces, and noted in the log.
func TestPieces(t *testing.T) {
	long := "b1 NOOP" + strings.Repeat(" ", maxLine)
	for _, c := range []struct {
		text   string
		told   string
		pieces []feed.Piece
	}{
		{"a NOOP\r\n", "a OK done\r\n", []feed.Piece{{Text: "a NOOP"}}},
		{"a noop\r\nb nOOP\r\n", "a OK done\r\nb OK done\r\n", []feed.Piece{{Text: "a noop"}, {Text: "b nOOP"}}},
		{"a1 SLEEP\r\n", "a1 BAD form\r\n", []feed.Piece{{Text: "a1 SLEEP"}}},
		{"a1 NOOP \r\n", "a1 BAD form\r\n", []feed.Piece{{Text: "a1 NOOP "}}},
		{"NOOP\r\n", "* BAD form\r\n", []feed.Piece{{Text: "NOOP"}}},
		{"\r\n", "* BAD form\r\n", []feed.Piece{{}}},
		{" NOOP\r\n", "* BAD form\r\n", []feed.Piece{{Text: " NOOP"}}},
		{"a+ NOOP\r\n", "* BAD form\r\n", []feed.Piece{{Text: "a+ NOOP"}}},
		{"* NOOP\r\n", "* BAD form\r\n", []feed.Piece{{Text: "* NOOP"}}},
		{strings.Repeat("a", 61) + " NOOP\r\n", "* BAD form\r\n", []feed.Piece{{Text: strings.Repeat("a", 61) + " NOOP"}}},
		{strings.Repeat("a", 60) + " NOOP\r\n", strings.Repeat("a", 60) + " OK done\r\n", []feed.Piece{{Text: strings.Repeat("a", 60) + " NOOP"}}},
		{"a FETCH 0 FLAGS\r\n", "a BAD form\r\n", []feed.Piece{{Text: "a FETCH 0 FLAGS"}}},
		{"a FETCH 1 FLAGS\r\n", "a BAD state\r\n", []feed.Piece{{Text: "a FETCH 1 FLAGS"}}},
		{"a APPEND x {65537}\r\n", "a BAD literal\r\n", []feed.Piece{{Kind: tooBig, Text: "a APPEND x {65537}"}}},
		{"a APPEND x {4294967295}\r\nb NOOP\r\n", "a BAD literal\r\nb OK done\r\n", []feed.Piece{{Kind: tooBig, Text: "a APPEND x {4294967295}"}, {Text: "b NOOP"}}},
		{"{65537}\r\n", "* BAD literal\r\n", []feed.Piece{{Kind: tooBig, Text: "{65537}"}}},
		{"a+ {65537}\r\n", "* BAD literal\r\n", []feed.Piece{{Kind: tooBig, Text: "a+ {65537}"}}},
		{long + lineEnd + "c NOOP\r\n", "b1 BAD long\r\nc OK done\r\n", []feed.Piece{{Kind: tooLong, Text: long[:maxLine+1]}, {Text: "c NOOP"}}},
		{strings.Repeat("x", maxLine+1), "* BAD long\r\n", []feed.Piece{{Kind: tooLong, Text: strings.Repeat("x", maxLine+1)}}},
		{"a APPEND x {2}\r\nhi\r\n", "+ go\r\na OK [APPENDUID 7 1] done\r\n", []feed.Piece{{Text: "a APPEND x {2}\r\nhi"}}},
		{"a APPEND z {0}\r\n\r\n", "+ go\r\na NO [TRYCREATE] none\r\n", []feed.Piece{{Text: "a APPEND z {0}\r\n"}}},
		{"a NOOP\r\nb SELECT {1}\r\nz\r\nc NOOP\r\n", "a OK done\r\n+ go\r\nb NO none\r\nc OK done\r\n", []feed.Piece{{Text: "a NOOP"}, {Text: "b SELECT {1}\r\nz"}, {Text: "c NOOP"}}},
		{"a x {3}\r\n\r\n\r {2}\r\nhi {65532}\r\n", "+ go\r\n+ go\r\na BAD literal\r\n", []feed.Piece{{Kind: tooBig, Text: "a x {3}\r\n\r\n\r {2}\r\nhi {65532}"}}},
		{"a APPEND x {2}\r\nhi", "+ go\r\n", nil},
		{"a NOOP", "", nil},
		{"", "", nil},
	} {
		s := small(t)
		send(t, s, 1, c.text)
		rest(t, s)
		var pieces []feed.Piece
		for _, e := range s.Log() {
			if e.Who != 1 || e.Limit != api.OK {
				t.Errorf("P20.1: %.60q: the entry %v", c.text, e)
			}
			pieces = append(pieces, e.Piece)
		}
		if got := s.Output(1); got != c.told || !slices.Equal(pieces, c.pieces) || s.Output(0)+s.Output(2) != "" {
			t.Errorf("P20.1: %.60q: %.200q, not %q; the log has %.200v", c.text, got, c.told, pieces)
		}
	}
}

// A piece is begun by a step, and that is the first one of its command.
func TestStep(t *testing.T) {
	s := small(t)
	step := func(who int, want bool, told string, entries int) {
		t.Helper()
		was := s.Output(who)
		time := s.Space().Mem().Time()
		idle := s.Idle(who)
		if got := s.Step(who); got != want || got == idle {
			t.Fatalf("P20.2: Step(%d): %v, it was idle: %v", who, got, idle)
		}
		if got := s.Output(who)[len(was):]; got != told || len(s.Log()) != entries {
			t.Fatalf("P20.2: %q was told by a step, not %q; the log has %d", got, told, len(s.Log()))
		}
		if s.Space().Mem().Time() > time+1 {
			t.Fatal("P20.2: a step of several accesses")
		}
	}
	step(0, false, "", 0)
	send(t, s, 0, "a NOOP")
	step(0, false, "", 0)
	send(t, s, 0, "\r\nx\r\nb APPEND x {65537}\r\nc SELECT {1}\r\n")
	step(1, false, "", 0)
	step(0, true, "a OK done\r\n", 1)
	step(0, true, "* BAD form\r\n", 2)
	step(0, true, "b BAD literal\r\n", 3)
	step(0, true, "+ go\r\n", 3)
	step(0, false, "", 3)
	send(t, s, 0, "z\r\nd SELECT y\r\n")
	step(0, true, "c NO none\r\n", 4)
	if s.Idle(0) || s.Space().Pinned(0) {
		t.Fatal("P20.2: it is idle, but a command came; or that is begun")
	}
	// While it is under way nothing is told.
	steps := 1
	for was := s.Output(0); s.Step(0) && s.Output(0) == was; steps++ {
		if s.Idle(0) || len(s.Log()) != 4 {
			t.Fatal("P20.2: it is idle, but a command is under way")
		}
	}
	if l, ok := s.Session(0).List(); !ok || len(l) > 0 || !s.Idle(0) || len(s.Log()) != 5 || steps < 2 {
		t.Fatalf("P20.2: behind %d steps: %v, %v", steps, l, s.Log())
	}
	step(0, false, "", 5)
}

// The times in the log are those of the memory, and each command's mark and limit are its own.
func TestLog(t *testing.T) {
	s := small(t)
	mem := s.Space().Mem()
	var began, ended []uint64
	do := func(text string) {
		t.Helper()
		send(t, s, 0, text+lineEnd)
		began = append(began, mem.Time())
		for !s.Idle(0) {
			s.Step(0)
		}
		ended = append(ended, mem.Time())
	}
	texts := []string{"a NOOP", "a SELECT x", "x", "a FETCH 1 FLAGS", "b SLEEP", "a STORE 1 FLAGS ()", "a EXPUNGE", "a {65537}", "a UID FETCH 1 FLAGS", strings.Repeat("x", maxLine+5), "a UNSELECT"}
	for _, text := range texts {
		do(text)
	}
	loads := map[string]bool{"a SELECT x": true, "a EXPUNGE": true, "a UID FETCH 1 FLAGS": true, "a UNSELECT": true}
	l := s.Log()
	if len(l) != len(texts) {
		t.Fatalf("P20.1: the log has %v", l)
	}
	out := ""
	for i, e := range l {
		text := texts[i]
		if e.Who != 0 || e.Begin != began[i] || e.End != ended[i] || e.Mark != e.End || loads[text] != (e.End > e.Begin) {
			t.Errorf("P20.1: %.20q: %.100v, begun at %d, over at %d", text, e, began[i], ended[i])
		}
		if e.Piece.Text != text[:min(len(text), maxLine+1)] || e.Limit != api.OK {
			t.Errorf("P20.1: %.20q: %.100v", text, e)
		}
		out += e.Reply
	}
	if s.Output(0) != out {
		t.Errorf("P20.3: %q, but the log has %q", s.Output(0), out)
	}
}

// Entries stand in the order in which they were over, though others were begun ahead.
func TestLogOrder(t *testing.T) {
	s := small(t)
	send(t, s, 0, "a APPEND x {1}\r\nx\r\n")
	s.Run(0, 0, 0)
	begun := s.Space().Mem().Time()
	send(t, s, 1, "b APPEND x {1}\r\ny\r\nc NOOP\r\n")
	for !s.Idle(1) {
		s.Step(1)
	}
	if l := s.Log(); len(l) != 2 || l[0].Reply != "b OK [APPENDUID 7 1] done\r\n" || l[1].Reply != "c OK done\r\n" || l[0].Begin != begun {
		t.Fatalf("P20.1: the log has %v", l)
	}
	rest(t, s)
	l := s.Log()
	if len(l) != 3 || l[2].Who != 0 || l[2].Reply != "a OK [APPENDUID 7 2] done\r\n" {
		t.Fatalf("P20.1: the log has %v", l)
	}
	if l[2].Begin >= l[0].Begin || l[2].Mark <= l[0].Mark || l[0].Mark >= l[0].End || l[2].End < l[1].End {
		t.Errorf("P20.1: the log has %v", l)
	}
}

// A change that does not come off is noted with its limit.
func TestLimit(t *testing.T) {
	s := made(t, config(2, 2, "x", "y"))
	hold(t, s, 0, "a APPEND x {1}\r\nx", "+ go", "a NO full")
	hold(t, s, 0, "a APPEND z {1}\r\nx", "+ go", "a NO [TRYCREATE] none")
	if l := s.Log(); len(l) != 2 || l[0].Limit != api.ErrFull || l[1].Limit != api.OK {
		t.Errorf("P20.1: the log has %v", l)
	}
	if used := s.Space().Arena().Used(); used != 2 {
		t.Errorf("P6: %d slots are used", used)
	}
	hold(t, s, 0, "a SELECT x", selected("a", "0", "1")...)
}

// TestRun: the picks are taken modulo how many sessions there are, and those that are idle make no step.
func TestRun(t *testing.T) {
	s := small(t)
	for who := range 3 {
		send(t, s, who, strings.Repeat("a NOOP\r\n", 5))
	}
	told := func(want ...int) {
		t.Helper()
		for who, n := range want {
			if s.Output(who) != strings.Repeat("a OK done\r\n", n) {
				t.Fatalf("P20.2: %d is told %q, not %d lines", who, s.Output(who), n)
			}
		}
	}
	run := func(want int, picks ...int) {
		t.Helper()
		was := slices.Clone(picks)
		if got := s.Run(picks...); got != want || !slices.Equal(picks, was) {
			t.Fatalf("P20.2: Run(%v): %d, not %d", was, got, want)
		}
	}
	run(0)
	told(0, 0, 0)
	run(3, 0, 3, -3)
	told(3, 0, 0)
	run(4, 1, 4, -2, 2)
	told(3, 3, 1)
	run(3, -1, math.MaxInt, math.MinInt)
	// 2^63 - 1 is 1 modulo 3, and -2^63 is 1, too.
	told(3, 5, 2)
	run(2, 0, 0, 0, 1, 0)
	told(5, 5, 2)
	run(3, 0, 1, 2, 2, 2, 2, 2)
	told(5, 5, 5)
	run(0, 0, 1, 2)
	told(5, 5, 5)
}

// TestRest: rounds are made till all are idle, or as many as are told.
func TestRest(t *testing.T) {
	s := small(t)
	holdRest := func(limit, want int) {
		t.Helper()
		if got := s.Rest(limit); got != want {
			t.Fatalf("P20.2: Rest(%d): %d, not %d", limit, got, want)
		}
	}
	for _, limit := range []int{math.MinInt, -1, 0, 1, 9, math.MaxInt} {
		holdRest(limit, 0)
	}
	send(t, s, 1, strings.Repeat("a NOOP\r\n", 2))
	send(t, s, 2, strings.Repeat("a NOOP\r\n", 4))
	for _, limit := range []int{math.MinInt, -1, 0} {
		holdRest(limit, 0)
	}
	holdRest(1, 1)
	if len(s.Log()) != 2 || s.Log()[0].Who != 1 || s.Log()[1].Who != 2 {
		t.Fatalf("P20.2: a round: %v", s.Log())
	}
	holdRest(3, 3)
	if !s.Idle(1) || !s.Idle(2) || len(s.Log()) != 6 {
		t.Fatalf("P20.2: the rounds: %v", s.Log())
	}
	holdRest(3, 0)
	send(t, s, 0, strings.Repeat("a NOOP\r\n", 7))
	holdRest(math.MaxInt, 7)
}

// A round is one step of each session, in order.
func TestRounds(t *testing.T) {
	texts := []string{"a SELECT x\r\nb APPEND x {2}\r\nhi\r\nc EXPUNGE\r\n", "a APPEND x (\\Deleted) {2}\r\nho\r\nb NOOP\r\n", "a SELECT x\r\nb UID STORE 1:* +FLAGS (\\Seen)\r\nx\r\n"}
	one, other := small(t), small(t)
	for who, text := range texts {
		send(t, one, who, text)
		send(t, other, who, text)
	}
	rounds := 0
	for stepped := true; stepped; {
		stepped = false
		for who := range texts {
			stepped = other.Step(who) || stepped
		}
		if stepped {
			rounds++
		}
	}
	if got := rest(t, one); got != rounds || !slices.Equal(one.Log(), other.Log()) {
		t.Errorf("P20.2: %d rounds, not %d; the log\n%v\nnot\n%v", got, rounds, one.Log(), other.Log())
	}
}

// TestTen holds the ten examples of the whole.
func TestTen(t *testing.T) {
	s := small(t)
	send(t, s, 0, "a APPEND x {3}\r\none\r\n")
	send(t, s, 1, "b APPEND x (\\Flagged) {3}\r\ntwo\r\n")
	rest(t, s)
	if s.Output(0)+s.Output(1) != "+ go\r\na OK [APPENDUID 7 1] done\r\n+ go\r\nb OK [APPENDUID 7 2] done\r\n" && s.Output(0)+s.Output(1) != "+ go\r\na OK [APPENDUID 7 2] done\r\n+ go\r\nb OK [APPENDUID 7 1] done\r\n" {
		t.Errorf("example 1: %q, %q", s.Output(0), s.Output(1))
	}
	s = small(t)
	hold(t, s, 0, "a APPEND x {3}\r\none", "+ go", "a OK [APPENDUID 7 1] done")
	hold(t, s, 0, "a APPEND x (\\Flagged) {3}\r\ntwo", "+ go", "a OK [APPENDUID 7 2] done")
	for who := range 2 {
		hold(t, s, who, "a SELECT x", selected("a", "2", "3", "* 1 FETCH (UID 1 FLAGS ())", "* 2 FETCH (UID 2 FLAGS (\\Flagged))")...)
	}
	hold(t, s, 1, "a STORE 1 FLAGS.SILENT (\\Deleted)", "a OK done")
	hold(t, s, 1, "a EXPUNGE", "* 1 EXPUNGE", "a OK done")
	hold(t, s, 0, "a FETCH 1 (FLAGS BODY.PEEK[])", "* 1 FETCH (FLAGS () BODY[] {3}\r\none)", "a OK done") // example 2
	hold(t, s, 0, "a NOOP", "* 1 EXPUNGE", "a OK done")                                                   // example 3
	hold(t, s, 1, "a APPEND x (\\Seen) {0}\r\n", "+ go", "* 2 EXISTS", "* 2 FETCH (UID 3 FLAGS (\\Seen))", "a OK [APPENDUID 7 3] done")
	hold(t, s, 0, "a NOOP", "* 2 EXISTS", "* 2 FETCH (UID 3 FLAGS (\\Seen))", "a OK done") // example 4
	hold(t, s, 0, "a STORE 2 -FLAGS.SILENT (\\Seen)", "a OK done")
	hold(t, s, 0, "a NOOP", "* 2 FETCH (UID 3 FLAGS ())", "a OK done") // example 5
	hold(t, s, 0, "a APPEND x {65537}", "a BAD literal")               // example 6
	hold(t, s, 1, "a APPEND x {0}\r\n", "+ go", "* 3 EXISTS", "* 2 FETCH (UID 3 FLAGS ())", "* 3 FETCH (UID 4 FLAGS ())", "a OK [APPENDUID 7 4] done")
	hold(t, s, 0, "a UID FETCH 9 FLAGS", "* 3 EXISTS", "* 3 FETCH (UID 4 FLAGS ())", "a OK done")
	hold(t, s, 0, "a FETCH 9 FLAGS", "a BAD set") // example 9
	hold(t, s, 0, "a UID FETCH 9 FLAGS", "a OK done")
	hold(t, s, 0, "a SELECT z", "a NO none") // example 8
	hold(t, s, 0, "a UNSELECT", "a BAD state")
	hold(t, s, 1, "a UNSELECT", "a OK done")
	if s.Space().Pinned(0) || s.Space().Pinned(1) || s.Space().Pinned(2) {
		t.Error("example 10: somebody is pinned")
	}
	full := made(t, config(1, 3, "x", "y")) // example 7
	hold(t, full, 0, "a APPEND x {0}\r\n", "+ go", "a NO full")
	hold(t, full, 0, "a SELECT x", selected("a", "0", "1")...)
}

// Whoever is handed a session may do a command by it: what came from its client waits till that is over.
func TestSessionInUse(t *testing.T) {
	s := small(t)
	c, _ := command.Parse("o SELECT y")
	d := s.Session(0).Do(c)
	send(t, s, 0, "a SELECT x\r\n")
	send(t, s, 1, "a NOOP\r\nb NOOP\r\n")
	if rounds := s.Rest(math.MaxInt); rounds != 2 || s.Step(0) || s.Idle(0) || s.Output(0) != "" || len(s.Log()) != 2 {
		t.Errorf("R1: %d rounds, %q", rounds, s.Output(0))
	}
	for !d.Step() {
	}
	rest(t, s)
	if s.Output(0) != strings.Join(selected("a", "0", "1"), lineEnd)+lineEnd {
		t.Errorf("R1: %q", s.Output(0))
	}
}
