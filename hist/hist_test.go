package hist_test

import (
	"math"
	"slices"
	"strings"
	"testing"

	"postchaise/api"
	"postchaise/feed"
	"postchaise/hist"
	"postchaise/model"
	"postchaise/server"
)

// The kinds of pieces.
const (
	whole = iota
	goOn
	tooBig
	tooLong
)

// What a check answers, where that is not a place.
const (
	noneWrong = -1
	notRight  = -2
)

// config is one of two sessions, with the Next 1, and the Valid 7.
func config(names ...string) server.Config {
	return server.Config{Sessions: 2, Slots: 100, Names: names, Next: 1, Valid: 7}
}

// entry is one that took no time.
func entry(who int, at uint64, text, reply string) server.Entry {
	return server.Entry{Who: who, Begin: at, Mark: at, End: at, Piece: feed.Piece{Text: text}, Reply: reply}
}

// marked is one that was under way all the time up to its end.
func marked(who int, mark, end uint64, text, reply string) server.Entry {
	e := entry(who, mark, text, reply)
	e.Begin, e.End = 0, end
	return e
}

// small is a log that is right.
func small() []server.Entry {
	return []server.Entry{
		{Who: 0, Begin: 0, Mark: 2, End: 5, Piece: feed.Piece{Text: "a APPEND x {0}\r\n"}, Reply: "a OK [APPENDUID 7 1] done\r\n"},
		{Who: 1, Begin: 1, Mark: 5, End: 5, Piece: feed.Piece{Text: "b SLEEP"}, Reply: "b BAD form\r\n"},
		{Who: 0, Begin: 5, Mark: 6, End: 7, Piece: feed.Piece{Text: "c APPEND x {0}\r\n"}, Limit: api.ErrFull, Reply: "c NO full\r\n"},
	}
}

// changed is a small log, of which one entry is changed.
func changed(place int, change func(*server.Entry)) []server.Entry {
	l := small()
	change(&l[place])
	return l
}

// holdRight holds whether a log is right, and that a check says so.
func holdRight(t *testing.T, c server.Config, l []server.Entry, want bool) {
	t.Helper()
	if got := hist.Right(c, l); got != want {
		t.Fatalf("P21.1: Right of %v, %v: %v", c, l, got)
	}
	if got := hist.Check(c, l); (got == notRight) == want {
		t.Fatalf("P21.2: Check of %v, %v: %d", c, l, got)
	}
}

func TestRightConfig(t *testing.T) {
	names := []string{"x", "y", "", "X", "z"}
	for _, sessions := range []int{math.MinInt, -1, 0, 1, 2, 8, 9, math.MaxInt} {
		for n := range len(names) + 1 {
			for _, next := range []uint32{0, 1, math.MaxUint32} {
				c := server.Config{Sessions: sessions, Names: names[:n], Next: next}
				holdRight(t, c, nil, sessions >= 1 && sessions <= 8 && n >= 1 && n <= 4 && next > 0)
			}
		}
	}
	for _, names := range [][]string{{"x", "x"}, {"", ""}, {"x", "y", "z", "x"}} {
		holdRight(t, config(names...), small(), false)
	}
	// Slots count for nothing.
	for _, slots := range []int{math.MinInt, -1, 0, 1, 4096, 4097, math.MaxInt} {
		c := config("x")
		c.Slots = slots
		if got := hist.Check(c, small()); got != noneWrong {
			t.Errorf("P21.2: Check with %d slots: %d", slots, got)
		}
		holdRight(t, c, changed(0, func(e *server.Entry) { e.Who = 2 }), false)
	}
}

func TestRightEntry(t *testing.T) {
	holdRight(t, config("x"), small(), true)
	for place := range small() {
		for _, n := range []int{math.MinInt, -2, -1, 0, 1, 2, 3, 4, 5, 6, 7, 8, 11, 12, math.MaxInt} {
			if n < 0 || n > 1 {
				holdRight(t, config("x"), changed(place, func(e *server.Entry) { e.Who = n }), false)
			}
			holdRight(t, config("x"), changed(place, func(e *server.Entry) { e.Piece.Kind = n }), n == whole || n == tooBig || n == tooLong)
			holdRight(t, config("x"), changed(place, func(e *server.Entry) { e.Limit = api.Errno(n) }), n == 0 || n == 4 || n == 6)
		}
		// What it is about counts for nothing.
		holdRight(t, config("x"), changed(place, func(e *server.Entry) { e.Piece.Text, e.Reply = "\x00", "" }), true)
	}
	c := config("x")
	for c.Sessions = range 9 {
		holdRight(t, c, []server.Entry{entry(c.Sessions-1, 0, "", "")}, c.Sessions > 0)
		holdRight(t, c, []server.Entry{entry(c.Sessions, 0, "", "")}, false)
	}
}

// TestRightTimes goes through all small times of three entries of two sessions.
func TestRightTimes(t *testing.T) {
	const times = 3
	var one []server.Entry
	for begin := range uint64(times) {
		for mark := range uint64(times) {
			for end := range uint64(times) {
				for who := range 2 {
					one = append(one, server.Entry{Who: who, Begin: begin, Mark: mark, End: end})
				}
			}
		}
	}
	for _, a := range one {
		holdRight(t, config("x"), []server.Entry{a}, fits(a))
		for _, b := range one {
			holdRight(t, config("x"), []server.Entry{a, b}, fits(a, b))
			for _, c := range one {
				if l := []server.Entry{a, b, c}; hist.Right(config("x"), l) != fits(l...) {
					t.Fatalf("P21.1: Right of %v: %v", l, !fits(l...))
				}
			}
		}
	}
	great := server.Entry{Begin: math.MaxUint64 - 1, Mark: math.MaxUint64, End: math.MaxUint64}
	holdRight(t, config("x"), []server.Entry{{}, great}, true)
	holdRight(t, config("x"), []server.Entry{great, {}}, false)
	holdRight(t, config("x"), []server.Entry{great, great}, false)
}

// fits: do the times of entries fit, each held against all ahead of it?
func fits(l ...server.Entry) bool {
	for i, e := range l {
		if !slices.IsSorted([]uint64{e.Begin, e.Mark, e.End}) {
			return false
		}
		for _, ahead := range l[:i] {
			if ahead.End > e.End || ahead.Who == e.Who && ahead.End > e.Begin {
				return false
			}
		}
	}
	return true
}

// Any entries have an order, also such as are no right log.
func TestOrder(t *testing.T) {
	if got := hist.Order(nil); len(got) != 0 {
		t.Errorf("P21.1: Order of nothing: %v", got)
	}
	values := []uint64{0, 5, math.MaxInt64 + 1, math.MaxUint64}
	for length := range 7 {
		for n := range 1 << (2 * length) {
			l := make([]server.Entry, length)
			for i := range l {
				l[i] = server.Entry{Who: -1, Begin: 9, Mark: values[n>>(2*i)%len(values)], End: uint64(length - i)}
			}
			was := slices.Clone(l)
			var want []int
			for _, value := range values {
				for i, e := range l {
					if e.Mark == value {
						want = append(want, i)
					}
				}
			}
			if got := hist.Order(l); !slices.Equal(got, want) {
				t.Fatalf("P21.1: Order of %v: %v, not %v", l, got, want)
			}
			if !slices.Equal(l, was) {
				t.Fatalf("R4: Order changes %v to %v", was, l)
			}
		}
	}
}

// twoBoxes is a model with two sessions; the first one has selected a box with a message.
func twoBoxes(t *testing.T) *model.Model {
	t.Helper()
	m, err := model.New(2, model.Box{Name: "x", Next: 1, Valid: 7}, model.Box{Name: "y", Next: 1, Valid: 8})
	if err != api.OK {
		t.Fatalf("P18.1: error %d", err)
	}
	hist.Answer(m, entry(0, 0, "a SELECT x", ""))
	hist.Answer(m, entry(0, 0, "a APPEND x (\\Seen) {2}\r\nhi", ""))
	return m
}

// holdAnswer holds what a model tells of a piece with a limit.
func holdAnswer(t *testing.T, m *model.Model, who int, limit api.Errno, piece feed.Piece, want ...string) {
	t.Helper()
	text := ""
	for _, line := range want {
		text += line + "\r\n"
	}
	if got := hist.Answer(m, server.Entry{Who: who, Piece: piece, Limit: limit, Reply: "nothing", Mark: 9}); got != text {
		t.Fatalf("P21.1: of the kind %d, %.100q, at %d, limit %d: %q, not %q", piece.Kind, piece.Text, who, limit, got, text)
	}
}

func TestAnswer(t *testing.T) {
	m := twoBoxes(t)
	for _, step := range []struct {
		who  int
		text string
		want []string
	}{
		{1, "a NOOP", []string{"a OK done"}},
		{1, "a fetch 1 uid", []string{"a BAD state"}},
		{1, "b SELECT z", []string{"b NO none"}},
		{1, "b1 append y (\\Deleted) {1}\r\nx", []string{"b1 OK [APPENDUID 8 1] done"}},
		{1, "c SELECT y", []string{`* FLAGS (\Answered \Flagged \Deleted \Seen \Draft)`, "* 1 EXISTS", "* 0 RECENT", "* OK [UIDVALIDITY 8] valid", "* OK [UIDNEXT 2] next", "* 1 FETCH (UID 1 FLAGS (\\Deleted))", "c OK [READ-WRITE] done"}},
		{0, "d FETCH 1 (FLAGS BODY.PEEK[] RFC822.SIZE)", []string{"* 1 FETCH (FLAGS (\\Seen) RFC822.SIZE 2 BODY[] {2}", "hi)", "d OK done"}},
		{0, "e UID SEARCH SEEN", []string{"* SEARCH 1", "e OK done"}},
		{0, "f COPY 1 y", []string{"f OK [COPYUID 8 1 2] done"}},
		{1, "g EXPUNGE", []string{"* 1 EXPUNGE", "* 1 EXISTS", "* 1 FETCH (UID 2 FLAGS (\\Seen))", "g OK done"}},
		{1, "h FETCH 2 UID", []string{"h BAD set"}},
		{1, "i STORE 1 FLAGS ()", []string{"* 1 FETCH (FLAGS ())", "i OK done"}},
		{1, "j UNSELECT", []string{"j OK done"}},
		{1, "j UNSELECT", []string{"j BAD state"}},
	} {
		holdAnswer(t, m, step.who, api.OK, feed.Piece{Text: step.text}, step.want...)
	}
}

// What is no command is refused, whatever the limit, by the tag that it has.
func TestAnswerBad(t *testing.T) {
	tags := map[string]string{
		"a SLEEP":                          "a",
		"a NOOP ":                          "a",
		"a1. APPEND x {2}\r\nh":            "a1.",
		"a ":                               "a",
		"a":                                "*",
		"":                                 "*",
		" NOOP":                            "*",
		"a+ NOOP":                          "*",
		"\xff\x00 NOOP":                    "*",
		"* NOOP":                           "*",
		"+ NOOP":                           "*",
		strings.Repeat("a", 60) + " SLEEP": strings.Repeat("a", 60),
		strings.Repeat("a", 61) + " NOOP":  "*",
	}
	m := twoBoxes(t)
	was := m.Recs(0)
	for text, tag := range tags {
		for _, limit := range []api.Errno{api.OK, api.ErrFull, api.ErrBusy} {
			holdAnswer(t, m, 1, limit, feed.Piece{Kind: whole, Text: text}, tag+" BAD form")
			holdAnswer(t, m, 0, limit, feed.Piece{Kind: tooBig, Text: text}, tag+" BAD literal")
			holdAnswer(t, m, 1, limit, feed.Piece{Kind: tooLong, Text: text}, tag+" BAD long")
		}
	}
	// Also where the text is a command it is none, and nothing is done.
	for _, text := range []string{"a NOOP", "a EXPUNGE", "a APPEND x {1}\r\nx", "a UNSELECT"} {
		holdAnswer(t, m, 0, api.OK, feed.Piece{Kind: tooBig, Text: text}, "a BAD literal")
		holdAnswer(t, m, 0, api.OK, feed.Piece{Kind: tooLong, Text: text}, "a BAD long")
	}
	if _, ok := m.List(0); !ok || !slices.Equal(m.Recs(0), was) {
		t.Errorf("P21.1: the box has %v, not %v", m.Recs(0), was)
	}
}

func TestAnswerLimit(t *testing.T) {
	m := twoBoxes(t)
	for limit, why := range map[api.Errno]string{api.ErrFull: "full", api.ErrBusy: "busy"} {
		holdAnswer(t, m, 0, limit, feed.Piece{Text: "a APPEND x {1}\r\nx"}, "a NO "+why)
		holdAnswer(t, m, 0, limit, feed.Piece{Text: "a STORE 1 +FLAGS (\\Deleted)"}, "a NO "+why)
		holdAnswer(t, m, 0, limit, feed.Piece{Text: "a COPY 1 y"}, "a NO "+why)
		holdAnswer(t, m, 0, limit, feed.Piece{Text: "a COPY 2 y"}, "a BAD set")
		holdAnswer(t, m, 0, limit, feed.Piece{Text: "a EXPUNGE"}, "a OK done")
		holdAnswer(t, m, 0, limit, feed.Piece{Text: "a NOOP"}, "a OK done")
	}
	for limit := api.Errno(-3); limit < 20; limit++ {
		if limit == api.OK || limit == api.ErrFull || limit == api.ErrBusy {
			continue
		}
		for kind := range tooLong + 1 {
			if kind != goOn {
				holdAnswer(t, m, 0, limit, feed.Piece{Kind: kind, Text: "a APPEND x {1}\r\nx"})
				holdAnswer(t, m, 0, limit, feed.Piece{Kind: kind, Text: "a SLEEP"})
			}
		}
	}
	if l := m.Recs(0); len(l) != 1 || m.Next(0) != 2 || len(m.Recs(1)) != 0 {
		t.Errorf("P21.1: the box has %v, Next %d", l, m.Next(0))
	}
}

// Of a session that there is not nothing is told; of pieces that no entry has something, or nothing.
func TestAnswerNone(t *testing.T) {
	m := twoBoxes(t)
	for _, who := range []int{math.MinInt, -1, 2, 8, math.MaxInt} {
		for _, kind := range []int{whole, tooBig, tooLong} {
			for _, text := range []string{"a NOOP", "a APPEND x {1}\r\nx", "a SLEEP", ""} {
				holdAnswer(t, m, who, api.OK, feed.Piece{Kind: kind, Text: text})
			}
		}
	}
	for _, kind := range []int{math.MinInt, -1, goOn, 4, math.MaxInt} {
		for who := range 3 {
			hist.Answer(m, server.Entry{Who: who, Piece: feed.Piece{Kind: kind, Text: "a NOOP"}})
		}
	}
	if l := m.Recs(0); len(l) != 1 || m.Next(0) != 2 {
		t.Errorf("P21.1: the box has %v, Next %d", l, m.Next(0))
	}
}

// holdCheck holds what a check answers, and that it leaves all as it was.
func holdCheck(t *testing.T, c server.Config, l []server.Entry, want int) {
	t.Helper()
	names, was := slices.Clone(c.Names), slices.Clone(l)
	for range 2 {
		if got := hist.Check(c, l); got != want {
			t.Errorf("P21.2: Check of %v, %v: %d, not %d", c, l, got, want)
		}
	}
	if !slices.Equal(l, was) || !slices.Equal(c.Names, names) {
		t.Errorf("R4: Check changes %v to %v, or %v", was, l, c)
	}
}

func TestCheck(t *testing.T) {
	holdCheck(t, config("x"), nil, noneWrong)
	holdCheck(t, config(), nil, notRight)
	holdCheck(t, config("x"), small(), noneWrong)
	for place := range small() {
		holdCheck(t, config("x"), changed(place, func(e *server.Entry) { e.Reply = "" }), place)
		holdCheck(t, config("x"), changed(place, func(e *server.Entry) { e.Reply += "\r\n" }), place)
		holdCheck(t, config("x"), changed(place, func(e *server.Entry) { e.Reply = strings.ToLower(e.Reply) }), place)
		// A log that is not right is none, whatever else is wrong.
		holdCheck(t, config("x"), changed(place, func(e *server.Entry) { e.Reply, e.Begin = "", e.Mark+1 }), notRight)
	}
	// The config counts.
	other := config("x")
	other.Valid = 8
	holdCheck(t, other, small(), 0)
	other = config("x")
	other.Next = 2
	holdCheck(t, other, small(), 0)
	holdCheck(t, config("y"), small(), 0)
	holdCheck(t, config("y", "x"), small(), noneWrong)
	// So does the limit.
	holdCheck(t, config("x"), changed(2, func(e *server.Entry) { e.Limit = api.ErrBusy }), 2)
	holdCheck(t, config("x"), changed(0, func(e *server.Entry) { e.Limit = api.ErrFull }), 0)
}

// Entries stand by their marks, not by when they were over; those of the same mark stand as they do.
func TestCheckMarks(t *testing.T) {
	put := func(who int, mark, end uint64, number string) server.Entry {
		return marked(who, mark, end, "a APPEND x {0}\r\n", "a OK [APPENDUID 7 "+number+"] done\r\n")
	}
	holdCheck(t, config("x"), []server.Entry{put(0, 5, 6, "2"), put(1, 4, 7, "1")}, noneWrong)
	holdCheck(t, config("x"), []server.Entry{put(0, 5, 6, "1"), put(1, 4, 7, "2")}, 1)
	holdCheck(t, config("x"), []server.Entry{put(0, 4, 6, "1"), put(1, 5, 7, "2")}, noneWrong)
	holdCheck(t, config("x"), []server.Entry{put(0, 4, 6, "2"), put(1, 5, 7, "1")}, 0)
	holdCheck(t, config("x"), []server.Entry{put(0, 5, 6, "1"), put(1, 5, 7, "2")}, noneWrong)
	holdCheck(t, config("x"), []server.Entry{put(0, 5, 6, "2"), put(1, 5, 7, "1")}, 0)
	// Of several that are wrong the first one by the marks counts.
	holdCheck(t, config("x"), []server.Entry{put(0, 5, 6, "8"), put(1, 4, 7, "9")}, 1)
	holdCheck(t, config("x"), []server.Entry{put(0, 5, 6, "8"), put(1, 4, 7, "1")}, 0)
	// A change that did not come off takes no number.
	refused := put(1, 4, 7, "1")
	refused.Limit, refused.Reply = api.ErrBusy, "a NO busy\r\n"
	holdCheck(t, config("x"), []server.Entry{put(0, 5, 6, "1"), refused}, noneWrong)
	holdCheck(t, config("x"), []server.Entry{put(0, 5, 6, "2"), refused}, 0)
}
