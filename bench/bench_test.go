package bench_test

import (
	"fmt"
	"regexp"
	"strings"
	"testing"

	"postchaise/bench"
)

// aServer is a line by which there is a server.
const aServer = "server 2 100 1 x y"

// tells holds what a bench tells of a line.
func tells(t *testing.T, b *bench.Bench, line, want string) {
	t.Helper()
	if got := b.Line(line); got != want {
		t.Fatalf("P24.1: %.200q tells %.1000q, not %.1000q", line, got, want)
	}
}

// runs holds what a bench tells of lines, each with what it tells: a text of lines without the last one's end.
func runs(t *testing.T, b *bench.Bench, pairs ...string) {
	t.Helper()
	for i := 0; i < len(pairs); i += 2 {
		want := pairs[i+1]
		if want != "" {
			want += "\n"
		}
		tells(t, b, pairs[i], want)
	}
}

// running is a bench that was told some lines.
func running(t *testing.T, lines ...string) *bench.Bench {
	t.Helper()
	b := bench.New()
	for _, line := range lines {
		if got := b.Line(line); strings.HasPrefix(got, "error") {
			t.Fatalf("P24.1: %q tells %q", line, got)
		}
	}
	return b
}

// greeting is what a SELECT of a box with so many messages tells up to the fetches, if the next one's number is next.
func greeting(messages, next int) string {
	return fmt.Sprintf("* FLAGS (\\Answered \\Flagged \\Deleted \\Seen \\Draft)\n* %d EXISTS\n* 0 RECENT\n* OK [UIDVALIDITY 7] valid\n* OK [UIDNEXT %d] next\n", messages, next)
}

// TestExample holds the document's example.
func TestExample(t *testing.T) {
	if got := bench.Run("server 1 20 1 x\nfeed 0 a NOOP\nrest\nout 0"); got != "ok\nok\nrounds 1\na OK done\n" {
		t.Errorf("P24: %q", got)
	}
}

// TestNew: a bench has no server.
func TestNew(t *testing.T) {
	for _, line := range []string{"feed 0 a NOOP", "part 0 a NOOP", "step 0 1", "rest", "out 0", "list 0", "same 0", "check", "audit"} {
		tells(t, bench.New(), line, "error 8\n")
	}
	tells(t, bench.New(), aServer, "ok\n")
}

// TestServer: how great a server may be, and what comes of one that can't be.
func TestServer(t *testing.T) {
	for line, want := range map[string]string{
		"server 1 1 1 x":                    "ok\n",
		"server 8 4096 999999999 a":         "ok\n",
		"server 8 4 1 a b c d":              "ok\n",
		"server 1 1 1 \x00\xff\r\n{1}":      "ok\n",
		"server 0 20 1 x":                   "error 11\n",
		"server 9 20 1 x":                   "error 11\n",
		"server 999999999 20 1 x":           "error 11\n",
		"server 1 0 1 x":                    "error 11\n",
		"server 1 4097 1 x":                 "error 11\n",
		"server 1 999999999 1 x":            "error 11\n",
		"server 1 20 0 x":                   "error 11\n",
		"server 1 3 1 a b c d":              "error 11\n",
		"server 1 20 1 x x":                 "error 11\n",
		"server 1 20 1 a b c b":             "error 11\n",
		"server 1 20 1 a b c d e":           "error 11\n",
		"server 1 20 1 a b c d e f g h i":   "error 11\n",
		"server 1 20 1 a b c d e f g h i j": "error 2\n",
		"server 0 0 0 a b c d e f g h i j":  "error 2\n",
	} {
		b := running(t, aServer)
		tells(t, b, line, want)
		still := map[string]string{"ok\n": "rounds 0\n", "error 11\n": "error 8\n", "error 2\n": "rounds 0\n"}
		tells(t, b, "rest", still[want])
		if want == "error 11\n" {
			runs(t, b, aServer, "ok", "audit", "slots 100 2 2 0")
		}
	}
}

// TestServerAnew: a server in place of another one has nothing of that.
func TestServerAnew(t *testing.T) {
	b := bench.New()
	for _, name := range []string{"x", "y", "z"} {
		runs(t, b,
			"server 2 50 5 "+name, "ok",
			"list 0", "none", "same 0", "none", "check", "check -1", "audit", "slots 50 1 1 0", "out 0", "",
			"part 1 a SELE", "ok",
			"feed 0 a SELECT "+name, "ok",
			"feed 0 a APPEND "+name+" {0}", "ok", "feed 0 ", "ok",
		)
		tells(t, b, "step 0 1", "steps 1\n")
		if name != "y" {
			b.Line("rest")
			tells(t, b, "out 0", greeting(0, 5)+"a OK [READ-WRITE] done\n+ go\n* 1 EXISTS\n* 1 FETCH (UID 5 FLAGS ())\na OK [APPENDUID 7 5] done\n")
		}
	}
}

// TestOrderOfErrors: a line that is wrong counts ahead of a server that there is not, and that ahead of a session.
func TestOrderOfErrors(t *testing.T) {
	b := bench.New()
	runs(t, b,
		"feed 2", "error 2", "feed 2 a NOOP", "error 8", "feed x ", "error 2", "part x ", "error 2", "part 2 ", "error 8",
		"rest 1", "error 2", "rest", "error 8", "step 0 x", "error 2", "step 9 1001", "error 8", "out 9", "error 8",
		"list 9 ", "error 2", "list 9", "error 8", "same x", "error 2", "same 9", "error 8", "check x", "error 2", "audit ", "error 2",
		aServer, "ok",
		"feed 2", "error 2", "feed 2 a NOOP", "error 7", "feed 999999999 ", "error 7", "part 2 ", "error 7", "part 2", "error 2",
		"step 2 5", "steps 0", "step 999999999 999999999", "steps 0", "out 2", "", "out 999999999", "", "list 2", "none", "same 2", "none",
	)
}

// wrongs are lines that are wrong, whether there is a server or not.
func wrongs() []string {
	l := []string{
		" ", "  ", "\n", "\t", "x", "Rest", "REST", "rests", "res", "rest\n", "rest\r", "rest ", " rest", "rest rest", "help", "\x00", "error 2", "ok",
		"feed", "feed ", "feed 0", "feed  0 a", "feed 0x a", "feed a NOOP", " feed 0 a", "feed\t0 a", "feed  ",
		"part", "part ", "part 0", "part  0 a", "part -0 a", "Part 0 a",
		"step", "step 0", "step 0 ", "step  0 1", "step 0  1", "step 0 1 ", "step 0 1 1", "step 0 1\n", "step 0,1",
		"check 0", "check ", "check  ", "audit 0", "audit ", "audit\n",
		"server", "server ", "server 1", "server 1 20", "server 1 20 1", "server 1 20 1 ", "server 1 20 x", "server 1 20 1  x", "server 1 20 1 x ", "server 1 20 1 x  y",
		"server  1 20 1 x", "server 1  20 1 x", "server 1 20  1 x", "server x 20 1 x", "server 1 x 1 x", "server 1 20 x x", "server 01 20 1 x", "server 1 020 1 x", "server 1 20 01 x",
		"server 1 20 1 a b c d e f g h i j", "server 1 20 1 a b c d e f g h i j k",
	}
	for _, word := range []string{"out", "list", "same"} {
		for _, behind := range []string{"", " ", " 0 ", "  0", " 0 0", " 0  0", "0", " 0\n", " x", " all", "\t0"} {
			l = append(l, word+behind)
		}
	}
	return append(l, wrongNumbers()...)
}

// wrongNumbers are lines of which a number is none.
func wrongNumbers() []string {
	var l []string
	for _, n := range []string{"00", "01", "007", "0000000000", "1000000000", "9999999999", "0123456789", "99999999999999999999", "-1", "+1", "-0", "1.", ".1", "1.0", "1e3", "0x1", "1_0", "a", "1a", "a1", "/", ":", "1/", "1:", "*", "\xd9\xa3", "\xb2", "1\n", "\n1", "1\r", "1\x00", "\"1\"", "{1}"} {
		for _, form := range []string{"feed # a NOOP", "part # a", "step # 1", "step 0 #", "out #", "list #", "same #", "server # 20 1 x", "server 1 # 1 x", "server 1 20 # x"} {
			l = append(l, strings.Replace(form, "#", n, 1))
		}
	}
	return l
}

// state are lines that tell how it is with a bench, and change nothing of it; of the output that was not told yet just a later out tells.
var state = []string{"list 0", "list 1", "list 2", "same 0", "same 1", "check", "audit"}

// looked is what a bench tells of its state.
func looked(b *bench.Bench) string {
	told := ""
	for _, line := range state {
		told += b.Line(line)
	}
	return told
}

// TestWrong: of a line that is wrong error 2 is told, and nothing happens.
func TestWrong(t *testing.T) {
	busy := []string{"server 2 100 3 x", "feed 0 a SELECT x", "feed 1 b SELECT x", "feed 0 a APPEND x {2}", "feed 0 hi", "step 0 9", "part 1 b NO", "feed 0 c NOOP"}
	rest := []string{"out 1", "feed 1 OP", "rest", "out 0", "out 1", "out 0", "list 0", "list 1"}
	end := func(b *bench.Bench) string {
		told := looked(b)
		for _, line := range rest {
			told += b.Line(line)
		}
		return told + looked(b)
	}
	want := end(running(t, busy...))
	if !strings.Contains(want, "b OK done\n") || !strings.Contains(want, "* 1 EXISTS\n") {
		t.Fatalf("P24.1: %q", want)
	}
	all := running(t, busy...)
	for _, line := range wrongs() {
		b := bench.New()
		runs(t, b, line, "error 2", "rest", "error 8")
		b = running(t, busy...)
		runs(t, b, line, "error 2", line, "error 2")
		if got := end(b); got != want {
			t.Fatalf("P24.2: behind %q: %q, not %q", line, got, want)
		}
		tells(t, all, line, "error 2\n")
	}
	if got := end(all); got != want {
		t.Fatalf("P24.2: behind all wrong lines: %q, not %q", got, want)
	}
}

// TestNothing: a line without any byte is nothing.
func TestNothing(t *testing.T) {
	b := bench.New()
	runs(t, b, "", "", aServer, "ok", "", "", "feed 0 a NOOP", "ok", "", "", "rest", "rounds 1", "", "", "out 0", "a OK done")
}

// TestFeed: feed ends what a client sends by 13 and 10, part does not; all bytes may stand in a text.
func TestFeed(t *testing.T) {
	b := running(t, aServer)
	runs(t, b,
		"part 0 a NO", "ok", "part 0 ", "ok", "rest", "rounds 0", "feed 1 b NOOP", "ok", "part 0 OP\r", "ok", "part 0 \n", "ok", "rest", "rounds 1",
		"out 0", "a OK done", "out 1", "b OK done",
		"part 0 a NOOP\r\nb NOOP\r\nc NO", "ok", "feed 0 OP", "ok", "rest", "rounds 3", "out 0", "a OK done\nb OK done\nc OK done",
		"feed 0 ", "ok", "feed 0  a NOOP", "ok", "feed 0 a NOOP ", "ok", "feed 0 a  NOOP", "ok", "rest", "rounds 4",
		"out 0", "* BAD form\n* BAD form\na BAD form\na BAD form",
		"feed 0 a\nNOOP", "ok", "feed 0 \x00\xff", "ok", "rest", "rounds 2", "out 0", "* BAD form\n* BAD form",
	)
	if got := b.Line("feed 0 " + strings.Repeat("x", 100000)); got != "ok\n" {
		t.Errorf("P24.1: a long text tells %q", got)
	}
	runs(t, b, "rest", "rounds 1", "out 0", "* BAD long")
}

// TestStep: a session makes no more steps than are asked for, than 1000, and than it has to do.
func TestStep(t *testing.T) {
	b := running(t, aServer, "part 1 "+strings.Repeat("a NOOP\r\n", 4005))
	runs(t, b,
		"step 0 5", "steps 0", "step 1 0", "steps 0", "out 1", "", "step 1 1", "steps 1", "out 1", "a OK done", "step 1 4", "steps 4",
		"step 1 999", "steps 999", "step 1 1000", "steps 1000", "step 1 1001", "steps 1000", "step 1 999999999", "steps 1000", "step 1 1000", "steps 1", "step 1 1", "steps 0",
	)
	tells(t, b, "out 1", strings.Repeat("a OK done\n", 4004))
}

// TestStepWithin: a command goes on by the steps of its session alone, as many as are asked for.
func TestStepWithin(t *testing.T) {
	whole := running(t, aServer, "feed 0 a APPEND x {2}", "feed 0 hi")
	var most int
	if _, err := fmt.Sscanf(whole.Line("step 0 1000"), "steps %d", &most); err != nil || most < 4 {
		t.Fatalf("P24.1: a message is put behind by %d steps", most)
	}
	b := running(t, aServer, "feed 0 a APPEND x {2}", "feed 0 hi")
	for range most - 1 {
		runs(t, b, "step 0 1", "steps 1", "step 1 1", "steps 0")
	}
	runs(t, b, "out 0", "+ go", "step 0 9", "steps 1", "out 0", "a OK [APPENDUID 7 1] done", "step 0 9", "steps 0")
}

// TestRest: a rest goes on till all are idle, but for no more than 100000 rounds.
func TestRest(t *testing.T) {
	b := running(t, aServer)
	runs(t, b, "rest", "rounds 0", "feed 0 a NOOP", "ok", "part 1 b NOOP\r\nc NOOP\r\n", "ok", "rest", "rounds 2", "rest", "rounds 0", "out 0", "a OK done", "out 1", "b OK done\nc OK done")
	for range 3 {
		b.Line("part 1 " + strings.Repeat("a NOOP\r\n", 70000))
	}
	runs(t, b, "rest", "rounds 100000", "rest", "rounds 100000", "rest", "rounds 10000", "rest", "rounds 0", "check", "check -1")
}

// TestOut: what came is told once, without a byte 13, each session's for itself.
func TestOut(t *testing.T) {
	b := running(t, aServer, "feed 0 a SELECT x", "feed 1 b NOOP", "part 0 c APPEND x {7}\r\n\r\r\n1\n\r2\r\n", "rest")
	runs(t, b,
		"out 0", greeting(0, 1)+"a OK [READ-WRITE] done\n+ go\n* 1 EXISTS\n* 1 FETCH (UID 1 FLAGS ())\nc OK [APPENDUID 7 1] done", "out 0", "",
		"feed 0 d FETCH 1 (UID RFC822.SIZE BODY.PEEK[])", "ok", "out 0", "", "rest", "rounds 1", "list 0", "1 ()", "same 0", "yes",
		"out 0", "* 1 FETCH (UID 1 RFC822.SIZE 7 BODY[] {7}\n\n1\n2)\nd OK done", "out 0", "",
		"out 1", "b OK done", "out 1", "",
		"feed 1 c UNSELECT", "ok", "rest", "rounds 1", "out 0", "", "out 1", "c BAD state",
	)
}

// TestList: the entries of a session's list, with their flags, as the session knows them.
func TestList(t *testing.T) {
	b := running(t, "server 2 300 250 x y")
	runs(t, b, "list 0", "none", "feed 0 a SELECT x", "ok", "list 0", "none")
	b.Line("rest")
	runs(t, b, "list 0", "empty", "list 1", "none", "feed 1 a SELECT y", "ok")
	for _, flags := range []string{"", "(\\Draft \\Seen) ", "(\\Deleted) "} {
		b.Line("part 1 b APPEND x " + flags + "{2}\r\nhi\r\n")
	}
	b.Line("rest")
	runs(t, b, "list 0", "empty", "list 1", "empty", "feed 0 b NOOP", "ok")
	b.Line("rest")
	runs(t, b, "list 0", "250 ()\n251 (\\Seen \\Draft)\n252 (\\Deleted)", "feed 1 b SELECT x", "ok", "feed 1 c EXPUNGE", "ok", "feed 1 d STORE 1 FLAGS (\\Answered \\Flagged \\Deleted \\Seen \\Draft)", "ok")
	b.Line("rest")
	runs(t, b, "list 1", "250 (\\Answered \\Flagged \\Deleted \\Seen \\Draft)\n251 (\\Seen \\Draft)", "list 0", "250 ()\n251 (\\Seen \\Draft)\n252 (\\Deleted)", "feed 0 c UNSELECT", "ok", "feed 1 e SELECT z", "ok")
	b.Line("rest")
	runs(t, b, "list 0", "none", "list 1", "none", "list 2", "none")
}

// TestListNumbers: numbers are told whole.
func TestListNumbers(t *testing.T) {
	b := running(t, "server 1 300 999999999 x", "feed 0 a SELECT x", "part 0 b APPEND x {0}\r\n\r\nc APPEND x {0}\r\n\r\n", "rest")
	runs(t, b, "list 0", "999999999 ()\n1000000000 ()", "same 0", "yes")
}

// TestSame: a client that took all has its session's list, whatever was told by out ahead.
func TestSame(t *testing.T) {
	b := running(t, aServer)
	runs(t, b, "same 0", "none", "same 1", "none", "feed 0 a SELECT x", "ok")
	b.Line("rest")
	runs(t, b, "same 0", "yes", "same 1", "none")
	b.Line("part 1 a APPEND x {3}\r\n1\r\n\r\nb APPEND x (\\Deleted) {0}\r\n\r\nc APPEND x {1}\r\n1\r\nd SELECT x\r\ne EXPUNGE\r\n")
	b.Line("rest")
	runs(t, b, "same 0", "yes", "same 1", "yes", "list 0", "empty", "list 1", "1 ()\n3 ()")
	b.Line("out 1")
	b.Line("feed 1 e STORE 2 +FLAGS.SILENT (\\Seen)")
	b.Line("rest")
	b.Line("feed 0 b NOOP")
	b.Line("rest")
	runs(t, b, "same 1", "yes", "list 1", "1 ()\n3 ()", "same 0", "yes", "list 0", "1 ()\n3 (\\Seen)", "feed 0 c UNSELECT", "ok")
	b.Line("rest")
	runs(t, b, "same 0", "none", "same 1", "yes")
}

// TestCheckAndAudit: what is told of the log, and of the space, at rest and on the way.
func TestCheckAndAudit(t *testing.T) {
	b := running(t, "server 2 20 1 x y")
	runs(t, b, "check", "check -1", "audit", "slots 20 2 2 0", "feed 0 a APPEND x {2}", "ok", "feed 0 hi", "ok")
	b.Line("rest")
	runs(t, b, "check", "check -1", "audit", "slots 20 5 4 1")
	b.Line("feed 0 b APPEND y {2}")
	b.Line("feed 0 hi")
	for range 100 {
		b.Line("step 0 1")
		if got := b.Line("audit"); !regexp.MustCompile(`^slots 20 [5-9] [46] [1-4]\n$`).MatchString(got) {
			t.Fatalf("P24.1: on the way the audit tells %q", got)
		}
		tells(t, b, "check", "check -1\n")
	}
	tells(t, b, "out 0", "+ go\na OK [APPENDUID 7 1] done\n+ go\nb OK [APPENDUID 7 1] done\n")
}
