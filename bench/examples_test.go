package bench_test

import (
	"fmt"
	"strings"
	"testing"

	"postchaise/bench"
)

// answers lets a client send something, and holds what it is told up to when all are idle.
func answers(t *testing.T, b *bench.Bench, who int, text, want string) {
	t.Helper()
	tells(t, b, fmt.Sprintf("part %d %s\r\n", who, text), "ok\n")
	b.Line("rest")
	tells(t, b, fmt.Sprintf("out %d", who), want)
}

// lets two clients have selected a box with so many messages, and been told all of it.
func lets(t *testing.T, messages int) *bench.Bench {
	t.Helper()
	b := running(t, "server 2 100 1 x")
	for n := range messages {
		answers(t, b, 0, "a APPEND x {2}\r\nhi", fmt.Sprintf("+ go\na OK [APPENDUID 7 %d] done\n", n+1))
	}
	for who := range 2 {
		fetches := ""
		for n := range messages {
			fetches += fmt.Sprintf("* %d FETCH (UID %d FLAGS ())\n", n+1, n+1)
		}
		answers(t, b, who, "a SELECT x", greeting(messages, messages+1)+fetches+"a OK [READ-WRITE] done\n")
	}
	return b
}

// TestBothAtOnce holds the first example of the whole, whichever client's steps come when.
func TestBothAtOnce(t *testing.T) {
	for ahead := range 25 {
		b := running(t, "server 2 100 1 x", "part 0 a APPEND x {1}\r\nx\r\n", "part 1 a APPEND x {1}\r\ny\r\n")
		b.Line(fmt.Sprintf("step 0 %d", ahead))
		b.Line("rest")
		told := b.Line("out 0") + b.Line("out 1")
		for n := 1; n <= 2; n++ {
			if strings.Count(told, fmt.Sprintf("+ go\na OK [APPENDUID 7 %d] done\n", n)) != 1 {
				t.Fatalf("example 1: with %d steps ahead both are told %q", ahead, told)
			}
		}
		runs(t, b, "check", "check -1")
		answers(t, b, 0, "b SELECT x", greeting(2, 3)+"* 1 FETCH (UID 1 FLAGS ())\n* 2 FETCH (UID 2 FLAGS ())\nb OK [READ-WRITE] done\n")
	}
}

// TestGoneMeanwhile holds the examples 2 and 3 of the whole.
func TestGoneMeanwhile(t *testing.T) {
	b := lets(t, 2)
	answers(t, b, 1, "b STORE 1 +FLAGS.SILENT (\\Deleted)", "b OK done\n")
	answers(t, b, 1, "c EXPUNGE", "* 1 EXPUNGE\nc OK done\n")
	answers(t, b, 0, "b FETCH 1 (FLAGS BODY.PEEK[])", "* 1 FETCH (FLAGS () BODY[] {2}\nhi)\nb OK done\n")
	answers(t, b, 0, "c NOOP", "* 1 EXPUNGE\nc OK done\n")
	answers(t, b, 0, "d FETCH 1 UID", "* 1 FETCH (UID 2)\nd OK done\n")
	runs(t, b, "same 0", "yes", "same 1", "yes", "list 0", "2 ()", "list 1", "2 ()")
}

// TestPutBehind holds the example 4 of the whole.
func TestPutBehind(t *testing.T) {
	b := lets(t, 1)
	answers(t, b, 1, "b APPEND x (\\Seen) {2}\r\nhi", "+ go\n* 2 EXISTS\n* 2 FETCH (UID 2 FLAGS (\\Seen))\nb OK [APPENDUID 7 2] done\n")
	answers(t, b, 0, "b NOOP", "* 2 EXISTS\n* 2 FETCH (UID 2 FLAGS (\\Seen))\nb OK done\n")
}

// TestSilent holds the example 5 of the whole.
func TestSilent(t *testing.T) {
	b := lets(t, 1)
	answers(t, b, 0, "b STORE 1 FLAGS.SILENT (\\Seen)", "b OK done\n")
	runs(t, b, "list 0", "1 ()", "same 0", "yes")
	answers(t, b, 0, "c NOOP", "* 1 FETCH (UID 1 FLAGS (\\Seen))\nc OK done\n")
	runs(t, b, "list 0", "1 (\\Seen)", "same 0", "yes")
}

// TestRefused holds the examples 6 to 9 of the whole.
func TestRefused(t *testing.T) {
	b := lets(t, 3)
	answers(t, b, 0, "a APPEND x {65537}", "a BAD literal\n")
	answers(t, b, 0, "b FETCH 9 UID", "b BAD set\n")
	answers(t, b, 0, "c UID FETCH 9 UID", "c OK done\n")
	answers(t, b, 0, "d SELECT y", "d NO none\n")
	runs(t, b, "list 0", "none", "same 0", "none", "check", "check -1")
	full := running(t, "server 1 3 1 x")
	answers(t, full, 0, "a SELECT x", greeting(0, 1)+"a OK [READ-WRITE] done\n")
	answers(t, full, 0, "a APPEND x {2}\r\nhi", "+ go\na NO full\n")
	runs(t, full, "list 0", "empty", "audit", "slots 3 1 1 0", "check", "check -1")
}

// kept is how many slots are kept.
func kept(t *testing.T, b *bench.Bench) int {
	t.Helper()
	var slots, used, met, kept int
	if _, err := fmt.Sscanf(b.Line("audit"), "slots %d %d %d %d\n", &slots, &used, &met, &kept); err != nil {
		t.Fatal(err)
	}
	return kept
}

// TestUnselect holds the example 10 of the whole: as long as a client has selected the box, what it could reach is kept.
func TestUnselect(t *testing.T) {
	b := lets(t, 3)
	change := func(times int) {
		for range times {
			for _, flags := range []string{"()", "(\\Seen)"} {
				b.Line("part 1 b STORE 1:3 FLAGS.SILENT " + flags + "\r\nb NOOP\r\n")
				b.Line("rest")
			}
		}
	}
	change(2)
	before := kept(t, b)
	change(2)
	if held := kept(t, b); held <= before {
		t.Errorf("example 10: what a client may reach is kept: %d slots, and %d later", before, held)
	}
	answers(t, b, 0, "b UNSELECT", "b OK done\n")
	change(2)
	if now := kept(t, b); now >= before {
		t.Errorf("example 10: when nobody can reach them any more %d slots are kept, and %d ahead", now, before)
	}
	runs(t, b, "same 1", "yes", "check", "check -1")
}
