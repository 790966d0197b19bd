package bench_test

import (
	"fmt"
	"math/rand"
	"regexp"
	"slices"
	"strconv"
	"strings"
	"testing"

	"postchaise/api"
	"postchaise/audit"
	"postchaise/bench"
	"postchaise/client"
	"postchaise/hist"
	"postchaise/server"
)

// other is a bench that reads its lines by expressions.
type other struct {
	s    *server.Server
	c    server.Config
	told map[int]int
}

// The expressions of all lines; # stands for a number.
var (
	serverForm = formOf(`server # # #((?: [^ ]+){1,9})`)
	sendForm   = formOf(`(feed|part) # ((?s:.*))`)
	stepForm   = formOf(`step # #`)
	bareForm   = formOf(`(rest|check|audit)`)
	oneForm    = formOf(`(out|list|same) #`)
)

// formOf is the expression of whole lines of a form.
func formOf(form string) *regexp.Regexp {
	return regexp.MustCompile(`\A` + strings.ReplaceAll(form, "#", "(0|[1-9][0-9]{0,8})") + `\z`)
}

// num is a number.
func num(s string) int {
	n, _ := strconv.Atoi(s)
	return n
}

// line is what a line tells.
func (o *other) line(line string) string {
	if line == "" {
		return ""
	}
	if m := serverForm.FindStringSubmatch(line); m != nil {
		return o.begin(server.Config{Sessions: num(m[1]), Slots: num(m[2]), Names: strings.Split(m[4][1:], " "), Next: uint32(num(m[3])), Valid: 7})
	}
	send, step, bare, one := sendForm.FindStringSubmatch(line), stepForm.FindStringSubmatch(line), bareForm.FindStringSubmatch(line), oneForm.FindStringSubmatch(line)
	switch {
	case send == nil && step == nil && bare == nil && one == nil:
		return "error 2\n"
	case o.s == nil:
		return "error 8\n"
	case send != nil:
		return o.send(num(send[2]), send[3]+map[string]string{"feed": "\r\n"}[send[1]])
	case step != nil:
		return o.step(num(step[1]), num(step[2]))
	case bare != nil:
		return o.bare(bare[1])
	}
	return o.one(one[1], num(one[2]))
}

// begin makes a server.
func (o *other) begin(c server.Config) string {
	s, err := server.New(c)
	*o = other{s: s, c: c, told: map[int]int{}}
	if err != api.OK {
		return fmt.Sprintf("error %d\n", err)
	}
	return "ok\n"
}

// send lets a client send.
func (o *other) send(who int, text string) string {
	if who >= o.c.Sessions {
		return "error 7\n"
	}
	o.s.Feed(who, []byte(text))
	return "ok\n"
}

// step makes steps.
func (o *other) step(who, steps int) string {
	made := 0
	for range min(steps, 1000) {
		if !o.s.Idle(who) {
			o.s.Step(who)
			made++
		}
	}
	return fmt.Sprintf("steps %d\n", made)
}

// bare is what a line of one word tells.
func (o *other) bare(word string) string {
	switch word {
	case "rest":
		return fmt.Sprintf("rounds %d\n", o.s.Rest(100000))
	case "check":
		return fmt.Sprintf("check %d\n", hist.Check(o.c, o.s.Log()))
	}
	r := audit.Of(o.s.Space())
	return strings.TrimSuffix(fmt.Sprintln("slots", r.Slots, r.Used, r.Met, r.Kept, r.Wrong), " \n") + "\n"
}

// one is what a line tells of a session.
func (o *other) one(word string, who int) string {
	if word == "out" {
		new := o.s.Output(who)[o.told[who]:]
		o.told[who] += len(new)
		return strings.ReplaceAll(new, "\r", "")
	}
	if who >= o.c.Sessions {
		return "none\n"
	}
	l, ok := o.s.Session(who).List()
	if !ok {
		return "none\n"
	}
	if word == "list" {
		told := ""
		for _, e := range l {
			told += fmt.Sprintf("%d %s\n", e.Uid, e.Flags)
		}
		return told + map[bool]string{true: "empty\n"}[told == ""]
	}
	c := client.New()
	c.Take(o.s.Output(who))
	return map[bool]string{true: "yes\n", false: "no\n"}[slices.Equal(c.List(), l)]
}

// asks are what clients ask for.
var asks = []string{
	"SELECT x", "SELECT x", "SELECT y", "SELECT z", "UNSELECT", "NOOP", "NOOP", "EXPUNGE", "EXPUNGE", "FLAGS ()", "",
	"APPEND x (\\Seen) {17}\r\n* FLAGS ()\r\na OK \r\n", "APPEND x (\\Deleted) {0}\r\n", "APPEND x {14}\r\n)\r\n* 1 EXPUNGE", "APPEND y (\\Draft) {1}\r\nx", "APPEND x {65537}",
	"STORE 2 FLAGS (\\Deleted \\Seen)", "STORE * +FLAGS.SILENT (\\Deleted)", "UID STORE 1:5 -FLAGS (\\Deleted)", "UID STORE 3:* FLAGS.SILENT (\\Flagged)",
	"FETCH 1:* BODY.PEEK[]", "FETCH 2 (UID FLAGS RFC822.SIZE BODY.PEEK[])", "UID FETCH 1:* FLAGS", "FETCH 99 UID",
	"SEARCH ALL", "UID SEARCH LARGER 3", "COPY 1:* y", "UID COPY 1:* x", "COPY 2 x", "COPY 1 z",
}

// linesOf are one or more lines without a byte 10, which are right, but for their numbers: what a client asks for comes whole.
func linesOf(r *rand.Rand) []string {
	who := r.Intn(4)
	switch r.Intn(16) {
	case 0:
		return []string{fmt.Sprintf("part %d %s", who, []string{"a ", "a NOOP", "\r", "", " ", "{3}"}[r.Intn(6)])}
	case 1, 2, 3:
		return []string{fmt.Sprintf("step %d %d", who, []int{0, 1, 5, 40, 1000, 1001}[r.Intn(6)])}
	case 4, 5:
		return []string{[]string{"rest", "rest", "check", "audit", "out 0", "out 999999999"}[r.Intn(6)]}
	case 6, 7, 8:
		return []string{fmt.Sprintf("%s %d", []string{"out", "list", "same"}[r.Intn(3)], who)}
	case 9:
		if r.Intn(6) > 0 {
			return []string{""}
		}
		return []string{"server " + []string{"3 200 1 x y", "3 20 9 x y z", "1 1 1 x", "2 3 1 x y", "9 1 1 x", "2 100 0 x", "3 100 1 x x"}[r.Intn(7)]}
	}
	var l []string
	for _, line := range strings.Split(strings.ReplaceAll(asks[r.Intn(len(asks))], "\n", ""), "\r") {
		l = append(l, fmt.Sprintf("feed %d %s", who, line))
	}
	l[0] = strings.Replace(l[0], fmt.Sprintf("feed %d ", who), fmt.Sprintf("feed %d a ", who), 1)
	return l
}

// anyLines are lines of a bench that has a server, whose clients select a box; some are not right.
func anyLines(r *rand.Rand, most int) []string {
	l := []string{"server 3 200 1 x y", "feed 0 a SELECT x", "feed 1 a SELECT x", "feed 2 a SELECT y"}
	for range r.Intn(most) {
		lines := linesOf(r)
		if line := lines[0]; r.Intn(12) == 0 && line != "" {
			at := r.Intn(len(line))
			lines[0] = line[:at] + []string{"", " ", "0", "1", "x", "-", "\r"}[r.Intn(7)] + line[at+r.Intn(2):]
		}
		l = append(l, lines...)
	}
	return l
}

// TestAnyLines holds a bench against the other one, line by line, and whole.
func TestAnyLines(t *testing.T) {
	r := rand.New(rand.NewSource(24))
	told := ""
	for range 1000 {
		lines := anyLines(r, 150)[r.Intn(4)/3:]
		b, o, all := bench.New(), &other{}, ""
		for _, line := range lines {
			want := o.line(line)
			tells(t, b, line, want)
			all += want
		}
		if got := bench.Run(strings.Join(lines, "\n")); got != all {
			t.Fatalf("P24.1: %q tells %q, not %q", lines, got, all)
		}
		told += all
	}
	for _, some := range []string{"error 2\n", "error 7\n", "error 8\n", "error 11\n", "yes\n", "none\n", "empty\n", "NO full\n", "BAD literal\n", "check -1\n", "1 ()\n", "EXPUNGE\n", "+ go\n"} {
		if strings.Count(told, some) < 10 {
			t.Errorf("%q is told just %d times", some, strings.Count(told, some))
		}
	}
}

// TestAllWords holds all lines of few words, with and without a server.
func TestAllWords(t *testing.T) {
	b, o := bench.New(), &other{}
	words := []string{"", "server", "feed", "part", "step", "rest", "out", "list", "same", "check", "audit", "0", "3", "01", "x"}
	for _, first := range words {
		hold := func(line string) {
			for _, ahead := range []string{"server 2 20 1 x", "server 0 0 0 x"} {
				tells(t, b, ahead, o.line(ahead))
				tells(t, b, line, o.line(line))
				tells(t, b, "list 0", o.line("list 0"))
			}
		}
		hold(first)
		for _, second := range words {
			hold(first + " " + second)
			for _, third := range words {
				hold(first + " " + second + " " + third)
			}
		}
	}
	for n := range 6 * 6 * 6 * 6 * 6 {
		line := "server"
		for range 5 {
			line += " " + []string{"", "0", "3", "01", "x", "y"}[n%6]
			n /= 6
		}
		tells(t, b, line, o.line(line))
	}
}

// TestLineFeeds: in a line a byte 10 is any byte of a word, or of a text; in a text of lines it parts them.
func TestLineFeeds(t *testing.T) {
	b := bench.New()
	runs(t, b, "server 1 20 1 x\nfeed", "ok", "feed 0 a SELECT \"x\nfeed\"", "ok")
	b.Line("rest")
	runs(t, b, "out 0", "a BAD form", "part 0 a NOOP\r\nrest\n", "ok", "rest\nrest", "error 2", "rest\n", "error 2", "\n", "error 2", "\n\n", "error 2", "rest", "rounds 1", "out 0", "a OK done", "part 0 \r\n", "ok", "rest", "rounds 1", "out 0", "* BAD form")
	for text, want := range map[string]string{
		"":                     "",
		"\n":                   "",
		"\n\n\n":               "",
		"rest":                 "error 8\n",
		"rest\n":               "error 8\n",
		"\nrest\n\nrest":       "error 8\nerror 8\n",
		"rest\r\nrest":         "error 2\nerror 8\n",
		"server 1 1 1 x\nrest": "ok\nrounds 0\n",
		"server 1 1 1 x\r\nfeed 0 a NOOP\nrest\nout 0\n": "ok\nok\nrounds 1\na OK done\n",
	} {
		if got := bench.Run(text); got != want {
			t.Errorf("P24.1: %q tells %q, not %q", text, got, want)
		}
	}
}

// TestTwoTexts: two texts tell what the first one tells, and more; each bench begins anew.
func TestTwoTexts(t *testing.T) {
	r := rand.New(rand.NewSource(242))
	for range 200 {
		one, two := strings.Join(anyLines(r, 60), "\n"), strings.Join(anyLines(r, 60)[1:], "\n")
		told, both := bench.Run(one), bench.Run(one+"\n"+two)
		if !strings.HasPrefix(both, told) || bench.Run(one) != told {
			t.Fatalf("P24.2: %q and %q tell %q, but the first one %q", one, two, both, told)
		}
	}
}

// TestWrongBetween: lines that are wrong change nothing, wherever they stand.
func TestWrongBetween(t *testing.T) {
	r := rand.New(rand.NewSource(243))
	wrong := wrongs()
	for range 200 {
		with, without := bench.New(), bench.New()
		for _, line := range anyLines(r, 100) {
			for range r.Intn(3) {
				tells(t, with, wrong[r.Intn(len(wrong))], "error 2\n")
			}
			tells(t, with, line, without.Line(line))
		}
	}
}

// whole is a bench at whose rests all is as the document's promises of the whole have it.
type whole struct {
	b        *bench.Bench
	sessions int
}

// rest lets all be done, and holds that.
func (w whole) rest(t *testing.T) {
	t.Helper()
	w.b.Line("rest")
	tells(t, w.b, "rest", "rounds 0\n")
	tells(t, w.b, "check", "check -1\n")
	var slots, used, met, kept int
	told := w.b.Line("audit")
	if n, err := fmt.Sscanf(told, "slots %d %d %d %d\n", &slots, &used, &met, &kept); n != 4 || err != nil || used != met+kept || used > slots {
		t.Fatalf("P6: the audit tells %q", told)
	}
	for who := range w.sessions {
		list, same := w.b.Line(fmt.Sprintf("list %d", who)), w.b.Line(fmt.Sprintf("same %d", who))
		if same != "yes\n" && (same != "none\n" || list != same) {
			t.Fatalf("P4: of the list %q it is told %q", list, same)
		}
	}
}

// TestWhole: whatever clients ask for, and however the steps come, all was answered in one order, each client has its session's list, and the space is whole.
func TestWhole(t *testing.T) {
	r := rand.New(rand.NewSource(244))
	for range 100 {
		sessions := 1 + r.Intn(8)
		w := whole{running(t, fmt.Sprintf("server %d %d %d x y", sessions, 2+r.Intn(200), 1+r.Intn(20))), sessions}
		for range 100 {
			w.b.Line(fmt.Sprintf("part %d a %s\r\n", r.Intn(sessions), asks[r.Intn(len(asks))]))
			for range r.Intn(40) {
				tells(t, w.b, fmt.Sprintf("step %d %d", sessions, r.Intn(5)), "steps 0\n")
				w.b.Line(fmt.Sprintf("step %d %d", r.Intn(sessions), r.Intn(5)))
			}
			if got := w.b.Line("audit"); !regexp.MustCompile(`\Aslots [0-9 ]+\n\z`).MatchString(got) {
				t.Fatalf("P23.2: on the way the audit tells %q", got)
			}
			if r.Intn(20) == 0 {
				w.rest(t)
			}
		}
		w.rest(t)
	}
}

// TestAnyBytes: whatever lines come, a bench tells something, and tells what it did not tell by then.
func TestAnyBytes(t *testing.T) {
	r := rand.New(rand.NewSource(245))
	for range 3000 {
		b := make([]byte, r.Intn(80))
		for i := range b {
			b[i] = "\x00\n\r 019x{}+*\xff"[r.Intn(13)]
		}
		first := []string{"", "server ", "server 1 20 1 ", "feed 0 ", "part 0 ", "step ", "rest", "out ", "list ", "same ", "check", "audit"}[r.Intn(12)]
		line := first + string(b)
		one := running(t, "server 1 20 1 x")
		o := &other{}
		o.line("server 1 20 1 x")
		tells(t, one, line, o.line(line))
		tells(t, one, "rest", o.line("rest"))
		tells(t, one, "out 0", o.line("out 0"))
		bench.Run(line)
	}
}
