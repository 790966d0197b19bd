package server_test

import (
	"cmp"
	"math"
	"math/rand"
	"slices"
	"strconv"
	"strings"
	"testing"

	"postchaise/act"
	"postchaise/api"
	"postchaise/command"
	"postchaise/feed"
	"postchaise/item"
	"postchaise/list"
	"postchaise/model"
	"postchaise/reply"
	"postchaise/server"
	"postchaise/tree"
)

// world is a server, and all bytes that its clients sent.
type world struct {
	c    server.Config
	s    *server.Server
	sent []string
}

// newWorld makes a world.
func newWorld(t *testing.T, c server.Config) *world {
	t.Helper()
	return &world{c: c, s: made(t, c), sent: make([]string, c.Sessions)}
}

// send sends bytes of a client.
func (w *world) send(t *testing.T, who int, text string) {
	t.Helper()
	send(t, w.s, who, text)
	w.sent[who] += text
}

// step makes a step of a session, and holds what is promised of any.
func (w *world) step(t *testing.T, who int) {
	t.Helper()
	time, idle, entries, out := w.s.Space().Mem().Time(), w.s.Idle(who), len(w.s.Log()), w.s.Output(who)
	stepped := w.s.Step(who)
	accesses := w.s.Space().Mem().Time() - time
	if stepped == idle || accesses > 1 || idle && accesses > 0 {
		t.Fatalf("P20.2: a step of %d: %v, it was idle: %v; %d accesses", who, stepped, idle, accesses)
	}
	l := w.s.Log()
	told, ok := strings.CutPrefix(w.s.Output(who), out)
	switch {
	case !ok || len(l) > entries+1 || len(l) < entries:
		t.Fatalf("P20.1: a step of %d makes the output %q of %q", who, w.s.Output(who), out)
	case len(l) == entries && told != "" && told != "+ go\r\n":
		t.Fatalf("P20.1: a step of %d tells %q, but nothing is over", who, told)
	case len(l) > entries && (l[entries].Who != who || l[entries].Reply != told || l[entries].End != w.s.Space().Mem().Time()):
		t.Fatalf("P20.1: a step of %d tells %q, and notes %v", who, told, l[entries])
	}
	if used := w.s.Space().Arena().Used(); used > w.c.Slots {
		t.Fatalf("P6: %d slots are used", used)
	}
}

// holdLog holds the log against what the document says of any, and against a model that does all in the order of the marks.
func (w *world) holdLog(t *testing.T) {
	t.Helper()
	l := w.s.Log()
	ends := make([]uint64, w.c.Sessions)
	last := uint64(0)
	for _, e := range l {
		if e.Begin < ends[e.Who] || e.Mark < e.Begin || e.End < e.Mark || e.End < last || e.Piece.Kind == goOn {
			t.Fatalf("P20.1: the entry %v, behind %d", e, last)
		}
		ends[e.Who], last = e.End, e.End
	}
	var boxes []model.Box
	for _, name := range w.c.Names {
		boxes = append(boxes, model.Box{Name: name, Next: w.c.Next, Valid: w.c.Valid})
	}
	m, _ := model.New(w.c.Sessions, boxes...)
	slices.SortStableFunc(l, func(a, b server.Entry) int { return cmp.Compare(a.Mark, b.Mark) })
	for _, e := range l {
		if want := answer(m, e); e.Reply != want {
			t.Fatalf("P2: %.200q of %d at %d is told\n%.1000q\nnot\n%.1000q", e.Piece.Text, e.Who, e.Mark, e.Reply, want)
		}
	}
	for who := range w.c.Sessions {
		got, has := w.s.Session(who).List()
		if want, ok := m.List(who); has != ok || !slices.Equal(got, want) {
			t.Fatalf("P2: the list of %d: %v %v, not %v %v", who, got, has, want, ok)
		}
	}
}

// answer is what a model tells of an entry's piece.
func answer(m *model.Model, e server.Entry) string {
	why := [...]string{whole: "form", tooBig: "literal", tooLong: "long"}[e.Piece.Kind]
	if c, err := command.Parse(e.Piece.Text); err == api.OK && e.Piece.Kind == whole {
		lines, _ := m.Do(e.Who, c, e.Limit)
		return reply.Print(lines...)
	}
	tag := "*"
	if head, _, ok := strings.Cut(e.Piece.Text, " "); ok && command.Tag(head+" ") == head && head != "" {
		tag = head
	}
	return tag + " BAD " + why + lineEnd
}

// holdOutput holds a session's output: the replies of its entries, and go ons between, as the pieces that came ask for.
func (w *world) holdOutput(t *testing.T, who int) {
	t.Helper()
	var replies []server.Entry
	for _, e := range w.s.Log() {
		if e.Who == who {
			replies = append(replies, e)
		}
	}
	var want strings.Builder
	pieces := feed.New().Take([]byte(w.sent[who]))
	for _, piece := range pieces {
		switch {
		case piece.Kind == goOn:
			want.WriteString("+ go\r\n")
		case len(replies) == 0 || replies[0].Piece != piece:
			t.Fatalf("P20.3: of %d came %.200q, but it is not answered", who, piece.Text)
		default:
			want.WriteString(replies[0].Reply)
			replies = replies[1:]
		}
	}
	if got := w.s.Output(who); got != want.String() || len(replies) > 0 {
		t.Fatalf("P20.3: the output of %d is\n%.2000q\nnot\n%.2000q", who, got, want.String())
	}
}

// holdClient holds that a client that plays all that a session is told has its list.
func (w *world) holdClient(t *testing.T, who int) {
	t.Helper()
	lines, err := reply.Parse(w.s.Output(who))
	if err != api.OK {
		t.Fatalf("P4: the output of %d can't be read", who)
	}
	var client list.List
	for _, line := range lines {
		if line.Kind == reply.Info && strings.HasPrefix(line.Text, "FLAGS ") {
			client = nil
		}
		note, ok := line.Note()
		if !ok {
			continue
		}
		if note.Kind == list.Fetch && note.Seq >= 1 && note.Seq <= len(client) {
			known := client[note.Seq-1]
			if line.Items&item.Uid == 0 {
				note.Entry.Uid = known.Uid
			}
			if line.Items&item.Flags == 0 {
				note.Entry.Flags = known.Flags
			}
		}
		if client, err = client.Play(note); err != api.OK {
			t.Fatalf("P4: %d is told %q", who, line)
		}
	}
	if l, ok := w.s.Session(who).List(); ok && !slices.Equal(l, client) {
		t.Fatalf("P4: the client of %d has %v, not %v", who, client, l)
	}
}

// wind does all that came, and holds what is promised then; when nobody has selected a box, just what the boxes have is used.
func (w *world) wind(t *testing.T) {
	t.Helper()
	for range 100000 {
		going := false
		for who := range w.c.Sessions {
			if !w.s.Idle(who) {
				w.step(t, who)
				going = true
			}
		}
		if !going {
			break
		}
	}
	rest(t, w.s)
	w.holdLog(t)
	for who := range w.c.Sessions {
		w.holdOutput(t, who)
		w.holdClient(t, who)
	}
	w.holdFree(t)
}

// holdFree lets all unselect, and collect.
func (w *world) holdFree(t *testing.T) {
	t.Helper()
	space := w.s.Space()
	for who := range w.c.Sessions {
		// Whatever line was broken off, and is too long, or waits for a literal, ends by so much.
		send(t, w.s, who, strings.Repeat("x", maxLiteral+maxLine)+lineEnd+lineEnd+"z UNSELECT"+lineEnd)
	}
	rest(t, w.s)
	for who := range w.c.Sessions {
		if space.Pinned(who) {
			t.Fatalf("P5: %d is pinned still: %.200q", who, w.s.Output(who))
		}
		for range 3 {
			act.Rest(100000, space.Collect(who))
		}
	}
	met := 0
	for _, slot := range space.Roots() {
		node, _ := space.Arena().At(slot)
		met++
		for range (tree.Tree{Root: node.Head.Root, Height: node.Head.Height}).Slots(space.Arena()) {
			met++
		}
	}
	if used := space.Arena().Used(); used != met || space.Kept() != 0 {
		t.Fatalf("P6: the boxes have %d slots, %d are used, %d are kept", met, used, space.Kept())
	}
}

// anyOf is any one of some texts.
func anyOf(r *rand.Rand, texts ...string) string {
	return texts[r.Intn(len(texts))]
}

// anyText is any command's text, or, now and then, what is none.
func anyText(r *rand.Rand) string {
	tag := anyOf(r, "a", "b1") + " "
	name := anyOf(r, "x", "x", "x", "y", `"my box"`, "{1}\r\nx")
	set := anyOf(r, "1", "1", "2", "1:*", "*", "1:3", "2:4,1")
	uid := anyOf(r, "", "UID ")
	switch r.Intn(16) {
	case 0:
		return anyOf(r, "", "a", "* ", "a+ ", " ") + anyOf(r, "UNSELECT", "NOOP", "NOOP ", "SLEEP", "SELECT {70000}", "NOOP \r", "\n")
	case 1:
		return tag + "APPEND " + name + anyOf(r, " {4}\r\n\r\n{1", " {0}\r\n ", " {1}\r\n", " {65536}", " {65537}")
	case 2:
		return tag + anyOf(r, "UNSELECT", "NOOP")
	case 3, 4:
		return tag + "SELECT " + name
	case 5, 6, 7, 8:
		return tag + "APPEND " + name + anyOf(r, "", " ()", " (\\Deleted)") + anyOf(r, " {3}\r\none", " {0}\r\n")
	case 9, 10:
		return tag + uid + "STORE " + set + " " + anyOf(r, "FLAGS", "+FLAGS", "-FLAGS", "+FLAGS.SILENT") + " " + anyOf(r, "(\\Seen)", "(\\Deleted)", "()")
	case 11:
		return tag + uid + "FETCH " + set + " " + anyOf(r, "FLAGS", "(UID BODY.PEEK[])")
	case 12:
		return tag + uid + "SEARCH " + anyOf(r, "ALL", "DELETED", "NOT 1", "BODY n")
	case 13, 14:
		return tag + uid + "COPY " + set + " " + name
	}
	return tag + "EXPUNGE"
}

// anyBytes are any bytes.
func anyBytes(r *rand.Rand) string {
	switch r.Intn(100) {
	case 0:
		return strings.Repeat("x", r.Intn(2*maxLine))
	case 1:
		return strings.Repeat("y", r.Intn(maxLiteral))
	case 2:
		b := make([]byte, r.Intn(20))
		for i := range b {
			b[i] = byte(r.Intn(256))
		}
		return string(b)
	case 3:
		return anyText(r) + anyOf(r, "", "\r", "\n", "\n\r")
	}
	return anyText(r) + lineEnd
}

// TestAny: any bytes come, in any parts, and steps are made in any order, as they are picked or in turn.
func TestAny(t *testing.T) {
	r := rand.New(rand.NewSource(20))
	ends := map[string]int{}
	for i := range 150 {
		c := server.Config{Sessions: 1 + r.Intn(maxSessions), Slots: 4 + r.Intn(100), Names: []string{"x", "y", "my box"}[:1+r.Intn(3)], Next: 1 + uint32(r.Intn(9)), Valid: r.Uint32()}
		if i%3 == 0 {
			c.Slots = maxSlots
		}
		if i%5 == 0 {
			c.Next = math.MaxUint32 - uint32(r.Intn(9))
		}
		w := newWorld(t, c)
		pending := make([]string, c.Sessions)
		burst := 1 + r.Intn(40)
		for range 400 {
			who := r.Intn(c.Sessions)
			if len(pending[who]) == 0 {
				pending[who] = anyBytes(r)
			}
			n := 1 + r.Intn(len(pending[who])+1)
			n = min(n, len(pending[who]))
			w.send(t, who, pending[who][:n])
			pending[who] = pending[who][n:]
			for range r.Intn(burst) {
				w.step(t, r.Intn(c.Sessions))
			}
		}
		w.wind(t)
		for _, e := range w.s.Log() {
			parts := strings.Fields(e.Reply[strings.LastIndex(e.Reply[:len(e.Reply)-2], lineEnd)+1:])
			ends[parts[1]+" "+strings.Trim(parts[2], "[]")]++
		}
	}
	for _, end := range []string{"OK done", "OK READ-WRITE", "OK APPENDUID", "OK COPYUID", "NO full", "NO uid", "NO none", "NO TRYCREATE", "BAD set", "BAD state", "BAD form", "BAD literal", "BAD long"} {
		if ends[end] < 20 {
			t.Errorf("just %d pieces ended with %q", ends[end], end)
		}
	}
}

// TestParts: the same bytes, in whatever parts, come to the same, if all is done at the end.
func TestParts(t *testing.T) {
	r := rand.New(rand.NewSource(21))
	for range 60 {
		text := ""
		for range 20 {
			text += anyBytes(r)
		}
		want, got := newWorld(t, config(1, 300, "x", "y")), newWorld(t, config(1, 300, "x", "y"))
		want.send(t, 0, text)
		for len(text) > 0 {
			n := min(len(text), 1+r.Intn(50))
			got.send(t, 0, text[:n])
			got.send(t, 0, "")
			text = text[n:]
		}
		want.wind(t)
		got.wind(t)
		if !slices.Equal(want.s.Log(), got.s.Log()) || want.s.Output(0) != got.s.Output(0) {
			t.Fatalf("P20.3: %q in parts is told %q, not %q", want.sent[0], got.s.Output(0), want.s.Output(0))
		}
	}
}

// TestEveryByte: no single byte, or two, make anything stall.
func TestEveryByte(t *testing.T) {
	for a := range 256 {
		w := newWorld(t, config(1, 300, "x"))
		w.send(t, 0, "a SELECT x\r\nb APPEND x {1}\r\nx\r\n")
		for _, b := range []string{"", "\r", "\n", "{", "}", "(", "\x00", "\xff"} {
			w.send(t, 0, string([]byte{byte(a)})+b+lineEnd)
			w.send(t, 0, "c NOOP"+string([]byte{byte(a)})+b+lineEnd)
			w.send(t, 0, "c APPEND x {1}\r\n"+string([]byte{byte(a)})+b+lineEnd)
		}
		w.wind(t)
	}
}

// TestLiterals: a literal of the greatest size is taken, and one more byte is not.
func TestLiterals(t *testing.T) {
	w := newWorld(t, config(2, 300, "x"))
	great := strings.Repeat("\n", maxLiteral)
	w.send(t, 0, "a APPEND x {"+strconv.Itoa(maxLiteral)+"}\r\n"+great+lineEnd)
	w.send(t, 0, "b APPEND x {"+strconv.Itoa(maxLiteral+1)+"}\r\nc SELECT x\r\nd FETCH 1 (RFC822.SIZE BODY.PEEK[])\r\n")
	w.wind(t)
	want := "+ go\r\na OK [APPENDUID 7 1] done\r\nb BAD literal\r\n" + strings.Join(selected("c", "1", "2", "* 1 FETCH (UID 1 FLAGS ())"), lineEnd) + "\r\n* 1 FETCH (RFC822.SIZE 65536 BODY[] {65536}\r\n" + great + ")\r\nd OK done\r\n"
	if got := w.s.Output(0); !strings.HasPrefix(got, want) {
		t.Errorf("P5: %.1000q", got)
	}
}

// TestBusy: a command for which others come off ahead 64 times is told so, and the model agrees.
func TestBusy(t *testing.T) {
	w := newWorld(t, config(2, maxSlots, "x"))
	w.send(t, 0, "a APPEND x {1}\r\nx\r\na SELECT x\r\n")
	w.send(t, 1, "a NOOP\r\n")
	rest(t, w.s)
	w.send(t, 1, "a SELECT x\r\n")
	rest(t, w.s)
	w.send(t, 0, "b APPEND x {1}\r\ny\r\n")
	for !w.s.Idle(0) {
		w.send(t, 1, "c STORE 1 FLAGS.SILENT (\\Seen)\r\nd STORE 1 FLAGS.SILENT ()\r\n")
		for !w.s.Idle(1) {
			w.step(t, 1)
		}
		for range 6 {
			w.step(t, 0)
		}
	}
	if !strings.HasSuffix(w.s.Output(0), "b NO busy\r\n") || !slices.ContainsFunc(w.s.Log(), func(e server.Entry) bool { return e.Limit == api.ErrBusy && e.Who == 0 }) {
		t.Errorf("P2: %q", w.s.Output(0)[len(w.s.Output(0))-100:])
	}
	w.wind(t)
}
