package client_test

import (
	"math/rand"
	"slices"
	"strings"
	"testing"

	"postchaise/api"
	"postchaise/client"
	"postchaise/item"
	"postchaise/reply"
	"postchaise/server"
)

// asks are what clients ask for, so that messages come, change and go.
var asks = []string{
	"SELECT a", "SELECT b", "SELECT c", "UNSELECT", "NOOP", "NOOP", "EXPUNGE", "EXPUNGE", "UID EXPUNGE", "FLAGS ()",
	"APPEND a (\\Seen) {17}\r\n* FLAGS ()\r\na OK \r\n", "APPEND a (\\Deleted) {0}\r\n", "APPEND a {14}\r\n)\r\n* 1 EXPUNGE", "APPEND b (\\Draft) {1}\r\nx",
	"STORE 2 FLAGS (\\Deleted \\Seen)", "STORE * +FLAGS.SILENT (\\Deleted)", "UID STORE 1:5 -FLAGS (\\Deleted)", "UID STORE 3:* FLAGS.SILENT (\\Flagged)", "STORE 1:* -FLAGS (\\Seen)",
	"FETCH 1:* BODY.PEEK[]", "FETCH 2 (UID FLAGS RFC822.SIZE BODY.PEEK[])", "UID FETCH 1:* FLAGS", "FETCH 1 FLAGS", "FETCH 99 UID",
	"SEARCH ALL", "UID SEARCH LARGER 3", "COPY 1:* b", "UID COPY 1:* a", "COPY 2 a", "COPY 1 c",
}

// hearer is a session's client, and how much of its output it took.
type hearer struct {
	client *client.Client
	took   int
}

// hear takes some more bytes of an output.
func (h *hearer) hear(t *testing.T, out string, size int) {
	t.Helper()
	text := out[h.took:][:size]
	if err := h.client.Take(text); err != api.OK {
		t.Fatalf("P22.2: %q can't be taken: error %d", text, err)
	}
	h.took += size
}

// sizes are how long the lines of a text are.
func sizes(t *testing.T, text string) []int {
	t.Helper()
	l, err := reply.Parse(text)
	if err != api.OK {
		t.Fatalf("P22.2: %.1000q: error %d", text, err)
	}
	var all []int
	for _, line := range l {
		size := strings.Index(text, "\r\n") + len("\r\n")
		if line.Items&item.Body != 0 {
			size += len(line.Rec.Text) + len(")\r\n")
		}
		all = append(all, size)
		text = text[size:]
	}
	if text != "" {
		t.Fatalf("P22.2: behind all lines %q is left", text)
	}
	return all
}

// holdSame holds that a client that took all its output has the list that its session has.
func holdSame(t *testing.T, s *server.Server, who int, c *client.Client) {
	t.Helper()
	if l, ok := s.Session(who).List(); ok && (!slices.Equal(c.List(), l) || !c.Rises()) {
		t.Fatalf("P22.2: the client of %d has %v, not %v; its numbers rise: %v", who, c.List(), l, c.Rises())
	}
}

// holdCounts holds how often a client was told each way of an end against the log.
func holdCounts(t *testing.T, s *server.Server, who int, c *client.Client) {
	t.Helper()
	want := map[string]int{}
	for _, e := range s.Log() {
		if e.Who == who {
			last := e.Reply[:len(e.Reply)-len("\r\n")]
			last = last[strings.LastIndex(last, "\n")+1:]
			want[strings.Fields(last)[1]]++
		}
	}
	if ok, no, bad := c.Ends(); ok != want["OK"] || no != want["NO"] || bad != want["BAD"] {
		t.Fatalf("P22.2: the client of %d was told %d OK, %d NO, %d BAD, not %v", who, ok, no, bad, want)
	}
}

// hearing is a server, and of each session a client that hears all at once, and one that hears it in parts, later.
type hearing struct {
	s               *server.Server
	r               *rand.Rand
	atOnce, inParts []*hearer
}

// newHearing is a server whose sessions are asked to select a box.
func newHearing(t *testing.T, r *rand.Rand) *hearing {
	t.Helper()
	sessions := 1 + r.Intn(4)
	s, err := server.New(server.Config{Sessions: sessions, Slots: 20 + r.Intn(300), Names: []string{"a", "b"}, Next: 1 + uint32(r.Intn(3)), Valid: 7})
	if err != api.OK {
		t.Fatalf("P20.1: error %d", err)
	}
	h := &hearing{s: s, r: r}
	for who := range sessions {
		h.atOnce, h.inParts = append(h.atOnce, &hearer{client: client.New()}), append(h.inParts, &hearer{client: client.New()})
		s.Feed(who, []byte("b SELECT a\r\n"))
	}
	return h
}

// step makes a step of a session, whose client hears at once what it is told; if a command is over by that, it has the session's list.
func (h *hearing) step(t *testing.T, who int) {
	t.Helper()
	before := h.atOnce[who].took
	h.s.Step(who)
	if out := h.s.Output(who); len(out) > before {
		h.atOnce[who].hear(t, out, len(out)-before)
		holdSame(t, h.s, who, h.atOnce[who].client)
	}
}

// hearPart lets a client hear some lines more.
func (h *hearing) hearPart(t *testing.T, who int) {
	t.Helper()
	out := h.s.Output(who)
	lines := sizes(t, out[h.inParts[who].took:])
	size := 0
	for _, line := range lines[:h.r.Intn(len(lines)+1)] {
		size += line
	}
	h.inParts[who].hear(t, out, size)
}

// end lets all be done, and heard: then all clients of a session know the same.
func (h *hearing) end(t *testing.T) {
	t.Helper()
	h.s.Rest(100000)
	for who := range h.atOnce {
		out := h.s.Output(who)
		all := &hearer{client: client.New()}
		all.hear(t, out, len(out))
		for _, one := range []*hearer{all, h.atOnce[who], h.inParts[who]} {
			one.hear(t, out, len(out)-one.took)
			holdSame(t, h.s, who, one.client)
			holdCounts(t, h.s, who, one.client)
			if got, want := one.client.List(), all.client.List(); !slices.Equal(got, want) {
				t.Fatalf("P22.2: in parts the client of %d has %v, not %v", who, got, want)
			}
		}
	}
}

// TestServer: whatever clients ask for, and however the steps come, each client has its session's list, in whatever parts it takes its lines.
func TestServer(t *testing.T) {
	r := rand.New(rand.NewSource(23))
	known := 0
	for range 100 {
		h := newHearing(t, r)
		for range 150 {
			h.s.Feed(r.Intn(len(h.atOnce)), []byte("b "+asks[r.Intn(len(asks))]+"\r\n"))
			for range r.Intn(40) {
				h.step(t, r.Intn(len(h.atOnce)))
			}
			h.hearPart(t, r.Intn(len(h.atOnce)))
		}
		h.end(t)
		for who := range h.atOnce {
			if l, ok := h.s.Session(who).List(); ok && len(l) > 2 {
				known++
			}
		}
	}
	if known < 50 {
		t.Errorf("just %d sessions had a list of three entries at the end", known)
	}
}
