package hist_test

import (
	"math"
	"math/rand"
	"slices"
	"strings"
	"testing"

	"postchaise/api"
	"postchaise/hist"
	"postchaise/server"
)

// asks are what clients ask for, mostly of one box, so that they get into one another's way.
var asks = []string{
	"SELECT x", "SELECT x", "SELECT y", "SELECT none", "UNSELECT", "NOOP", "EXPUNGE", "EXPUNGE",
	"APPEND x () {2}\r\nhi", "APPEND x (\\Deleted) {0}\r\n", "APPEND y {1}\r\n\n", "APPEND none {0}\r\n",
	"STORE 1 +FLAGS (\\Deleted)", "STORE 1:* FLAGS.SILENT (\\Seen)", "UID STORE 1:* -FLAGS (\\Deleted)", "UID STORE 1:3 +FLAGS.SILENT (\\Draft)",
	"FETCH 1 (FLAGS BODY.PEEK[])", "FETCH 1:* UID", "UID FETCH 2:* RFC822.SIZE",
	"SEARCH NOT SEEN", "UID SEARCH DELETED", "COPY 1:2 y", "COPY * x", "UID COPY 1:* x",
	"SLEEP", "APPEND x {65537}", strings.Repeat("x", 8192),
}

// begun is a server whose sessions have selected a box with two messages.
func begun(t *testing.T, c server.Config) *server.Server {
	t.Helper()
	s, err := server.New(c)
	if err != api.OK {
		t.Fatalf("P20.1: error %d", err)
	}
	send(s, 0, "APPEND x (\\Deleted) {3}\r\none")
	send(s, 0, "APPEND x {3}\r\ntwo")
	s.Rest(1000)
	for who := range c.Sessions {
		send(s, who, "SELECT x")
	}
	s.Rest(1000)
	return s
}

// send sends what a client asks for.
func send(s *server.Server, who int, ask string) {
	s.Feed(who, []byte("a "+ask+"\r\n"))
}

// holdAll lets all be done, and holds that it was answered in one order.
func holdAll(t *testing.T, c server.Config, s *server.Server) {
	t.Helper()
	s.Rest(100000)
	l := s.Log()
	switch place := hist.Check(c, l); {
	case place == notRight:
		t.Fatalf("P21.3: a log of %d entries is not right", len(l))
	case place != noneWrong:
		t.Fatalf("P21.3: the entry %d of %d, %.100q, should not be told %.1000q", place, len(l), l[place].Piece.Text, l[place].Reply)
	}
}

// TestBetween does each command between any two steps of each other one.
func TestBetween(t *testing.T) {
	c := config("x", "y")
	for _, one := range asks {
		for _, other := range asks {
			for steps, over := 0, false; !over; steps++ {
				s := begun(t, c)
				send(s, 0, one)
				send(s, 1, other)
				for range steps {
					s.Step(0)
				}
				over = s.Idle(0)
				for s.Step(1) {
				}
				s.Rest(1000)
				send(s, 0, "UID FETCH 1:* (FLAGS BODY.PEEK[])")
				holdAll(t, c, s)
			}
		}
	}
}

// anyConfig is any config, now and then of few slots, or few numbers.
func anyConfig(r *rand.Rand) server.Config {
	c := server.Config{Sessions: 1 + r.Intn(8), Slots: 4096, Names: []string{"x", "y"}, Next: 1, Valid: r.Uint32()}
	if r.Intn(3) == 0 {
		c.Slots = 15 + r.Intn(60)
	}
	if r.Intn(3) == 0 {
		c.Next = math.MaxUint32 - uint32(3+r.Intn(20))
	}
	return c
}

// TestAny: whatever clients ask for, and however the steps come, all was answered in one order; and where a reply is another one, that is found.
func TestAny(t *testing.T) {
	r := rand.New(rand.NewSource(21))
	ends := map[string]int{}
	for range 200 {
		c := anyConfig(r)
		s := begun(t, c)
		burst := 1 + r.Intn(60)
		for range 150 {
			send(s, r.Intn(c.Sessions), asks[r.Intn(len(asks))])
			for range r.Intn(burst) {
				s.Step(r.Intn(c.Sessions))
			}
			// A change that is under way may have taken effect, and be seen, but is not in the log yet: so just that this is right is asked at any moment.
			if !hist.Right(c, s.Log()) {
				t.Fatalf("P21.3: a log of %d entries is not right", len(s.Log()))
			}
			if r.Intn(30) == 0 {
				holdAll(t, c, s)
			}
		}
		holdAll(t, c, s)
		for _, e := range s.Log() {
			parts := strings.Fields(e.Reply[strings.LastIndex(e.Reply[:len(e.Reply)-2], "\n")+1:])
			ends[parts[1]+" "+strings.Trim(parts[2], "[]")]++
		}
		holdSpoilt(t, r, c, s.Log())
	}
	for _, end := range []string{"OK done", "OK READ-WRITE", "OK APPENDUID", "OK COPYUID", "NO full", "NO uid", "NO none", "NO TRYCREATE", "BAD set", "BAD state", "BAD form", "BAD literal", "BAD long"} {
		if ends[end] < 20 {
			t.Errorf("just %d pieces ended with %q", ends[end], end)
		}
	}
}

// holdSpoilt spoils some replies of a log, and holds that the first one of them is found.
func holdSpoilt(t *testing.T, r *rand.Rand, c server.Config, l []server.Entry) {
	t.Helper()
	for range 5 {
		spoilt := slices.Clone(l)
		first := -1
		for range 1 + r.Intn(3) {
			place := r.Intn(len(l))
			if at := r.Intn(len(l[place].Reply)); spoilt[place].Reply == l[place].Reply {
				b := []byte(l[place].Reply)
				b[at] ^= byte(1 + r.Intn(255))
				spoilt[place].Reply = string(b)
			}
			if first < 0 || l[place].Mark < l[first].Mark || l[place].Mark == l[first].Mark && place < first {
				first = place
			}
		}
		if got := hist.Check(c, spoilt); got != first {
			t.Fatalf("P21.2: the entry %d of %d is told otherwise, not %d", first, len(l), got)
		}
	}
}

// TestBusy: a change that is told that it was tried too often is answered so by the model, too.
func TestBusy(t *testing.T) {
	c := config("x")
	c.Slots = 4096
	s := begun(t, c)
	send(s, 0, "APPEND x {1}\r\ny")
	for !s.Idle(0) {
		send(s, 1, "STORE 1 FLAGS.SILENT (\\Seen)")
		send(s, 1, "STORE 1 FLAGS.SILENT ()")
		for s.Step(1) {
		}
		s.Run(0, 0, 0, 0, 0, 0)
	}
	if !strings.HasSuffix(s.Output(0), "a NO busy\r\n") {
		t.Errorf("P21.3: %q", s.Output(0))
	}
	holdAll(t, c, s)
}
