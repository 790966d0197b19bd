package client_test

import (
	"fmt"
	"maps"
	"math"
	"math/rand"
	"slices"
	"strings"
	"testing"

	"postchaise/api"
	"postchaise/client"
	"postchaise/flags"
	"postchaise/item"
	"postchaise/list"
	"postchaise/reply"
	"postchaise/tree"
)

// mostNew is how many new entries one line may tell.
const mostNew = 65536

// lines is a text of lines.
func lines(l ...string) string {
	text := ""
	for _, line := range l {
		text += line + "\r\n"
	}
	return text
}

// of is the list of these numbers, without flags.
func of(uids ...uint32) list.List {
	var l list.List
	for _, uid := range uids {
		l = append(l, list.Entry{Uid: uid})
	}
	return l
}

// told is a client that took lines.
func told(t *testing.T, l ...string) *client.Client {
	t.Helper()
	c := client.New()
	if err := c.Take(lines(l...)); err != api.OK {
		t.Fatalf("P22.1: Take(%q): error %d", l, err)
	}
	return c
}

// holdList holds a client's list.
func holdList(t *testing.T, c *client.Client, want list.List) {
	t.Helper()
	if got := c.List(); !slices.Equal(got, want) {
		t.Errorf("P22.1: the list is %v, not %v", got, want)
	}
}

// holdEnds holds how often a client was told each way of an end.
func holdEnds(t *testing.T, c *client.Client, want ...int) {
	t.Helper()
	ok, no, bad := c.Ends()
	if got := []int{ok, no, bad}; !slices.Equal(got, want) {
		t.Errorf("P22.1: the ends are %v, not %v", got, want)
	}
}

// holdWrong holds that a text is turned down, and changes nothing.
func holdWrong(t *testing.T, c *client.Client, text string, want api.Errno) {
	t.Helper()
	l, ok, no, bad, rises := was(c)
	if err := c.Take(text); err != want {
		t.Errorf("P22.1: Take(%.200q): error %d, not %d", text, err, want)
	}
	if l2, ok2, no2, bad2, rises2 := was(c); !slices.Equal(l, l2) || ok != ok2 || no != no2 || bad != bad2 || rises != rises2 {
		t.Errorf("P22.1: Take(%.200q) changes %v, %d %d %d to %v, %d %d %d", text, l, ok, no, bad, l2, ok2, no2, bad2)
	}
}

// was is all that is to be seen of a client.
func was(c *client.Client) (l list.List, ok, no, bad int, rises bool) {
	ok, no, bad = c.Ends()
	return c.List(), ok, no, bad, c.Rises()
}

func TestNew(t *testing.T) {
	c := client.New()
	holdList(t, c, nil)
	holdEnds(t, c, 0, 0, 0)
	if !c.Rises() {
		t.Error("P22.1: of no numbers all are known, and rise")
	}
	if err := c.Take(""); err != api.OK {
		t.Errorf("P22.1: Take of nothing: error %d", err)
	}
	holdList(t, c, nil)
	// Two clients are not one.
	client.New().Take(lines("* 1 EXISTS", "a OK done"))
	holdList(t, c, nil)
	holdEnds(t, c, 0, 0, 0)
}

func TestList(t *testing.T) {
	for text, want := range map[string]list.List{
		"* 0 EXISTS":                                             nil,
		"* 2 EXISTS|* 2 FETCH (UID 7)":                           of(0, 7),
		"* 3 EXISTS|* 3 EXISTS":                                  of(0, 0, 0),
		"* 1 EXISTS|* 1 FETCH (UID 7)|* 3 EXISTS":                of(7, 0, 0),
		"* 1 EXISTS|* 1 EXPUNGE":                                 nil,
		"* 1 EXISTS|* 1 EXPUNGE|* 0 EXISTS|* 1 EXISTS":           of(0),
		"* 1 EXISTS|* 1 FETCH (UID 7)|* 1 FETCH (UID 0)":         of(0),
		"* 1 EXISTS|* 1 FETCH (UID 4294967295)":                  of(math.MaxUint32),
		"* 1 EXISTS|* 1 FETCH (FLAGS (\\Seen))":                  {{Flags: flags.Seen}},
		"* 1 EXISTS|* 1 FETCH (UID 7 FLAGS (\\Seen))":            {{Uid: 7, Flags: flags.Seen}},
		"* 1 EXISTS|* 1 FETCH (RFC822.SIZE 3)":                   of(0),
		"* 1 EXISTS|* 1 FETCH (UID 7)|* FLAGS ()":                nil,
		"* 1 EXISTS|* 1 FETCH (UID 7)|* FLAGS ":                  nil,
		"* 1 EXISTS|* 1 FETCH (UID 7)|* FLAGS ()|* 2 EXISTS":     of(0, 0),
		"* 1 EXISTS|* 1 FETCH (UID 7)|* FLAGS":                   of(7),
		"* 1 EXISTS|* 1 FETCH (UID 7)|* flags ()":                of(7),
		"* 1 EXISTS|* 1 FETCH (UID 7)|*  FLAGS ()":               of(7),
		"* 1 EXISTS|* 1 FETCH (UID 7)|* FLAGSS ()":               of(7),
		"* 1 EXISTS|* 1 FETCH (UID 7)|* OK FLAGS ()":             of(7),
		"* 1 EXISTS|* 1 FETCH (UID 7)|+ FLAGS ()":                of(7),
		"* 1 EXISTS|* 1 FETCH (UID 7)|a OK FLAGS ()":             of(7),
		"* 1 EXISTS|* 1 FETCH (UID 7)|* BYE 1 EXPUNGE":           of(7),
		"* 1 EXISTS|* 1 FETCH (UID 7)|* 1 expunge":               of(7),
		"* 1 EXISTS|* 1 FETCH (UID 7)|* SEARCH 1 2":              of(7),
		"* 1 EXISTS|* 1 FETCH (UID 7)|* 0 RECENT":                of(7),
		"* 1 EXISTS|* 1 FETCH (UID 7)|* OK [UIDNEXT 1] 1 EXISTS": of(7),
		"* 1 EXISTS|* 1 FETCH (UID 7)|+ go|a NO none|b BAD set":  of(7),
	} {
		c := told(t, strings.Split(text, "|")...)
		if got := c.List(); !slices.Equal(got, want) {
			t.Errorf("P22.1: told %q the list is %v, not %v", text, got, want)
		}
	}
}

// A fetch sets what it tells, and leaves all else.
func TestFetch(t *testing.T) {
	c := told(t, "* 3 EXISTS", "* 2 FETCH (UID 5 FLAGS (\\Seen \\Draft))", "* 3 FETCH (UID 9)")
	for text, want := range map[string]list.Entry{
		"(UID 6)":                      {Uid: 6, Flags: flags.Seen | flags.Draft},
		"(FLAGS ())":                   {Uid: 5},
		"(FLAGS (\\Deleted))":          {Uid: 5, Flags: flags.Deleted},
		"(UID 7 FLAGS (\\Answered))":   {Uid: 7, Flags: flags.Answered},
		"(RFC822.SIZE 9)":              {Uid: 5, Flags: flags.Seen | flags.Draft},
		"(BODY[] {2}\r\n\r\n)":         {Uid: 5, Flags: flags.Seen | flags.Draft},
		"(UID 3 BODY[] {1}\r\nx)":      {Uid: 3, Flags: flags.Seen | flags.Draft},
		"(FLAGS () RFC822.SIZE 4)":     {Uid: 5},
		"(BODY[] {11}\r\n* 1 EXPUNGE)": {Uid: 5, Flags: flags.Seen | flags.Draft},
	} {
		if err := c.Take(lines("* 2 FETCH " + text)); err != api.OK {
			t.Errorf("P22.1: Take(%q): error %d", text, err)
		}
		holdList(t, c, list.List{{}, want, {Uid: 9}})
		c.Take(lines("* 2 FETCH (UID 5 FLAGS (\\Seen \\Draft))"))
	}
	// What goes takes its number and its flags along.
	c.Take(lines("* 1 EXPUNGE", "* 3 EXISTS", "* 3 FETCH (UID 4)", "* 2 EXPUNGE"))
	holdList(t, c, list.List{{Uid: 5, Flags: flags.Seen | flags.Draft}, {Uid: 4}})
}

func TestEnds(t *testing.T) {
	for text, want := range map[string][]int{
		"a OK done":                   {1, 0, 0},
		"a NO full":                   {0, 1, 0},
		"a BAD set":                   {0, 0, 1},
		"a OK ":                       {1, 0, 0},
		"OK OK NO":                    {1, 0, 0},
		"NO BAD OK":                   {0, 0, 1},
		"* OK [UIDNEXT 1] next":       {0, 0, 0},
		"* NO none":                   {0, 1, 0},
		"* BAD form":                  {0, 0, 1},
		"* OK":                        {0, 0, 0},
		"* BAD":                       {0, 0, 0},
		"+ OK done":                   {0, 0, 0},
		"* BYE OK done":               {0, 0, 0},
		"** OK done":                  nil,
		"a OK done|* OK x|b OK done":  {2, 0, 0},
		"a NO x|a NO x|b BAD x|* NO ": {0, 3, 1},
	} {
		text = lines(strings.Split(text, "|")...)
		c := told(t, "a OK x", "* BAD x")
		if want == nil {
			holdWrong(t, c, text, api.ErrForm)
			want = []int{0, 0, 0}
		} else if err := c.Take(text); err != api.OK {
			t.Errorf("P22.1: Take(%q): error %d", text, err)
		}
		holdEnds(t, c, want[0]+1, want[1], want[2]+1)
	}
}

func TestWrong(t *testing.T) {
	c := told(t, "* 3 EXISTS", "* 1 FETCH (UID 1)", "* 2 FETCH (UID 2 FLAGS (\\Seen))", "* 3 FETCH (UID 8)", "a OK done", "b NO full", "* BAD form")
	// What is right ahead of a line that is wrong, or behind it, counts for nothing.
	for _, ahead := range []string{"", "* OK done", "a OK done", "* FLAGS ()|* 3 EXISTS", "* 1 EXPUNGE|* 3 EXISTS", "* 1 FETCH (UID 9 FLAGS ())", "c NO x|* BAD x"} {
		for _, behind := range []string{"", "d OK done", "* 4 EXISTS", "* FLAGS ()", "* 1 EXPUNGE"} {
			for text, want := range map[string]api.Errno{
				"* 0 EXPUNGE":                              api.ErrRange,
				"* 4 EXPUNGE":                              api.ErrRange,
				"* 2147483647 EXPUNGE":                     api.ErrRange,
				"* 2 EXISTS":                               api.ErrRange,
				"* 0 EXISTS":                               api.ErrRange,
				"* 65540 EXISTS":                           api.ErrRange,
				"* 2147483647 EXISTS":                      api.ErrRange,
				"* 0 FETCH (UID 1)":                        api.ErrRange,
				"* 4 FETCH (UID 1)":                        api.ErrRange,
				"* 4 FETCH (RFC822.SIZE 1)":                api.ErrRange,
				"* 0 FETCH (BODY[] {0}\r\n)":               api.ErrRange,
				"* 2147483647 FETCH (FLAGS ())":            api.ErrRange,
				"* 3 EXPUNGE|* 3 EXPUNGE":                  api.ErrRange,
				"* FLAGS ()|* 1 FETCH (UID 1)":             api.ErrRange,
				"* 9 EXPUNGE|* 9 EXISTS|* 0 FETCH (UID 1)": api.ErrRange,
				"x":             api.ErrForm,
				"":              api.ErrForm,
				"*":             api.ErrForm,
				"a OKAY done":   api.ErrForm,
				"* 4 EXPUNGE|x": api.ErrForm,
				"a\tOK done":    api.ErrForm,
			} {
				var l []string
				for _, part := range []string{ahead, text, behind} {
					if part != "" || text == "" {
						l = append(l, strings.Split(part, "|")...)
					}
				}
				holdWrong(t, c, lines(l...), want)
			}
		}
	}
	for _, text := range []string{"a OK done", "a OK done\r", "a OK done\n", "a OK done\n\r", "a OK done\r\n\r\n", "\r\n", "a OK \x00\r\n", "* 1 FETCH (BODY[] {3}\r\nx)\r\n)", "* 3 EXISTS\r\na OK do"} {
		holdWrong(t, c, text, api.ErrForm)
	}
	holdList(t, c, list.List{{Uid: 1}, {Uid: 2, Flags: flags.Seen}, {Uid: 8}})
	holdEnds(t, c, 1, 1, 1)
	// It goes on behind what was wrong.
	if err := c.Take(lines("* 4 EXISTS", "* 1 EXPUNGE")); err != api.OK {
		t.Errorf("P22.1: error %d", err)
	}
	holdList(t, c, list.List{{Uid: 2, Flags: flags.Seen}, {Uid: 8}, {}})
}

// An exists may tell 65536 new entries, and not one more.
func TestMostNew(t *testing.T) {
	c := told(t, fmt.Sprintf("* %d EXISTS", mostNew))
	holdWrong(t, c, lines(fmt.Sprintf("* %d EXISTS", 2*mostNew+1)), api.ErrRange)
	holdWrong(t, client.New(), lines(fmt.Sprintf("* %d EXISTS", mostNew+1)), api.ErrRange)
	if err := c.Take(lines(fmt.Sprintf("* %d EXISTS", 2*mostNew))); err != api.OK || len(c.List()) != 2*mostNew {
		t.Errorf("P22.1: error %d, %d entries", err, len(c.List()))
	}
	// Each one is told by a line.
	var text strings.Builder
	for i := range 2 * mostNew {
		fmt.Fprintf(&text, "* %d FETCH (UID %d FLAGS ())\r\n", i+1, i+1)
	}
	if err := c.Take(text.String()); err != api.OK || !c.Rises() || c.List().Last() != 2*mostNew {
		t.Errorf("P22.1: error %d, the last number %d", err, c.List().Last())
	}
}

func TestRises(t *testing.T) {
	for _, l := range []list.List{nil, of(1), of(7), of(math.MaxUint32), of(1, 2), of(3, 9, 10, math.MaxUint32), {{Uid: 1, Flags: flags.Seen}, {Uid: 2}}} {
		holdRises(t, l, true)
	}
	for _, l := range []list.List{of(0), of(0, 0), of(0, 1), of(1, 0), of(1, 0, 2), of(1, 1), of(2, 1), of(1, 3, 2), of(1, 2, 2, 3), of(math.MaxUint32, 1), {{Flags: flags.Seen}}} {
		holdRises(t, l, false)
	}
}

// holdRises holds whether a list's numbers are known and rise.
func holdRises(t *testing.T, l list.List, want bool) {
	t.Helper()
	texts := []string{fmt.Sprintf("* %d EXISTS", len(l))}
	for i, e := range l {
		if e.Uid != 0 {
			texts = append(texts, fmt.Sprintf("* %d FETCH (UID %d FLAGS %s)", i+1, e.Uid, e.Flags))
		}
	}
	if got := told(t, texts...).Rises(); got != want {
		t.Errorf("P22.1: Rises of %v: %v", l, got)
	}
}

// A list that was handed out may be changed.
func TestApart(t *testing.T) {
	c := told(t, "* 2 EXISTS", "* 1 FETCH (UID 1)", "* 2 FETCH (UID 2)")
	l := c.List()
	l[0].Uid = 9
	_ = append(l[:1], list.Entry{Uid: 9})
	holdList(t, c, of(1, 2))
	l = c.List()
	c.Take(lines("* 1 FETCH (UID 7)", "* 2 EXPUNGE"))
	if !slices.Equal(l, of(1, 2)) {
		t.Errorf("R4: a list that was handed out becomes %v", l)
	}
	holdList(t, c, of(7))
}

// page is a client by other means: its numbers and flags stand in a map, by their places.
type page struct {
	size  int
	at    map[int][2]int
	words map[string]int
}

// take takes a line, and answers whether it could.
func (p *page) take(l reply.Line) bool {
	switch l.Kind {
	case reply.Gone:
		if l.Seq < 1 || l.Seq > p.size {
			return false
		}
		for seq := l.Seq; seq <= p.size; seq++ {
			p.at[seq] = p.at[seq+1]
		}
		delete(p.at, p.size)
		p.size--
	case reply.Exists:
		if l.Seq < p.size || l.Seq > p.size+mostNew {
			return false
		}
		p.size = l.Seq
	case reply.Fetch:
		if l.Seq < 1 || l.Seq > p.size {
			return false
		}
		e := p.at[l.Seq]
		if l.Items&1 == 1 {
			e[0] = int(l.Rec.Uid)
		}
		if l.Items&2 == 2 {
			e[1] = int(l.Rec.Flags)
		}
		p.at[l.Seq] = e
	case reply.Info:
		if strings.Index(l.Text, "FLAGS ") == 0 {
			p.size, p.at = 0, map[int][2]int{}
		}
	case reply.Done:
		if l.Word != "OK" || l.Tag != "*" {
			p.words[l.Word]++
		}
	}
	return true
}

// list is what it knows.
func (p *page) list() list.List {
	var l list.List
	for seq := range p.size {
		e := p.at[seq+1]
		l = append(l, list.Entry{Uid: uint32(e[0]), Flags: flags.Set(e[1])})
	}
	return l
}

// anyLine is any line that may be printed, about a list of so many entries.
func anyLine(r *rand.Rand, size int) reply.Line {
	l := reply.Line{Kind: r.Intn(reply.Done + 1), Seq: 1 + r.Intn(size+1)}
	switch l.Kind {
	case reply.Exists:
		l.Seq = size + r.Intn(4)
	case reply.Fetch:
		l.Items = item.Items(1 + r.Intn(15))
		l.Rec = tree.Rec{Uid: uint32(r.Intn(9)), Flags: flags.Set(r.Intn(32)), Text: []string{"", "hi", "\r\n* 1 EXPUNGE\r\n"}[r.Intn(3)]}
	case reply.Found:
		l.Nums = []uint32{1, 2, 3}[:r.Intn(4)]
	case reply.Info:
		l.Text = []string{"FLAGS ()", "FLAGS", "0 RECENT", "x", "a OK done"}[r.Intn(5)]
	case reply.GoOn:
		l.Text = []string{"go", "FLAGS ()", "1 EXPUNGE"}[r.Intn(3)]
	case reply.Done:
		l.Tag, l.Word, l.Text = []string{"a", "*", "b"}[r.Intn(3)], []string{"OK", "NO", "BAD"}[r.Intn(3)], []string{"done", "", "FLAGS "}[r.Intn(3)]
	}
	return l
}

// TestAnyLines hands any lines to a client, in parts, and holds it against another one.
func TestAnyLines(t *testing.T) {
	r := rand.New(rand.NewSource(22))
	took, refused := 0, 0
	for range 3000 {
		c := client.New()
		p := &page{at: map[int][2]int{}, words: map[string]int{}}
		for range 30 {
			var part []reply.Line
			right := true
			next := &page{size: p.size, at: maps.Clone(p.at), words: maps.Clone(p.words)}
			for range r.Intn(4) {
				l := anyLine(r, next.size)
				part = append(part, l)
				right = right && next.take(l)
			}
			want := api.ErrRange
			if right {
				p, want = next, api.OK
				took++
			} else {
				refused++
			}
			if err := c.Take(reply.Print(part...)); err != want {
				t.Fatalf("P22.1: Take(%q) of %v: error %d, not %d", reply.Print(part...), c.List(), err, want)
			}
			holdList(t, c, p.list())
			holdEnds(t, c, p.words["OK"], p.words["NO"], p.words["BAD"])
		}
	}
	if took < 1000 || refused < 1000 {
		t.Errorf("%d parts were taken, %d turned down", took, refused)
	}
}
