package reply_test

import (
	"fmt"
	"math"
	"math/rand"
	"slices"
	"strings"
	"testing"

	"postchaise/api"
	"postchaise/flags"
	"postchaise/item"
	"postchaise/list"
	"postchaise/reply"
	"postchaise/tree"
)

// The limits that the chapter, and those of the layers below, name.
const (
	maxTag     = 60
	maxLiteral = 65536
)

// end is the end of a line.
const end = "\r\n"

// letters are all bytes that a tag may have, and textBytes all that a text may have.
const (
	letters   = "!#$&',-./0123456789:;<=>?@ABCDEFGHIJKLMNOPQRSTUVWXYZ[^_`abcdefghijklmnopqrstuvwxyz|}~"
	textBytes = " !\"#$%&'()*+,-./0123456789:;<=>?@ABCDEFGHIJKLMNOPQRSTUVWXYZ[\\]^_`abcdefghijklmnopqrstuvwxyz{|}~"
)

// allFlags are the texts of all flags together.
const allFlags = `(\Answered \Flagged \Deleted \Seen \Draft)`

// row is a row of letters of some length.
func row(n int) string {
	return strings.Repeat("x", n)
}

// gone, exists, found, info, goOn and ended are lines of these kinds.
func gone(seq int) reply.Line         { return reply.Line{Kind: reply.Gone, Seq: seq} }
func exists(seq int) reply.Line       { return reply.Line{Kind: reply.Exists, Seq: seq} }
func found(nums ...uint32) reply.Line { return reply.Line{Kind: reply.Found, Nums: nums} }
func info(text string) reply.Line     { return reply.Line{Kind: reply.Info, Text: text} }
func goOn(text string) reply.Line     { return reply.Line{Kind: reply.GoOn, Text: text} }
func ended(tag, word, text string) reply.Line {
	return reply.Line{Kind: reply.Done, Tag: tag, Word: word, Text: text}
}

// fetch is a fetch of a message with just what its items tell, and the size that it has.
func fetch(seq int, t item.Items, m tree.Rec) reply.Line {
	l := reply.Line{Kind: reply.Fetch, Seq: seq, Items: t}
	if t&item.Uid != 0 {
		l.Rec.Uid = m.Uid
	}
	if t&item.Flags != 0 {
		l.Rec.Flags = m.Flags
	}
	if t&item.Size != 0 {
		l.Size = len(m.Text)
	}
	if t&(item.Size|item.Body) != 0 {
		l.Rec.Text = m.Text
	}
	return l
}

// parsed is how a line is parsed when it was printed: a text of which just the size was told is not known.
func parsed(l reply.Line) reply.Line {
	if l.Items&item.Body == 0 {
		l.Rec.Text = ""
	}
	return l
}

// alike: are two lines one?
func alike(a, b reply.Line) bool {
	return a.Kind == b.Kind && a.Seq == b.Seq && a.Items == b.Items && a.Rec == b.Rec && a.Size == b.Size &&
		slices.Equal(a.Nums, b.Nums) && a.Tag == b.Tag && a.Word == b.Word && a.Text == b.Text
}

// shown are lines, as a failure shows them. (Printed they would tell just what is told of them.)
func shown(lines []reply.Line) string {
	return fmt.Sprintf("%#v", lines)
}

// holdParse holds which lines a text has.
func holdParse(t *testing.T, promise, s string, want ...reply.Line) {
	t.Helper()
	got, err := reply.Parse(s)
	if err != api.OK || !slices.EqualFunc(got, want, alike) {
		t.Fatalf("%s: %.200q: %.400s, error %d, not %.400s", promise, s, shown(got), err, shown(want))
	}
}

// holdNone holds that a text is none of lines.
func holdNone(t *testing.T, s string) {
	t.Helper()
	if got, err := reply.Parse(s); err != api.ErrForm || len(got) != 0 {
		t.Fatalf("P17.2: %.200q: %.400s, error %d, not nothing, %d", s, shown(got), err, api.ErrForm)
	}
}

// texts are lines of all kinds, and their texts without an end.
func texts() map[string]reply.Line {
	hello := tree.Rec{Uid: 5, Flags: flags.Seen, Text: "hello"}
	odd := tree.Rec{Uid: math.MaxUint32, Flags: 31, Text: "\r\n)\x00\xff* 1 EXISTS\r\n"}
	most := strings.Repeat("\n", maxLiteral)
	return map[string]reply.Line{
		"* 0 EXPUNGE":          gone(0),
		"* 1 EXPUNGE":          gone(1),
		"* 2147483647 EXPUNGE": gone(math.MaxInt32),
		"* 0 EXISTS":           exists(0),
		"* 17 EXISTS":          exists(17),
		"* 2147483647 EXISTS":  exists(math.MaxInt32),

		"* 2 FETCH (UID 5 FLAGS ())":                                         fetch(2, 3, tree.Rec{Uid: 5}),
		"* 0 FETCH (UID 0)":                                                  fetch(0, 1, tree.Rec{}),
		"* 2147483647 FETCH (UID 4294967295)":                                fetch(math.MaxInt32, 1, odd),
		"* 3 FETCH (FLAGS (\\Seen))":                                         fetch(3, 2, hello),
		"* 3 FETCH (FLAGS " + allFlags + ")":                                 fetch(3, 2, odd),
		"* 3 FETCH (RFC822.SIZE 5)":                                          fetch(3, 4, hello),
		"* 3 FETCH (RFC822.SIZE 0)":                                          fetch(3, 4, tree.Rec{}),
		"* 3 FETCH (BODY[] {5}\r\nhello)":                                    fetch(3, 8, hello),
		"* 3 FETCH (BODY[] {0}\r\n)":                                         fetch(3, 8, tree.Rec{}),
		"* 3 FETCH (BODY[] {17}\r\n" + odd.Text + ")":                        fetch(3, 8, odd),
		"* 3 FETCH (BODY[] {65536}\r\n" + most + ")":                         fetch(3, 8, tree.Rec{Text: most}),
		"* 3 FETCH (RFC822.SIZE 65536)":                                      fetch(3, 4, tree.Rec{Text: most}),
		"* 3 FETCH (UID 5 RFC822.SIZE 5)":                                    fetch(3, 5, hello),
		"* 3 FETCH (FLAGS (\\Seen) BODY[] {5}\r\nhello)":                     fetch(3, 10, hello),
		"* 3 FETCH (RFC822.SIZE 5 BODY[] {5}\r\nhello)":                      fetch(3, 12, hello),
		"* 3 FETCH (UID 5 FLAGS (\\Seen) RFC822.SIZE 5)":                     fetch(3, 7, hello),
		"* 3 FETCH (UID 5 FLAGS (\\Seen) RFC822.SIZE 5 BODY[] {5}\r\nhello)": fetch(3, 15, hello),

		"* SEARCH":                  found(),
		"* SEARCH 1":                found(1),
		"* SEARCH 0 4294967295 7 7": found(0, math.MaxUint32, 7, 7),

		"* ":                     info(""),
		"* FLAGS " + allFlags:    info("FLAGS " + allFlags),
		"* 0 RECENT":             info("0 RECENT"),
		"* " + textBytes:         info(textBytes),
		"* " + row(100000):       info(row(100000)),
		"+ ":                     goOn(""),
		"+ go":                   goOn("go"),
		"+ " + textBytes:         goOn(textBytes),
		"+ OK x":                 goOn("OK x"),
		"a OK done":              ended("a", "OK", "done"),
		"a1 NO ":                 ended("a1", "NO", ""),
		"OK BAD OK":              ended("OK", "BAD", "OK"),
		"1 NO " + textBytes:      ended("1", "NO", textBytes),
		"* OK [UIDNEXT 7] next":  ended("*", "OK", "[UIDNEXT 7] next"),
		"* NO full":              ended("*", "NO", "full"),
		"* BAD ":                 ended("*", "BAD", ""),
		letters[:60] + " OK x":   ended(letters[:60], "OK", "x"),
		letters[60:] + " NO x":   ended(letters[60:], "NO", "x"),
		row(maxTag) + " BAD  a ": ended(row(maxTag), "BAD", " a "),
	}
}

func TestString(t *testing.T) {
	for text, l := range texts() {
		if got := l.String(); got != text+end {
			t.Errorf("P17.1: %.200s: %.200q, not %.200q", shown([]reply.Line{l}), got, text+end)
		}
		holdParse(t, "P17.3", text+end, parsed(l))
	}
}

// What items do not tell, and bits that count for nothing, are not told.
func TestStringToldAlone(t *testing.T) {
	m := tree.Rec{Uid: 9, Flags: flags.Draft, Text: "xyz"}
	for _, c := range []struct {
		line reply.Line
		want string
	}{
		{reply.Line{Kind: reply.Fetch, Seq: 1, Items: item.Uid, Rec: m}, "* 1 FETCH (UID 9)"},
		{reply.Line{Kind: reply.Fetch, Seq: 1, Items: item.Flags, Rec: m}, "* 1 FETCH (FLAGS (\\Draft))"},
		{reply.Line{Kind: reply.Fetch, Seq: 1, Items: item.Size, Rec: m, Size: 3}, "* 1 FETCH (RFC822.SIZE 3)"},
		{reply.Line{Kind: reply.Fetch, Seq: 1, Items: item.Body, Rec: m}, "* 1 FETCH (BODY[] {3}\r\nxyz)"},
		{reply.Line{Kind: reply.Fetch, Seq: 1, Items: item.Flags | 0xf0, Rec: tree.Rec{Flags: 32 | flags.Seen}}, "* 1 FETCH (FLAGS (\\Seen))"},
	} {
		if got := c.line.String(); got != c.want+end {
			t.Errorf("P17.1: %#v: %q, not %q", c.line, got, c.want+end)
		}
	}
}

func TestPrint(t *testing.T) {
	if got := reply.Print(); got != "" {
		t.Errorf("P17.1: no lines: %q", got)
	}
	lines := []reply.Line{info("FLAGS ()"), exists(0), gone(3), found(), found(1, 2), goOn("go"), fetch(1, 8, tree.Rec{Text: "\r\n"}), ended("a", "OK", "")}
	want := "* FLAGS ()\r\n* 0 EXISTS\r\n* 3 EXPUNGE\r\n* SEARCH\r\n* SEARCH 1 2\r\n+ go\r\n* 1 FETCH (BODY[] {2}\r\n\r\n)\r\na OK \r\n"
	if got := reply.Print(lines...); got != want {
		t.Errorf("P17.1: %q, not %q", got, want)
	}
	holdParse(t, "P17.3", want, lines...)
}

// Of a line that may not be nothing is promised but an end.
func TestStringEnds(t *testing.T) {
	for _, kind := range []int{-1, 7, math.MaxInt, math.MinInt, reply.Gone, reply.Exists, reply.Fetch, reply.Found, reply.Info, reply.GoOn, reply.Done} {
		for _, l := range []reply.Line{
			{Kind: kind},
			{Kind: kind, Seq: -1, Items: 255, Rec: tree.Rec{Flags: 255, Text: row(maxLiteral + 1)}, Size: -1, Nums: []uint32{0}, Tag: "\r\n", Word: "\x00", Text: "\r\n"},
			{Kind: kind, Seq: math.MaxInt, Size: math.MaxInt},
			{Kind: kind, Seq: math.MinInt, Size: math.MinInt},
		} {
			if text := l.String(); reply.Print(l, l) != text+text {
				t.Errorf("P17.1: %.100q is printed twice as %.100q", shown([]reply.Line{l}), reply.Print(l, l))
			}
			reply.Parse(l.String())
			l.Note()
		}
	}
}

func TestNote(t *testing.T) {
	m := tree.Rec{Uid: 9, Flags: flags.Draft, Text: "xyz"}
	for _, c := range []struct {
		line reply.Line
		want list.Note
	}{
		{gone(0), list.Note{}},
		{gone(7), list.Note{Kind: list.Gone, Seq: 7}},
		{exists(7), list.Note{Kind: list.Exists, Seq: 7}},
		{exists(math.MaxInt32), list.Note{Kind: list.Exists, Seq: math.MaxInt32}},
		{fetch(7, 3, m), list.Note{Kind: list.Fetch, Seq: 7, Entry: list.Entry{Uid: 9, Flags: flags.Draft}}},
		{fetch(7, 15, m), list.Note{Kind: list.Fetch, Seq: 7, Entry: list.Entry{Uid: 9, Flags: flags.Draft}}},
		{fetch(7, 1, m), list.Note{Kind: list.Fetch, Seq: 7, Entry: list.Entry{Uid: 9}}},
		{fetch(7, 2, m), list.Note{Kind: list.Fetch, Seq: 7, Entry: list.Entry{Flags: flags.Draft}}},
		{fetch(7, 12, m), list.Note{Kind: list.Fetch, Seq: 7}},
		// What is not told counts for nothing.
		{reply.Line{Kind: reply.Fetch, Seq: 7, Items: item.Uid, Rec: m}, list.Note{Kind: list.Fetch, Seq: 7, Entry: list.Entry{Uid: 9}}},
		{reply.Line{Kind: reply.Fetch, Seq: 7, Items: item.Flags, Rec: m}, list.Note{Kind: list.Fetch, Seq: 7, Entry: list.Entry{Flags: flags.Draft}}},
		{reply.Line{Kind: reply.Fetch, Seq: 7, Items: item.Body, Rec: m}, list.Note{Kind: list.Fetch, Seq: 7}},
	} {
		if got, ok := c.line.Note(); !ok || got != c.want {
			t.Errorf("P17.1: the note of %#v: %v %v, not %v", c.line, got, ok, c.want)
		}
	}
	for _, l := range []reply.Line{found(), found(1, 2), info("1 EXISTS x"), goOn("go"), ended("a", "OK", "done"), {Kind: -1, Seq: 1}, {Kind: 7, Seq: 1}, {Kind: reply.Info, Seq: 3, Items: 3, Rec: m}, {Kind: reply.Done, Seq: 3}, {Kind: math.MaxInt}, {Kind: math.MinInt}} {
		if got, ok := l.Note(); ok || got != (list.Note{}) {
			t.Errorf("P17.1: the note of %#v: %v %v, not nothing", l, got, ok)
		}
	}
}

func TestOf(t *testing.T) {
	e := list.Entry{Uid: 5, Flags: flags.Seen | flags.Draft}
	for _, c := range []struct {
		note list.Note
		want reply.Line
		text string
	}{
		{list.Note{Kind: list.Gone, Seq: 3}, gone(3), "* 3 EXPUNGE"},
		{list.Note{Kind: list.Exists, Seq: 0}, exists(0), "* 0 EXISTS"},
		{list.Note{Kind: list.Exists, Seq: 12}, exists(12), "* 12 EXISTS"},
		{list.Note{Kind: list.Fetch, Seq: 3, Entry: e}, fetch(3, 3, tree.Rec{Uid: 5, Flags: e.Flags}), "* 3 FETCH (UID 5 FLAGS (\\Seen \\Draft))"},
		{list.Note{Kind: list.Fetch, Seq: 1}, fetch(1, 3, tree.Rec{}), "* 1 FETCH (UID 0 FLAGS ())"},
		// What is not its kind's is nothing.
		{list.Note{Kind: list.Gone, Seq: 3, Entry: e}, gone(3), "* 3 EXPUNGE"},
		{list.Note{Kind: list.Exists, Seq: 3, Entry: e}, exists(3), "* 3 EXISTS"},
	} {
		got := reply.Of(c.note)
		if !alike(got, c.want) || got.String() != c.text+end {
			t.Errorf("P17.1: the line of %v: %#v, %q, not %#v", c.note, got, got.String(), c.want)
		}
		holdParse(t, "P17.3", got.String(), got)
		if c.note.Kind != list.Fetch {
			c.note.Entry = list.Entry{}
		}
		if note, ok := got.Note(); !ok || note != c.note {
			t.Errorf("P17.1: the note of the line of %v: %v %v", c.note, note, ok)
		}
	}
	for _, kind := range []int{-1, 3, 6, math.MaxInt, math.MinInt} {
		if got := reply.Of(list.Note{Kind: kind, Seq: 1, Entry: e}); !alike(got, reply.Line{}) {
			t.Errorf("P17.1: the line of a note of the kind %d: %#v", kind, got)
		}
	}
}

// anyText is a text of any bytes that it may have.
func anyText(random *rand.Rand) string {
	parts := []string{"OK ", "NO", "BAD ", "SEARCH", "SEARCH 1", "1 EXISTS", "2 EXPUNGE", "3 FETCH (UID 1)", " ", "* ", "+ ", "x"}
	var b strings.Builder
	for range random.Intn(4) {
		if random.Intn(2) == 0 {
			b.WriteString(parts[random.Intn(len(parts))])
		} else {
			b.WriteByte(textBytes[random.Intn(len(textBytes))])
		}
	}
	return b.String()
}

// anyRec is a message with any text.
func anyRec(random *rand.Rand) tree.Rec {
	const odd = "a)\r\n* OK 1\x00\xff {}"
	body := make([]byte, random.Intn(1+random.Intn(300)))
	for i := range body {
		body[i] = odd[random.Intn(len(odd))]
	}
	return tree.Rec{Uid: random.Uint32() >> random.Intn(33), Flags: flags.Set(random.Intn(32)), Text: string(body)}
}

// anyLine is a line that may be.
func anyLine(random *rand.Rand) reply.Line {
	seq := int(random.Int31() >> random.Intn(32))
	switch random.Intn(7) {
	case reply.Gone:
		return gone(seq)
	case reply.Exists:
		return exists(seq)
	case reply.Fetch:
		return fetch(seq, item.Items(1+random.Intn(15)), anyRec(random))
	case reply.Found:
		nums := make([]uint32, random.Intn(5))
		for i := range nums {
			nums[i] = random.Uint32() >> random.Intn(33)
		}
		return found(nums...)
	case reply.Info:
		// Not one that would be read otherwise, nor one that might become a fetch by what stands behind it.
		l := info(anyText(random))
		if got, _, ok := front(l.String()); !ok || !alike(got, l) || strings.HasSuffix(l.Text, "}") {
			return info("")
		}
		return l
	case reply.GoOn:
		return goOn(anyText(random))
	}
	tag := make([]byte, 1+random.Intn(maxTag))
	for i := range tag {
		tag[i] = letters[random.Intn(len(letters))]
	}
	l := ended(string(tag), []string{"OK", "NO", "BAD"}[random.Intn(3)], anyText(random))
	if random.Intn(3) == 0 {
		l.Tag = "*"
	}
	return l
}

func TestPrintedIsParsed(t *testing.T) {
	random := rand.New(rand.NewSource(17))
	for range 20000 {
		lines := make([]reply.Line, random.Intn(6))
		want := make([]reply.Line, len(lines))
		text := ""
		for i := range lines {
			lines[i] = anyLine(random)
			want[i] = parsed(lines[i])
			text += lines[i].String()
		}
		if got := reply.Print(lines...); got != text {
			t.Fatalf("P17.1: %q, not %q", got, text)
		}
		holdParse(t, "P17.3", text, want...)
		// Without the last byte the last line has no end.
		if text != "" {
			holdNone(t, text[:len(text)-1])
		}
	}
	for text, l := range texts() {
		holdParse(t, "P17.3", strings.Repeat(text+end, 3), parsed(l), parsed(l), parsed(l))
	}
}
