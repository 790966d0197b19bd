package reply_test

import (
	"math"
	"regexp"
	"slices"
	"strconv"
	"strings"
	"testing"

	"postchaise/api"
	"postchaise/flags"
	"postchaise/item"
	"postchaise/reply"
	"postchaise/tree"
)

// isNumber is the number of a text, if it is one up to the greatest one.
func isNumber(s string, greatest uint64) (uint64, bool) {
	n, err := strconv.ParseUint(s, 10, 64)
	return n, err == nil && n <= greatest && strconv.FormatUint(n, 10) == s
}

// The expressions of lines, by which they are looked for apart from the package's own means. (?s) is not needed: no text has a line feed.
var (
	goOnForm  = regexp.MustCompile(`\A\+ ([ -~]*)\r\n`)
	doneForm  = regexp.MustCompile("\\A(\\*|[!#$&',\\-./0-9:;<=>?@A-Z\\[^_`a-z|}~]{1,60}) (OK|NO|BAD) ([ -~]*)\r\n")
	foundForm = regexp.MustCompile(`\A\* SEARCH((?: [0-9]+)*)\r\n`)
	plainForm = regexp.MustCompile(`\A\* ([0-9]+) (EXPUNGE|EXISTS)\r\n`)
	infoForm  = regexp.MustCompile(`\A\* ([ -~]*)\r\n`)
)

// front is the line at the front of a text, and how long it is, if there is one.
func front(s string) (reply.Line, int, bool) {
	if m := goOnForm.FindStringSubmatch(s); m != nil {
		return goOn(m[1]), len(m[0]), true
	}
	if m := doneForm.FindStringSubmatch(s); m != nil {
		return ended(m[1], m[2], m[3]), len(m[0]), true
	}
	if m := foundForm.FindStringSubmatch(s); m != nil {
		if nums, ok := allNumbers(strings.Fields(m[1])); ok {
			return found(nums...), len(m[0]), true
		}
	}
	if m := plainForm.FindStringSubmatch(s); m != nil {
		if seq, ok := isNumber(m[1], math.MaxInt32); ok {
			return reply.Line{Kind: map[string]int{"EXPUNGE": reply.Gone, "EXISTS": reply.Exists}[m[2]], Seq: int(seq)}, len(m[0]), true
		}
	}
	for t := item.Items(1); t < 16; t++ {
		if l, size, ok := frontFetch(s, t); ok {
			return l, size, true
		}
	}
	if m := infoForm.FindStringSubmatch(s); m != nil {
		return info(m[1]), len(m[0]), true
	}
	return reply.Line{}, 0, false
}

// allNumbers are the numbers of texts, if all are some.
func allNumbers(texts []string) ([]uint32, bool) {
	var nums []uint32
	for _, text := range texts {
		n, ok := isNumber(text, math.MaxUint32)
		if !ok {
			return nil, false
		}
		nums = append(nums, uint32(n))
	}
	return nums, true
}

// fetchForms are the expressions of fetches by their items, up to a literal's bytes.
var fetchForms = func() [16]*regexp.Regexp {
	parts := []string{`[Uu][Ii][Dd] (?P<uid>[0-9]+)`, `[Ff][Ll][Aa][Gg][Ss] (?P<flags>\([^)]*\))`, `[Rr][Ff][Cc]822\.[Ss][Ii][Zz][Ee] (?P<size>[0-9]+)`, `[Bb][Oo][Dd][Yy]\[\] \{(?P<body>[0-9]+)\}\r\n`}
	var forms [16]*regexp.Regexp
	for t := range forms {
		var l []string
		for i, part := range parts {
			if t>>i&1 == 1 {
				l = append(l, part)
			}
		}
		forms[t] = regexp.MustCompile(`\A\* (?P<seq>[0-9]+) FETCH \(` + strings.Join(l, " "))
	}
	return forms
}()

// frontFetch is the fetch of some items at the front of a text, and how long it is, if there is one.
func frontFetch(s string, t item.Items) (reply.Line, int, bool) {
	form := fetchForms[t]
	m := form.FindStringSubmatch(s)
	if m == nil {
		return reply.Line{}, 0, false
	}
	right := true
	number := func(name string, greatest uint64) int {
		at := form.SubexpIndex(name)
		if at < 0 {
			return 0
		}
		n, ok := isNumber(m[at], greatest)
		right = right && ok
		return int(n)
	}
	l := reply.Line{Kind: reply.Fetch, Seq: number("seq", math.MaxInt32), Items: t}
	l.Rec.Uid = uint32(number("uid", math.MaxUint32))
	l.Size = number("size", math.MaxUint32)
	if at := form.SubexpIndex("flags"); at >= 0 {
		set, err := flags.Parse(m[at])
		right = right && err == api.OK && set.String() == m[at]
		l.Rec.Flags = set
	}
	body := number("body", maxLiteral)
	rest := s[len(m[0]):]
	if !right || len(rest) < body || !strings.HasPrefix(rest[body:], ")"+end) {
		return reply.Line{}, 0, false
	}
	l.Rec.Text = rest[:body]
	if t&item.Size != 0 && t&item.Body != 0 && l.Size != body {
		return reply.Line{}, 0, false
	}
	return l, len(m[0]) + body + len(")"+end), true
}

// holdFront holds a text against the expressions, and answers whether it has lines.
func holdFront(t *testing.T, s string) bool {
	t.Helper()
	var want []reply.Line
	for rest := s; rest != ""; {
		l, size, ok := front(rest)
		if !ok {
			holdNone(t, s)
			return false
		}
		want = append(want, l)
		rest = rest[size:]
	}
	holdParse(t, "P17.2", s, want...)
	return true
}

// A line is read as the first of the kinds that it is.
func TestParseKinds(t *testing.T) {
	for text, want := range map[string]reply.Line{
		// Not ends of commands, as no blank stands behind the word, or the word is another one.
		"* OK":          info("OK"),
		"* NO":          info("NO"),
		"* BAD":         info("BAD"),
		"* OKAY x":      info("OKAY x"),
		"* ok x":        info("ok x"),
		"* Bad x":       info("Bad x"),
		"* BYE x":       info("BYE x"),
		"*  OK x":       info(" OK x"),
		"* OK(x":        info("OK(x"),
		"* * OK x":      info("* OK x"),
		"* a OK x":      info("a OK x"),
		"* + x":         info("+ x"),
		"* OK SEARCH":   ended("*", "OK", "SEARCH"),
		"* OK  ":        ended("*", "OK", " "),
		"* NO 1 EXISTS": ended("*", "NO", "1 EXISTS"),

		// Not found.
		"* SEARCH ":           info("SEARCH "),
		"* SEARCH 1 ":         info("SEARCH 1 "),
		"* SEARCH  1":         info("SEARCH  1"),
		"* SEARCH 1  2":       info("SEARCH 1  2"),
		"* SEARCH 01":         info("SEARCH 01"),
		"* SEARCH 4294967296": info("SEARCH 4294967296"),
		"* SEARCH -1":         info("SEARCH -1"),
		"* SEARCH x":          info("SEARCH x"),
		"* SEARCH1":           info("SEARCH1"),
		"* SEARCHED":          info("SEARCHED"),
		"* search":            info("search"),
		"* Search 1":          info("Search 1"),
		"*  SEARCH":           info(" SEARCH"),
		"* SEARCH OK 1":       info("SEARCH OK 1"),

		// Not with a sequence number.
		"* 2147483648 EXISTS":           info("2147483648 EXISTS"),
		"* 2147483648 EXPUNGE":          info("2147483648 EXPUNGE"),
		"* 2147483648 FETCH (UID 1)":    info("2147483648 FETCH (UID 1)"),
		"* 4294967296 EXISTS":           info("4294967296 EXISTS"),
		"* 18446744073709551617 EXISTS": info("18446744073709551617 EXISTS"),
		"* 01 EXISTS":                   info("01 EXISTS"),
		"* 00 EXISTS":                   info("00 EXISTS"),
		"* -1 EXISTS":                   info("-1 EXISTS"),
		"* +1 EXISTS":                   info("+1 EXISTS"),
		"* EXISTS":                      info("EXISTS"),
		"* 1 exists":                    info("1 exists"),
		"* 1 Expunge":                   info("1 Expunge"),
		"* 1 EXISTS ":                   info("1 EXISTS "),
		"* 1 EXPUNGE 2":                 info("1 EXPUNGE 2"),
		"* 1  EXISTS":                   info("1  EXISTS"),
		"*  1 EXISTS":                   info(" 1 EXISTS"),
		"* 1EXISTS":                     info("1EXISTS"),
		"* 1":                           info("1"),
		"* 1 ":                          info("1 "),
		"* 1 FETCH":                     info("1 FETCH"),
		"* 1 FETCH ":                    info("1 FETCH "),
		"* 1 FETCH(UID 1)":              info("1 FETCH(UID 1)"),
		"* 1 fetch (UID 1)":             info("1 fetch (UID 1)"),
		"* 1 FETCH ()":                  info("1 FETCH ()"),
		"* 1 FETCH UID 1":               info("1 FETCH UID 1"),
		"* 1 FETCH (UID 01)":            info("1 FETCH (UID 01)"),
		"* 1 FETCH (UID 4294967296)":    info("1 FETCH (UID 4294967296)"),
		"* 1 FETCH (UID 1) ":            info("1 FETCH (UID 1) "),
		"* 1 FETCH (UID 1":              info("1 FETCH (UID 1"),
		"* 1 FETCH (UID 1))":            info("1 FETCH (UID 1))"),
		"* 1 FETCH (FLAGS () UID 1)":    info("1 FETCH (FLAGS () UID 1)"),
		"* 1 FETCH (FLAGS (\\seen))":    info("1 FETCH (FLAGS (\\seen))"),
		"* 1 FETCH (UID 1 UID 1)":       info("1 FETCH (UID 1 UID 1)"),
		"* 1 FETCH (BODY.PEEK[] {0}":    info("1 FETCH (BODY.PEEK[] {0}"),
		"* 1 FETCH (BODY[] {65537}":     info("1 FETCH (BODY[] {65537}"),
		"* 1 FETCH (BODY[] {1}":         info("1 FETCH (BODY[] {1}"),
		"* 1 FETCH (BODY[] {}":          info("1 FETCH (BODY[] {}"),

		// Within a telling letters may be great or small.
		"* 2 FETCH (uid 5 Flags ())":         fetch(2, 3, tree.Rec{Uid: 5}),
		"* 2 FETCH (body[] {2}\r\nhi)":       fetch(2, 8, tree.Rec{Text: "hi"}),
		"* 2 FETCH (rfc822.size 5)":          {Kind: reply.Fetch, Seq: 2, Items: item.Size, Size: 5},
		"* 2 FETCH (RFC822.SIZE 4294967295)": {Kind: reply.Fetch, Seq: 2, Items: item.Size, Size: math.MaxUint32},

		"+  x":     goOn(" x"),
		"+ a OK x": goOn("a OK x"),
		"+ * OK x": goOn("* OK x"),
		"a OK  x":  ended("a", "OK", " x"),
	} {
		holdParse(t, "P17.2", text+end, want)
		if !holdFront(t, text+end) {
			t.Errorf("P17.2: %q: not by its expression", text)
		}
		holdParse(t, "P17.2", "a OK x\r\n"+text+end+"* 1 EXISTS\r\n", ended("a", "OK", "x"), want, exists(1))
		holdNone(t, text)
		holdNone(t, text+"\r")
		holdNone(t, text+"\n")
		holdNone(t, "a OK x\r\n"+text+end+"x\r\n")
	}
}

func TestParseNone(t *testing.T) {
	holdParse(t, "P17.2", "")
	for _, text := range []string{
		"", " ", "x", "*", "+", "a", "a ", " a", "a OK", "a NO", "a BAD", "a OKAY x", "a ok x", "a Ok x", "a BYE x", "a  OK x", " a OK x", "a OK\tx", "a\tOK x",
		"+x", "+x OK y", "a+ OK x", "a+b OK x", "++ OK x", "(a OK x", "a) OK x", "{1} OK x", "% OK x", "** OK x", "*a OK x", "a* OK x", "*OK x", `"a" OK x`, `a\ OK x`, "a] OK x", "\x80 OK x", "é OK x",
		row(maxTag+1) + " OK x", row(100000) + " OK x", row(100000), "OK", "OK x", "1 EXISTS", "SEARCH", "SEARCH 1",
		"a OK \x00", "a OK \x1f", "a OK \x7f", "a OK \x80", "a OK é", "a OK \t", "a OK x\ry", "a OK x\ny", "a OK x\r", "a OK x\n",
		"+ \x00", "+ \x1f", "+ \x7f", "+ \xff", "+ x\ry", "+ x\ny", "+ x\r",
		"* \x00", "* \x1f", "* \x7f", "* \xff", "* x\ry", "* x\ny", "* x\r", "* OK \x00", "* SEARCH \x00", "* SEARCH\t1", "* SEARCH 1\r", "* 1\tEXISTS", "* 1 EXISTS\r", "* 1 FETCH (UID 1\x00)", "* 1 FETCH (UID 1)\r",
		"* 1 FETCH (BODY[] {2}\r\nhix)", "* 1 FETCH (BODY[] {2}\r\nh)", "* 1 FETCH (BODY[] {2}\r\nhi", "* 1 FETCH (BODY[] {2}\r\nhi) ", "* 1 FETCH (BODY[] {2}\nhi)", "* 1 FETCH (BODY[] {2}\rhi)", "* 1 FETCH (BODY[] {02}\r\nhi)", "* 1 FETCH (RFC822.SIZE 3 BODY[] {2}\r\nhi)", "* 1 FETCH (BODY[] {2}\r\nhi UID 1)", "* 1 FETCH (BODY.PEEK[] {2}\r\nhi)", "* 2147483648 FETCH (BODY[] {2}\r\nhi)",
		"* 1 FETCH (BODY[] {65537}\r\n" + row(maxLiteral+1) + ")", "* 1 FETCH (BODY[] {4294967296}\r\n)", "* 1 FETCH (BODY[] {65536}\r\n" + row(maxLiteral) + " )",
	} {
		holdNone(t, text+end)
		holdNone(t, text+end+"* 1 EXISTS\r\n")
		holdNone(t, "* 1 EXISTS\r\n"+text+end)
		if holdFront(t, text+end) {
			t.Errorf("P17.2: %.100q: lines by the expressions", text)
		}
	}
	for _, text := range []string{"\r\n", "\n", "\r", "\n\r", "* 1 EXISTS\n", "* 1 EXISTS\r", "* 1 EXISTS\n\r", "* 1 EXISTS\r\n\r\n", "\r\n* 1 EXISTS\r\n", "* 1 EXISTS\r\n ", "* 1 EXISTS\r\n* "} {
		holdNone(t, text)
	}
}

// Where a fetch is none, its first line may be an info, and what stands behind it lines of their own.
func TestParseHeadAlone(t *testing.T) {
	for text, want := range map[string][]reply.Line{
		"* 1 FETCH (BODY[] {9}\r\na OK done\r\n":                  {info("1 FETCH (BODY[] {9}"), ended("a", "OK", "done")},
		"* 1 FETCH (BODY[] {5}\r\na OK )\r\n":                     {fetch(1, 8, tree.Rec{Text: "a OK "})},
		"* 1 FETCH (BODY[] {6}\r\na OK )\r\n":                     {info("1 FETCH (BODY[] {6}"), ended("a", "OK", ")")},
		"* 1 FETCH (BODY[] {65537}\r\n+ x\r\n":                    {info("1 FETCH (BODY[] {65537}"), goOn("x")},
		"* x {5}\r\n* 1 EXISTS\r\n":                               {info("x {5}"), exists(1)},
		"* 1 FETCH (UID 1 {5}\r\n* 1 FETCH (BODY[] {1}\r\n))\r\n": {info("1 FETCH (UID 1 {5}"), fetch(1, 8, tree.Rec{Text: ")"})},
	} {
		holdParse(t, "P17.2", text, want...)
		holdFront(t, text)
	}
}

// The sequence numbers are all that may be, and no others.
func TestParseSeq(t *testing.T) {
	for _, n := range []uint64{0, 1, 9, 10, 65536, math.MaxInt32 - 1, math.MaxInt32, math.MaxInt32 + 1, math.MaxUint32, math.MaxUint32 + 1, math.MaxUint64} {
		for word, kind := range map[string]int{"EXPUNGE": reply.Gone, "EXISTS": reply.Exists, "FETCH (FLAGS ())": reply.Fetch} {
			text := strconv.FormatUint(n, 10) + " " + word
			want := info(text)
			if n <= math.MaxInt32 {
				want = reply.Line{Kind: kind, Seq: int(n)}
				if kind == reply.Fetch {
					want.Items = item.Flags
				}
			}
			holdParse(t, "P17.2", "* "+text+end, want)
		}
	}
}

// TestParseBytes has each byte at some places.
func TestParseBytes(t *testing.T) {
	for b := range 256 {
		one := string([]byte{byte(b)})
		for _, text := range []string{one, one + "* 1 EXISTS", "*" + one + "1 EXISTS", "* " + one, "* " + one + "1 EXISTS", "* 1" + one + "EXISTS", "* 1 EXISTS" + one, "* 1 FETCH (UID 1)" + one, "* SEARCH" + one, "* SEARCH" + one + "1", "* SEARCH 1" + one, "+" + one, "+ " + one, one + " OK x", "a" + one + " OK x", "a" + one + "OK x", "a OK" + one, "a OK" + one + "x", "a OK " + one, "* OK " + one, "* OK" + one + "x", "* 1 FETCH (BODY[] {1}\r\n" + one + ")"} {
			holdFront(t, text+end)
			holdFront(t, text+"\r"+one)
			holdFront(t, text+one+"\n")
		}
		isTag, isText := strings.Contains(letters, one), strings.Contains(textBytes, one)
		if got := holdFront(t, "a"+one+"b OK x\r\n"); got != isTag {
			t.Errorf("P17.2: a tag with %q: %v", one, got)
		}
		if got := holdFront(t, "a OK "+one+end); got != isText {
			t.Errorf("P17.2: a text with %q: %v", one, got)
		}
	}
}

// TestParseNear parses texts with any byte changed, put in or taken out.
func TestParseNear(t *testing.T) {
	came := 0
	check := func(s string) {
		if holdFront(t, s) {
			came++
		}
	}
	for _, text := range []string{
		"* 12 EXPUNGE\r\n",
		"* 0 EXISTS\r\n+ go\r\n",
		"* 2 FETCH (UID 50 FLAGS (\\Seen \\Draft))\r\n",
		"* 2 FETCH (FLAGS () RFC822.SIZE 3 BODY[] {3}\r\na)\n)\r\n* SEARCH\r\n",
		"* 1 FETCH (BODY[] {12}\r\n)\r\na OK x\r\n)\r\n",
		"* SEARCH 1 20 4294967295\r\n",
		"* OK [UIDNEXT 4] next\r\n",
		"* FLAGS (x)\r\na1 NO [TRYCREATE] none\r\n",
		"a BAD set\r\n",
	} {
		check(text)
		for i := range len(text) {
			check(text[:i] + text[i+1:])
			check(text[:i] + text[i:i+1] + text[i:])
			for b := range 256 {
				if b < 128 || b%16 == 5 {
					check(text[:i] + string([]byte{byte(b)}) + text[i+1:])
					check(text[:i] + string([]byte{byte(b)}) + text[i:])
				}
			}
		}
	}
	if came < 1000 {
		t.Errorf("P17.2: just %d of the texts had lines", came)
	}
}

// TestParseAllSmall parses all small texts of some parts.
func TestParseAllSmall(t *testing.T) {
	parts := []string{"*", "+", " ", "a", "OK", "BAD", "SEARCH", "1", "EXISTS", "EXPUNGE", "FETCH", "(", ")", "UID 2", "FLAGS ()", "BODY[] {2}\r\n", "\r\n"}
	came := 0
	texts := []string{"", "* ", "a OK", "* 1 FETCH (", "* SEARCH"}
	for range 5 {
		var longer []string
		for _, s := range texts {
			if holdFront(t, s) {
				came++
			}
			for _, part := range parts {
				longer = append(longer, s+part)
			}
		}
		texts = longer
		if len(texts) > 1<<18 {
			break
		}
	}
	if came < 1000 {
		t.Errorf("P17.2: just %d of the texts had lines", came)
	}
}

// Long texts, also of lines that almost are another kind, are gone through in time.
func TestParseLong(t *testing.T) {
	const many = 50000
	for _, text := range []string{"* 1 FETCH (FLAGS (", "* 1 FETCH (UID 1", "* SEARCH 1 x", "* OK", "* x", "+ x", "a OK x", "* 1 EXISTS"} {
		want, _, ok := front(text + end)
		if !ok {
			t.Fatalf("P17.2: %q: no line", text)
		}
		holdParse(t, "P17.2", strings.Repeat(text+end, many), slices.Repeat([]reply.Line{want}, many)...)
		holdNone(t, strings.Repeat(text+end, many)+"x")
	}
	holdParse(t, "P17.2", strings.Repeat("* 1 FETCH (FLAGS ({9}\r\n", 500), slices.Repeat([]reply.Line{info("1 FETCH (FLAGS ({9}")}, 500)...)
	holdNone(t, strings.Repeat("x", 1<<20))
	holdNone(t, strings.Repeat("* ", 1<<20))
	holdNone(t, strings.Repeat("\r\n", 1<<20))
	nums := make([]uint32, many)
	holdParse(t, "P17.2", "* SEARCH"+strings.Repeat(" 0", many)+end, found(nums...))
}

// What is parsed twice has nothing in common.
func TestParsedApart(t *testing.T) {
	const text = "* SEARCH 1 2\r\n* SEARCH 1 2\r\n"
	one, _ := reply.Parse(text)
	two, _ := reply.Parse(text)
	clear(two[0].Nums)
	if !alike(one[0], found(1, 2)) || !alike(one[1], found(1, 2)) || !alike(two[1], found(1, 2)) {
		t.Errorf("P17.2: %s and %s, when one was changed", shown(one), shown(two))
	}
	_ = append(two[0].Nums[:0], 7, 7, 7, 7)
	clear(two)
	holdParse(t, "P17.2", text, one...)
}
