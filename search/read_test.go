package search_test

import (
	"math/rand"
	"regexp"
	"slices"
	"strconv"
	"strings"
	"testing"

	"postchaise/api"
	"postchaise/flags"
	"postchaise/search"
	"postchaise/seqset"
	"postchaise/token"
)

// number is a number's text, and a comma.
func number(n int) string {
	return strconv.Itoa(n) + ","
}

// holdRead holds what Read reads.
func holdRead(t *testing.T, s string, want search.Key, left int) {
	t.Helper()
	r := token.Read(s)
	if got := search.Read(r); !alike(got, want) {
		t.Errorf("P14.2: %.80q: %.200v, not %.200v", s, got, want)
	}
	if !r.Ok() || r.Left() != left {
		t.Errorf("P14.2: %.80q: Ok %v, %d bytes left, not %d", s, r.Ok(), r.Left(), left)
	}
}

// holdNone holds that Read gives up.
func holdNone(t *testing.T, s string) {
	t.Helper()
	r := token.Read(s)
	if got := search.Read(r); !alike(got, search.Key{}) {
		t.Errorf("P14.2: %.80q: %.200v, not a zero key", s, got)
	}
	if r.Ok() || r.Left() != 0 || r.End() {
		t.Errorf("P14.2: %.80q: the reader did not give up: %d bytes left", s, r.Left())
	}
}

func TestRead(t *testing.T) {
	for text, k := range rightKeys() {
		for _, behind := range []string{"", ")", " 1", "\r\n"} {
			holdRead(t, text+behind, k, len(behind))
		}
	}
	for text, k := range map[string]search.Key{
		"all":                         all(),
		"Seen":                        has(flags.Seen),
		"unSEEN":                      {Kind: search.Lacks, Flag: flags.Seen},
		"uid 4":                       seq(search.Uid, 4, 4),
		"5:5":                         seq(search.Seq, 5, 5),
		"*:*":                         seq(search.Seq, 0, 0),
		"larger 7":                    {Kind: search.Larger, N: 7},
		"Smaller 0":                   {Kind: search.Smaller},
		"body \"x\"":                  body("x"),
		"Body {1}\r\nx":               body("x"),
		"BODY xY":                     body("xY"),
		"BODY {0}\r\n":                body(""),
		"not all":                     of(search.Not, all()),
		"oR nOT 1 (aLL draft)":        of(search.Or, of(search.Not, seq(search.Seq, 1, 1)), of(search.And, all(), has(flags.Draft))),
		"BODY {8}\r\nNOT ALL)":        body("NOT ALL)"),
		"(BODY \"a)\" body {1}\r\n))": of(search.And, body("a)"), body(")")),
	} {
		holdRead(t, text, k, 0)
	}
	holdRead(t, "1:2 3", seq(search.Seq, 1, 2), 2)
	holdRead(t, "1x", seq(search.Seq, 1, 1), 1)
	holdRead(t, "ALL ALL", all(), 4)
}

func TestReadWrong(t *testing.T) {
	for _, s := range []string{
		"", " ", "X", " ALL", "AL", "UN", "UNALL", "UN SEEN", "UNUNSEEN", "\\SEEN", "(\\SEEN)", "RECENT", "NEW", "SEE", "\"ALL\"", "{3}\r\nALL", "[ALL]", ")", "\xc5\xbfEEN", "A\x00L",
		"0", "00", "01", "1:", ":1", ",1", "1,", "1,,2", "1:2:3", "1::2", "**", "*1", "4294967296", "1:0", "-1", "+1",
		"UID", "UID ", "UID  1", "UID x", "UID 0", "UID ALL", "UID (1)", "UID1", "UID :1",
		"LARGER", "LARGER ", "LARGER  1", "LARGER x", "LARGER 01", "LARGER -1", "LARGER 4294967296", "SMALLER", "SMALLER *", "SMALLER 00",
		"BODY", "BODY ", "BODY  x", "BODY (", "BODY \"x", "BODY \"\\x\"", "BODY {2}\r\nx", "BODY {1}x", "BODY[] x", "BODY %",
		"NOT", "NOT ", "NOTALL", "NOT  ALL", "NOT X", "NOT)", "NOT ()", "OR", "OR ", "OR ALL", "OR ALL ", "OR  ALL ALL", "OR ALL  ALL", "OR ALL X", "OR X ALL", "OR ALL)ALL", "OR(ALL)(ALL)", "OR (ALL)(ALL)",
		"()", "( )", "(", "(ALL", "(ALL ", "(ALL )", "( ALL)", "(ALL  ALL)", "(ALL,ALL)", "(ALL(ALL))", "(ALL X)", "((ALL)", "(ALL\r\n)",
	} {
		holdNone(t, s)
		holdNone(t, "NOT "+s)
		holdNone(t, "(ALL "+s)
	}
}

func TestReadLimits(t *testing.T) {
	set := ranges(maxRanges + 1)[1:]
	long := set.String()
	holdRead(t, long, search.Key{Kind: search.Seq, Set: set}, 0)
	holdRead(t, "UID "+long, search.Key{Kind: search.Uid, Set: set}, 0)
	holdNone(t, long+",1")
	holdNone(t, "UID "+long+",1")
	holdNone(t, strings.Repeat("1,", 1<<20)+"1")
	most := strings.Repeat("x", maxLiteral)
	for _, s := range []string{most, `"` + most + `"`, "{65536}\r\n" + most} {
		holdRead(t, "BODY "+s, body(most), 0)
		holdRead(t, "NOT BODY "+s+")", of(search.Not, body(most)), 1)
	}
	for _, s := range []string{most + "x", `"` + most + `x"`, "{65537}\r\n" + most + "x"} {
		holdNone(t, "BODY "+s)
		holdNone(t, "(ALL BODY "+s+")")
	}
	many := make([]search.Key, 50000)
	holdRead(t, "("+strings.Repeat("ALL ", len(many)-1)+"all)", of(search.And, many...), 0)
}

func TestReadDepth(t *testing.T) {
	for _, c := range []struct{ ahead, behind string }{{"NOT ", ""}, {"not (", ")"}, {"(", ")"}, {"OR ALL ", ""}, {"OR ", " ALL"}, {"(1 ", " 2)"}} {
		levels := strings.Count(c.ahead, "OR") + strings.Count(strings.ToUpper(c.ahead), "NOT") + strings.Count(c.ahead, "(")
		for n := range maxDepth + 2 {
			s := strings.Repeat(c.ahead, n) + "ALL" + strings.Repeat(c.behind, n)
			depth := 1 + n*levels
			if depth > maxDepth {
				holdNone(t, s)
				continue
			}
			r := token.Read(s)
			if k := search.Read(r); !r.End() || !k.Right() || len(below(k)) < depth {
				t.Errorf("P14.2: %q: it is not read", s)
			}
		}
		holdNone(t, strings.Repeat(c.ahead, 1<<20))
		holdNone(t, strings.Repeat(c.ahead, 1<<16)+"ALL"+strings.Repeat(c.behind, 1<<16))
	}
}

func TestReaderThatGaveUp(t *testing.T) {
	for _, s := range []string{"ALL", "1", "NOT ALL", "(ALL)", "OR 1 2"} {
		r := token.Read(s)
		r.Fail()
		if k := search.Read(r); !alike(k, search.Key{}) || r.Ok() {
			t.Errorf("P14.2: %q is read by a reader that gave up", s)
		}
		if set := search.ReadSet(r); len(set) != 0 || r.Ok() {
			t.Errorf("P14.2: a set of %q is read by a reader that gave up", s)
		}
	}
}

func TestReadSet(t *testing.T) {
	setForm := regexp.MustCompile(`\A[0-9*:,]*`)
	check := func(s string) {
		t.Helper()
		text := setForm.FindString(s)
		want, err := seqset.Parse(text)
		left := len(s) - len(text)
		if err != api.OK {
			left = 0
		}
		r := token.Read(s)
		if got := search.ReadSet(r); !slices.Equal(got, want) || r.Ok() != (err == api.OK) || r.Left() != left {
			t.Errorf("P14.2: the set of %.80q: %v, Ok %v, %d bytes left, not %v, %v, %d", s, got, r.Ok(), r.Left(), want, err == api.OK, left)
		}
	}
	for _, s := range []string{"1", "1:2,*", "*", "1 2", "5:5)", "2:*,4x", "4294967295:1\r\n", "", "x", "0", " 1", "1,", "1,x", ":", ",", "01", "1:2:3", "(1)", "1-2", "1;2", "1/2", "4294967296"} {
		check(s)
	}
	texts := []string{""}
	for range 5 {
		var longer []string
		for _, s := range texts {
			check(s)
			for _, b := range "10*:, " {
				longer = append(longer, s+string(b))
			}
		}
		texts = longer
	}
	check(ranges(65)[1:].String())
	check(ranges(66)[1:].String())
	check(ranges(66)[1:].String() + ",")
}

// reduced: is a text a key? Told by taking the texts of keys for one letter again and again, in place of reading.
func reduced(forms []*regexp.Regexp, s string) bool {
	for {
		was := s
		for _, form := range forms {
			s = form.ReplaceAllString(s, "k")
		}
		if s == was {
			return s == "k"
		}
	}
}

// TestReadAllSmall reads all small texts of some parts.
func TestReadAllSmall(t *testing.T) {
	forms := []*regexp.Regexp{regexp.MustCompile(`1+|ALL|UNSEEN|BODY a[A-Z1a]*`), regexp.MustCompile(`NOT k`), regexp.MustCompile(`OR k k`), regexp.MustCompile(`\(k(?: k)*\)`)}
	parts := []string{"ALL", "1", "UNSEEN", "BODY a", "NOT ", "OR ", "(", ")", " "}
	keys := 0
	check := func(s string) {
		r := token.Read(s)
		k := search.Read(r)
		want := reduced(forms, s)
		if r.End() != want {
			t.Fatalf("P14.2: %q: a key %v, not %v", s, r.End(), want)
		}
		if want {
			keys++
			if k.String() != s {
				t.Fatalf("P14.2: %q is read as %q", s, k.String())
			}
		}
		if !r.Ok() && (r.Left() != 0 || !alike(k, search.Key{})) {
			t.Fatalf("P14.2: %q: it gave up, and answered %v", s, k)
		}
	}
	texts := []string{""}
	for range 6 {
		var longer []string
		for _, s := range texts {
			check(s)
			for _, part := range parts {
				longer = append(longer, s+part)
			}
		}
		texts = longer
	}
	if keys < 100 {
		t.Errorf("P14.2: just %d of the texts were keys", keys)
	}
}

// A text with any byte changed is read as a key whose text, up to letters, is what was read; or not at all.
func TestReadNear(t *testing.T) {
	const text = "OR (NOT UNSEEN 2:9,*) uid 1:10"
	read := 0
	check := func(s string) {
		r := token.Read(s)
		k := search.Read(r)
		if !r.Ok() {
			return
		}
		read++
		came := twoEnds.ReplaceAllStringFunc(s[:len(s)-r.Left()], func(s string) string {
			from, to, _ := strings.Cut(s, ":")
			if from == to {
				return from
			}
			return s
		})
		if token.Upper(came) != k.String() {
			t.Errorf("P14.2: %q is read as %q", came, k.String())
		}
	}
	for i := range len(text) {
		check(text[:i] + text[i+1:])
		for b := range 256 {
			check(text[:i] + string([]byte{byte(b)}) + text[i+1:])
			check(text[:i] + string([]byte{byte(b)}) + text[i:])
		}
	}
	if read < 100 {
		t.Errorf("P14.2: just %d of the texts were read", read)
	}
}

// twoEnds is a range with two ends, which is printed as one of them, if they are the same.
var twoEnds = regexp.MustCompile(`[0-9*]+:[0-9*]+`)

func TestPrintedIsRead(t *testing.T) {
	random := rand.New(rand.NewSource(14))
	for i := range 20000 {
		k := anyKey(random, 1+i%6)
		text := k.String()
		if text == "" {
			t.Fatalf("P14.1: %v has no text", k)
		}
		for _, behind := range []string{"", " ALL", ")"} {
			r := token.Read(text + behind)
			if got := search.Read(r); !got.Same(k) || !alike(got, k) || r.Left() != len(behind) || !r.Ok() {
				t.Fatalf("P14.3: %q is read as %q, %d bytes left", text, got.String(), r.Left())
			}
		}
	}
	for _, k := range []search.Key{deep(maxDepth), body(strings.Repeat("\n", maxLiteral)), body(strings.Repeat("x", maxLiteral)), {Kind: search.Uid, Set: ranges(maxRanges)}, of(search.And, make([]search.Key, 10000)...)} {
		r := token.Read(k.String())
		if got := search.Read(r); !alike(got, k) || !r.End() {
			t.Errorf("P14.3: %.80q is read as %.80q", k.String(), got.String())
		}
	}
}
