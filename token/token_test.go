package token_test

import (
	"bytes"
	"math/rand"
	"regexp"
	"strconv"
	"strings"
	"testing"

	"postchaise/token"
)

// maxLiteral is how many bytes a literal has at most.
const maxLiteral = 65536

// literal is a text written as a literal.
func literal(s string) string {
	return "{" + strconv.Itoa(len(s)) + "}\r\n" + s
}

// holdGaveUp holds a reader against one that gave up, for good.
func holdGaveUp(t *testing.T, r *token.Reader, what string) {
	t.Helper()
	if r.Ok() || r.End() || r.Left() != 0 {
		t.Errorf("P12.1: %s: it did not give up: Ok %v, End %v, %d bytes left", what, r.Ok(), r.End(), r.Left())
	}
	asked := false
	ask := func(byte) bool { asked = true; return true }
	if r.Word("") || r.Word("a") || r.Next(0) || r.Next('a') || r.While(ask) != "" || asked {
		t.Errorf("P12.2: %s: it gave up, and something comes next", what)
	}
	if r.Atom() != "" || r.Number() != 0 || r.String() != "" || r.Literal() != "" {
		t.Errorf("P12.1: %s: it gave up, and something is read", what)
	}
	r.Blank()
	if r.Ok() || r.End() || r.Left() != 0 {
		t.Errorf("P12.1: %s: it did not give up for good", what)
	}
}

// kinds are the readings that answer a text.
func kinds() map[string]func(*token.Reader) string {
	return map[string]func(*token.Reader) string{
		"Atom":    (*token.Reader).Atom,
		"String":  (*token.Reader).String,
		"Literal": (*token.Reader).Literal,
		"Number":  func(r *token.Reader) string { return strconv.FormatUint(uint64(r.Number()), 10) },
		"Blank":   func(r *token.Reader) string { r.Blank(); return "" },
	}
}

// holdRead holds what is read of s, and how many bytes are left then, against what should be.
func holdRead(t *testing.T, kind, s, want string, left int) {
	t.Helper()
	r := token.Read(s)
	if got := kinds()[kind](r); got != want || r.Left() != left || !r.Ok() || r.End() != (left == 0) {
		t.Errorf("P12.1: %s of %.80q: %.80q, %d bytes left, Ok %v, not %.80q and %d", kind, s, got, r.Left(), r.Ok(), want, left)
	}
}

// holdNone holds that nothing is read of s.
func holdNone(t *testing.T, kind, s string) {
	t.Helper()
	nothing := ""
	if kind == "Number" {
		nothing = "0"
	}
	r := token.Read(s)
	if got := kinds()[kind](r); got != nothing {
		t.Errorf("P12.1: %s of %.80q: %.80q, not nothing", kind, s, got)
	}
	holdGaveUp(t, r, kind+" of "+strconv.Quote(s[:min(len(s), 80)]))
}

func TestRead(t *testing.T) {
	for _, s := range []string{"", "a", "\x00\xff", strings.Repeat("x", 1000)} {
		r := token.Read(s)
		if r.Left() != len(s) || !r.Ok() || r.End() != (s == "") {
			t.Errorf("P12.1: a reader of %.20q: %d bytes left, Ok %v, End %v", s, r.Left(), r.Ok(), r.End())
		}
	}
}

func TestAtomBytes(t *testing.T) {
	for i := range 256 {
		b := string([]byte{byte(i)})
		if i > 32 && i < 127 && !strings.Contains(`(){%*"\]`, b) {
			holdRead(t, "Atom", b, b, 0)
			holdRead(t, "Atom", "x"+b+" y", "x"+b, 2)
			holdRead(t, "String", b+"x(", b+"x", 1)
			continue
		}
		holdNone(t, "Atom", b)
		holdNone(t, "Atom", b+"x")
		holdRead(t, "Atom", "x"+b+"y", "x", 2)
		if i != '"' && i != '{' {
			holdNone(t, "String", b+"x")
		}
	}
	holdNone(t, "Atom", "")
	holdNone(t, "String", "")
	holdRead(t, "Atom", "[}<>,", "[}<>,", 0)
	long := strings.Repeat("a", maxLiteral+1)
	holdRead(t, "Atom", long, long, 0)
}

func TestNumber(t *testing.T) {
	for _, c := range []struct {
		s, want string
		left    int
	}{
		{"0", "0", 0}, {"7", "7", 0}, {"10 ", "10", 1}, {"12345x9", "12345", 2}, {"4294967295", "4294967295", 0},
		{"4294967295.", "4294967295", 1}, {"0x", "0", 1}, {"0_1", "0", 2}, {"1_000", "1", 4}, {"1e3", "1", 2}, {"9\xb2", "9", 1},
	} {
		holdRead(t, "Number", c.s, c.want, c.left)
	}
	for _, s := range []string{
		"", " 1", "+1", "-1", "-0", "x", "/", ":", "00", "01", "007 ", "0000000000", "4294967296", "4294967300", "9999999999", "18446744073709551616", "18446744073709551617",
		strings.Repeat("9", 10000), strings.Repeat("0", 10000), "\xd9\xa3", "\xb2",
	} {
		holdNone(t, "Number", s)
	}
}

func TestLiteral(t *testing.T) {
	all := strings.Repeat("\x00\r\n\"\\{}\xff", maxLiteral/8)
	for _, c := range []struct {
		s, want string
		left    int
	}{
		{"{2}\r\nxyz", "xy", 1}, {"{0}\r\n", "", 0}, {"{0}\r\nx", "", 1}, {"{1}\r\n\r\n", "\r", 1}, {"{4}\r\n\x00\xff\"\\", "\x00\xff\"\\", 0},
		{literal(all), all, 0}, {literal(all) + "x", all, 1}, {"{5}\r\n{1}\r\n", "{1}\r\n", 0},
	} {
		holdRead(t, "Literal", c.s, c.want, c.left)
		holdRead(t, "String", c.s, c.want, c.left)
	}
	for _, s := range []string{
		"", "{", "{}", "{}\r\n", "{1", "{1}", "{1}\r", "{1}\r\n", "{1}\n\r", "{1}\nx", "{1}\rx", "{1}x", "{1} \r\nx", "{ 1}\r\nx", "{1 }\r\nx", "{3}\r\nxy", "{01}\r\nx", "{00}\r\n", "{+1}\r\nx", "{-0}\r\n",
		"{1+}\r\nx", "{x}\r\nx", "{65536}\r\n" + strings.Repeat("x", maxLiteral-1), "{65537}\r\n" + strings.Repeat("x", maxLiteral+1), "{4294967295}\r\n", "{4294967296}\r\n", "{4294967297}\r\nx", " {1}\r\nx", "}1}\r\nx",
	} {
		holdNone(t, "Literal", s)
		if s != "}1}\r\nx" {
			holdNone(t, "String", s)
		}
	}
	holdNone(t, "Literal", `"x"`)
	holdNone(t, "Literal", "x")
}

func TestQuoted(t *testing.T) {
	for _, c := range []struct {
		s, want string
		left    int
	}{
		{`"a\"b"`, `a"b`, 0}, {`""`, "", 0}, {`"" `, "", 1}, {`"a"b"`, "a", 2}, {`"\\"`, `\`, 0}, {`"\\\""`, `\"`, 0}, {`"\\"\"`, `\`, 2}, {`"a b(){%*]"`, "a b(){%*]", 0},
		{"\"\x00\x01\t\x7f\xff\xc3\"", "\x00\x01\t\x7f\xff\xc3", 0}, {`"{1}"`, "{1}", 0},
	} {
		holdRead(t, "String", c.s, c.want, c.left)
	}
	for _, s := range []string{`"`, `"a`, `"\"`, `"\`, `"\a"`, `"a\nb"`, `"\ "`, "\"\r\"", "\"\n\"", "\"a\r\n\"", "\"\\\r\"", "\"\\\n\"", "\"\\\x00\"", `"\\\"`, ` ""`, `\"x"`} {
		holdNone(t, "String", s)
	}
	long := strings.Repeat("a ", maxLiteral)
	holdRead(t, "String", `"`+long+`"`, long, 0)
	holdNone(t, "Atom", `"a"`)
	holdNone(t, "Number", `"1"`)
}

func TestBlank(t *testing.T) {
	holdRead(t, "Blank", " ", "", 0)
	holdRead(t, "Blank", "  ", "", 1)
	for i := range 256 {
		if i != ' ' {
			holdNone(t, "Blank", string([]byte{byte(i), ' '}))
		}
	}
	holdNone(t, "Blank", "")
}

func TestFail(t *testing.T) {
	for _, s := range []string{"", "abc", " a"} {
		r := token.Read(s)
		r.Fail()
		holdGaveUp(t, r, "Fail of "+strconv.Quote(s))
	}
}

func TestWord(t *testing.T) {
	for _, c := range []struct {
		s, w string
		has  bool
		left int
	}{
		{"fetch x", "FETCH", true, 2}, {"FeTcH", "fEtCh", true, 0}, {"FETCH", "", true, 5}, {"", "", true, 0}, {"", "a", false, 0}, {"fetc", "fetch", false, 4}, {"fetchx", "fetch", true, 1},
		{"xfetch", "fetch", false, 6}, {"uid fetch", "UID ", true, 5}, {"uidx", "UID ", false, 4}, {"[", "{", false, 1}, {"@", "`", false, 1}, {"{", "[", false, 1}, {"\x00", " ", false, 1},
		{"\xe1", "\xc1", false, 1}, {"\xe1x", "\xe1X", true, 0}, {"\xe2\x84\xaa", "k", false, 3}, {"k", "\xe2\x84\xaa", false, 1}, {"\xc5\xbf", "s", false, 2}, {"\xff", "\xef\xbf\xbd", false, 1},
		{"body.peek[]", "BODY.PEEK[]", true, 0},
	} {
		r := token.Read(c.s)
		if got := r.Word(c.w); got != c.has || r.Left() != c.left || !r.Ok() {
			t.Errorf("P12.2: Word(%q) of %q: %v, %d bytes left, Ok %v, not %v and %d", c.w, c.s, got, r.Left(), r.Ok(), c.has, c.left)
		}
	}
}

func TestWordBytes(t *testing.T) {
	great := func(i int) int {
		if i >= 'a' && i <= 'z' {
			return i - 32
		}
		return i
	}
	for a := range 256 {
		for b := range 256 {
			r := token.Read(string([]byte{byte(a)}))
			if got, want := r.Word(string([]byte{byte(b)})), great(a) == great(b); got != want || r.End() != want {
				t.Fatalf("P12.2: Word of the byte %d, where %d comes: %v", b, a, got)
			}
		}
	}
}

func TestNext(t *testing.T) {
	r := token.Read("ab")
	for i := range 256 {
		if got := r.Next(byte(i)); got != (i == 'a') {
			t.Errorf("P12.2: Next(%d): %v", i, got)
		}
	}
	if r.Left() != 2 || !r.Ok() {
		t.Errorf("P12.2: Next reads: %d bytes left", r.Left())
	}
	if token.Read("").Next(0) {
		t.Error("P12.2: Next of none")
	}
}

func TestWhile(t *testing.T) {
	digit := func(b byte) bool { return b >= '0' && b <= '9' }
	for _, c := range []struct {
		s, want string
		has     func(byte) bool
	}{
		{"123a4", "123", digit}, {"a1", "", digit}, {"", "", digit}, {"12", "12", digit},
		{"\x00\xff\r\n", "\x00\xff\r\n", func(byte) bool { return true }}, {"ab", "", func(byte) bool { return false }},
	} {
		r := token.Read(c.s)
		if got := r.While(c.has); got != c.want || r.Left() != len(c.s)-len(c.want) || !r.Ok() {
			t.Errorf("P12.2: While of %q: %q, %d bytes left, Ok %v", c.s, got, r.Left(), r.Ok())
		}
	}
}

// The function is asked of each byte once, in order, up to the first that is not so.
func TestWhileAsks(t *testing.T) {
	var asked []byte
	r := token.Read("abcde")
	r.While(func(b byte) bool { asked = append(asked, b); return b != 'c' })
	if string(asked) != "abc" || r.Left() != 3 {
		t.Errorf("P12.2: While asks of %q, %d bytes left", asked, r.Left())
	}
}

// A function that itself reads does no harm.
func TestWhileReads(t *testing.T) {
	for _, read := range []func(*token.Reader){
		func(r *token.Reader) { r.Blank() },
		func(r *token.Reader) { r.Atom() },
		func(r *token.Reader) { r.Word("ab") },
		func(r *token.Reader) { r.While(func(byte) bool { return true }) },
		func(r *token.Reader) { r.Fail() },
	} {
		r := token.Read("abcd efg")
		r.While(func(b byte) bool { read(r); return b != 'd' })
		if r.Left() < 0 || r.Left() > 8 || !r.Ok() && r.Left() > 0 {
			t.Errorf("P1, R1: While, whose function reads: %d bytes left", r.Left())
		}
	}
	r := token.Read("abc")
	if got := r.While(func(byte) bool { r.Fail(); return true }); got != "" {
		t.Errorf("P12.2: While, whose function gives up: %q", got)
	}
	holdGaveUp(t, r, "While, whose function gives up")
}

func TestInOrder(t *testing.T) {
	r := token.Read("a1 17 \"x y\" {3}\r\n( )[end]")
	first := r.Atom()
	r.Blank()
	n := r.Number()
	r.Blank()
	quoted := r.String()
	r.Blank()
	text := r.String()
	if first != "a1" || n != 17 || quoted != "x y" || text != "( )" || !r.Word("[END") || r.End() || !r.Next(']') || !r.Word("]") || !r.End() {
		t.Errorf("P12.1: %q, %d, %q, %q, %d bytes left", first, n, quoted, text, r.Left())
	}
}

func TestQuote(t *testing.T) {
	hundred := strings.Repeat(" ", 100)
	for s, want := range map[string]string{
		"":                         `""`,
		"a":                        "a",
		"INBOX[1":                  "INBOX[1",
		"a b":                      `"a b"`,
		`a"b\`:                     `"a\"b\\"`,
		"a]":                       `"a]"`,
		"\x00\x7f\xff":             "\"\x00\x7f\xff\"",
		"a\rb":                     "{3}\r\na\rb",
		"a\nb":                     "{3}\r\na\nb",
		"\r\n":                     "{2}\r\n\r\n",
		hundred:                    `"` + hundred + `"`,
		hundred + " ":              "{101}\r\n" + hundred + " ",
		strings.Repeat(`"`, 100):   `"` + strings.Repeat(`\"`, 100) + `"`,
		strings.Repeat(`\`, 101):   "{101}\r\n" + strings.Repeat(`\`, 101),
		strings.Repeat("a", 101):   strings.Repeat("a", 101),
		strings.Repeat("ä", 51):    "{102}\r\n" + strings.Repeat("ä", 51),
		strings.Repeat("ä", 50):    `"` + strings.Repeat("ä", 50) + `"`,
		strings.Repeat("a\n", 500): literal(strings.Repeat("a\n", 500)),
	} {
		if got := token.Quote(s); got != want {
			t.Errorf("P12.3: Quote(%q): %q, not %q", s, got, want)
		}
	}
	for i := range 256 {
		b := string([]byte{byte(i)})
		want := `"` + b + `"`
		switch {
		case b == `"` || b == `\`:
			want = `"\` + b + `"`
		case b == "\r" || b == "\n":
			want = "{1}\r\n" + b
		case i > 32 && i < 127 && !strings.Contains("(){%*]", b):
			want = b
		}
		if got := token.Quote(b); got != want {
			t.Errorf("P12.3: Quote(%q): %q, not %q", b, got, want)
		}
	}
}

func TestUpper(t *testing.T) {
	var all, great []byte
	for i := range 256 {
		all = append(all, byte(i))
		if i >= 'a' && i <= 'z' {
			i -= 32
		}
		great = append(great, byte(i))
	}
	if got := token.Upper(string(all)); got != string(great) {
		t.Errorf("P12.3: Upper of all bytes: %q", got)
	}
	for s, want := range map[string]string{"": "", "aZ z": "AZ Z", "ä": "ä", "ſ": "ſ", "\xff\xe1": "\xff\xe1"} {
		if got := token.Upper(s); got != want {
			t.Errorf("P12.3: Upper(%q): %q", s, got)
		}
	}
}

// shapes are the three ways of a string, told by expressions in place of readings.
func shapes() []*regexp.Regexp {
	return []*regexp.Regexp{
		regexp.MustCompile(`^[!#$&'+,\-./0-9:;<=>?@A-Z\[^_` + "`" + `a-z|}~]+`),
		regexp.MustCompile(`^"(?:[^\r\n"\\]|\\["\\])*"`),
		regexp.MustCompile(`^\{(0|[1-9][0-9]*)\}\r\n`),
	}
}

// wanted is what String should read of s, how many bytes are left then, and whether it is one.
func wanted(shapes []*regexp.Regexp, s string) (string, int, bool) {
	if m := shapes[0].FindString(s); m != "" {
		return m, len(s) - len(m), true
	}
	if m := shapes[1].FindString(s); m != "" {
		inner := regexp.MustCompile(`\\(.)`).ReplaceAllString(m[1:len(m)-1], "$1")
		return inner, len(s) - len(m), true
	}
	if m := shapes[2].FindStringSubmatch(s); m != nil {
		n, err := strconv.Atoi(m[1])
		if err == nil && n <= maxLiteral && n <= len(s)-len(m[0]) {
			return s[len(m[0]) : len(m[0])+n], len(s) - len(m[0]) - n, true
		}
	}
	return "", 0, false
}

// holdString holds what String reads of s against the expressions.
func holdString(t *testing.T, shapes []*regexp.Regexp, s string) {
	t.Helper()
	r := token.Read(s)
	got := r.String()
	want, left, ok := wanted(shapes, s)
	if got != want || r.Left() != left || r.Ok() != ok {
		t.Fatalf("P12.1: String of %q: %q, %d bytes left, Ok %v, not %q, %d, %v", s, got, r.Left(), r.Ok(), want, left, ok)
	}
}

func TestStringAllSmall(t *testing.T) {
	shapes := shapes()
	const bytes = "a1\"\\ \r\n{}"
	texts := []string{""}
	for range 5 {
		var longer []string
		for _, s := range texts {
			holdString(t, shapes, s)
			holdString(t, shapes, `"`+s)
			holdString(t, shapes, "{1}"+s)
			for i := range len(bytes) {
				longer = append(longer, s+bytes[i:i+1])
			}
		}
		texts = longer
	}
}

func TestQuoteRead(t *testing.T) {
	random := rand.New(rand.NewSource(12))
	const some = "ab1 \"\\{}\r\n\x00\xff]("
	hold := func(s string) {
		for _, behind := range []string{"", " x", ")"} {
			r := token.Read(token.Quote(s) + behind)
			if got := r.String(); got != s || r.Left() != len(behind) || !r.Ok() {
				t.Fatalf("P12.4: %.80q, quoted as %.80q, is read as %.80q, %d bytes left", s, token.Quote(s), got, r.Left())
			}
		}
	}
	for range 20000 {
		s := make([]byte, random.Intn(12))
		for i := range s {
			s[i] = some[random.Intn(len(some))]
		}
		hold(string(s))
	}
	for n := range 300 {
		hold(strings.Repeat("\\", n))
		hold(strings.Repeat("\n", n))
		hold(strings.Repeat("x", n))
	}
	for _, b := range []byte{0, ' ', 'x', '"', '\n', 255} {
		hold(string(bytes.Repeat([]byte{b}, maxLiteral)))
	}
}
