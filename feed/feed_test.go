package feed_test

import (
	"fmt"
	"math/rand"
	"regexp"
	"slices"
	"strconv"
	"strings"
	"testing"

	"postchaise/command"
	"postchaise/feed"
	"postchaise/flags"
	"postchaise/item"
	"postchaise/search"
	"postchaise/seqset"
	"postchaise/token"
)

// The limits that the chapter names.
const (
	maxLine    = 8192
	maxLiteral = 65536
	maxKept    = 73728
)

// The kinds of pieces.
const (
	whole = iota
	goOn
	tooBig
	tooLong
)

// end is the end of a line.
const end = "\r\n"

// row is a row of bytes of some length, of which none means something.
func row(n int) string {
	return strings.Repeat("x", n)
}

// told is a piece.
func told(kind int, text string) feed.Piece {
	return feed.Piece{Kind: kind, Text: text}
}

// behind are pieces behind so many go ons.
func behind(ons int, pieces ...feed.Piece) []feed.Piece {
	return append(slices.Repeat([]feed.Piece{told(goOn, "")}, ons), pieces...)
}

// taken are the pieces that a feed tells of bytes that come in parts of a length.
func taken(f *feed.Feed, s string, length int) []feed.Piece {
	var pieces []feed.Piece
	for part := range slices.Chunk([]byte(s), length) {
		pieces = append(pieces, f.Take(part)...)
	}
	return pieces
}

// shown are pieces, as a failure shows them.
func shown(pieces []feed.Piece) string {
	var b strings.Builder
	for _, piece := range pieces {
		fmt.Fprintf(&b, "[%d %d bytes %.40q]", piece.Kind, len(piece.Text), piece.Text)
	}
	return b.String()
}

// holdPieces holds what is told of bytes, all at once and one by one, and how many are kept then.
func holdPieces(t *testing.T, s string, want []feed.Piece, kept int) {
	t.Helper()
	for _, c := range []struct {
		promise string
		length  int
	}{{"P16.1", len(s) + 1}, {"P16.2: one by one", 1}} {
		f := feed.New()
		if got := taken(f, s, c.length); !slices.Equal(got, want) {
			t.Errorf("%s: of %d bytes, %.60q: %s, not %s", c.promise, len(s), s, shown(got), shown(want))
		}
		if f.Kept() != kept {
			t.Errorf("%s: of %d bytes, %.60q: %d are kept, not %d", c.promise, len(s), s, f.Kept(), kept)
		}
	}
}

// heads are literals' heads at the end of a line.
var heads = regexp.MustCompile(`\{(0|[1-9][0-9]*)\}\z`)

// headOf is the number of the head that a line ends with, or -1.
func headOf(line string) int {
	found := heads.FindStringSubmatch(line)
	if found == nil {
		return -1
	}
	n, err := strconv.ParseUint(found[1], 10, 32)
	if err != nil {
		return -1
	}
	return int(n)
}

// parted are the pieces of all that came, and how many bytes at its end are kept: told by looking for places in all of it at once.
func parted(s string) ([]feed.Piece, int) {
	var pieces []feed.Piece
	for {
		piece, ons, used := first(s)
		pieces = append(pieces, behind(ons)...)
		if used < 0 {
			return pieces, min(len(s), maxKept)
		}
		pieces = append(pieces, piece)
		if piece.Kind == tooLong {
			// The byte that was too many may be the 13 of the two.
			at := strings.Index(s[used-1:], end)
			if at < 0 {
				return pieces, 0
			}
			used += at + 1
		}
		s = s[used:]
	}
}

// first is the piece by which the first command ends, how many go ons stand ahead of it, and how many bytes it is of; -1, if it has not ended.
func first(s string) (feed.Piece, int, int) {
	at, lines, literals := 0, 0, 0
	for ons := 0; ; ons++ {
		length := strings.Index(s[at:], end)
		if over := max(at, at+maxLine-lines); over < len(s) && (length < 0 || at+length+1 > over) {
			return told(tooLong, s[:over+1]), ons, over + 1
		}
		if length < 0 {
			return feed.Piece{}, ons, -1
		}
		text := s[:at+length]
		n := headOf(s[at : at+length])
		lines += length + len(end)
		at += length + len(end)
		if n < 0 {
			return told(whole, text), ons, at
		}
		literals += n
		if literals > maxLiteral {
			return told(tooBig, text), ons, at
		}
		at += n
		if at > len(s) {
			return feed.Piece{}, ons + 1, -1
		}
	}
}

// holdParted holds what is told of bytes against what is looked for in all of them.
func holdParted(t *testing.T, s string) {
	t.Helper()
	pieces, kept := parted(s)
	holdPieces(t, s, pieces, kept)
}

func TestNew(t *testing.T) {
	f := feed.New()
	if f.Kept() != 0 || len(f.Take(nil)) != 0 || len(f.Take([]byte{})) != 0 || f.Kept() != 0 {
		t.Error("P16.1: a feed to which nothing came tells something")
	}
}

func TestLines(t *testing.T) {
	for _, c := range []struct {
		s    string
		want []feed.Piece
		kept int
	}{
		{"a noop\r\n", behind(0, told(whole, "a noop")), 0},
		{"", nil, 0},
		{"a", nil, 1},
		{"a noop", nil, 6},
		{"a noop\r", nil, 7},
		{"a noop\n", nil, 7},
		{"a noop\n\r", nil, 8},
		{"\r\n", behind(0, told(whole, "")), 0},
		{"\r\n\r\n", behind(0, told(whole, ""), told(whole, "")), 0},
		{"\r\r\n", behind(0, told(whole, "\r")), 0},
		{"\n\r\n", behind(0, told(whole, "\n")), 0},
		{"a\rb\nc\n\rd\r\n", behind(0, told(whole, "a\rb\nc\n\rd")), 0},
		{"a\r\nb\r\nc", behind(0, told(whole, "a"), told(whole, "b")), 1},
		{"a\r\n\n\r\n", behind(0, told(whole, "a"), told(whole, "\n")), 0},
		{"\x00\xff\x80\r\n", behind(0, told(whole, "\x00\xff\x80")), 0},
	} {
		holdPieces(t, c.s, c.want, c.kept)
		holdParted(t, c.s)
	}
}

func TestLiterals(t *testing.T) {
	for _, c := range []struct {
		s    string
		want []feed.Piece
		kept int
	}{
		{"a append x {2}\r\nhi\r\n", behind(1, told(whole, "a append x {2}\r\nhi")), 0},
		{"{3}\r", nil, 4},
		{"{3}\r\n", behind(1), 5},
		{"{3}\r\nab", behind(1), 7},
		{"{3}\r\nabc", behind(1), 8},
		{"{3}\r\nabc\r", behind(1), 9},
		{"{3}\r\nabc\r\n", behind(1, told(whole, "{3}\r\nabc")), 0},
		{"{3}\r\n\r\n{\r\n", behind(1, told(whole, "{3}\r\n\r\n{")), 0},
		{"{0}\r\n", behind(1), 5},
		{"{0}\r\n\r\n", behind(1, told(whole, "{0}\r\n")), 0},
		{"{0}\r\n{0}\r\n{0}\r\nx\r\n", behind(3, told(whole, "{0}\r\n{0}\r\n{0}\r\nx")), 0},
		{"x{1}\r\na{1}\r\nb{1}\r\nc\r\n", behind(3, told(whole, "x{1}\r\na{1}\r\nb{1}\r\nc")), 0},
		// What stands in a literal is neither a head, nor a line's end, nor a piece of one.
		{"{1}\r\n\r\n\r\n", behind(1, told(whole, "{1}\r\n\r\n")), 0},
		{"{1}\r\n{0}\r\n", behind(1, told(whole, "{1}\r\n{0}")), 0},
		{"{2}\r\n{10}\r\n", behind(1, told(whole, "{2}\r\n{10}")), 0},
		{"{3}\r\n{1}\r\n", behind(1, told(whole, "{3}\r\n{1}")), 0},
		{"{4}\r\n{1}\r\r\n", behind(1, told(whole, "{4}\r\n{1}\r")), 0},
		{"{4}\r\na{1}{1}\r\n\n\r\n", behind(2, told(whole, "{4}\r\na{1}{1}\r\n\n")), 0},
		{"{{1}\r\n", behind(1), 6},
		{"{1}{1}\r\n", behind(1), 8},
		{"x\r{1}\r\n", behind(1), 7},
		{`"{1}` + end, behind(1), 6},
	} {
		holdPieces(t, c.s, c.want, c.kept)
		holdParted(t, c.s)
		holdParted(t, c.s+"b noop\r\nc")
	}
}

func TestNoHeads(t *testing.T) {
	for _, s := range []string{
		"{1}x", "{1} ", "{1}\r", "{1}\n", "{}", "{01}", "{00}", "{+1}", "{1+}", "{-1}", "{ 1}", "{1 }", "{x}", "{1}}", "1}", "(1}", "{1", "{1)", "}", "{", "{1}\x00", "{1\r}", "{1\n}", "{\xb2}", "{4294967296}", "{18446744073709551617}", "{99999999999999999999999999}",
	} {
		for _, ahead := range []string{"", "a", "{1}", "{("} {
			holdPieces(t, ahead+s+end+"b", behind(0, told(whole, ahead+s)), 1)
		}
		holdPieces(t, "{1}\r\n{"+s+end+"b", behind(1, told(whole, "{1}\r\n{"+s)), 1)
	}
}

func TestTooBig(t *testing.T) {
	most := "{65536}\r\n" + row(65536)
	much := "{40000}\r\n" + row(40000)
	for _, c := range []struct {
		s    string
		want []feed.Piece
		kept int
	}{
		{"a append x {65536}\r\n", behind(1), 20},
		{"a append x {65536}\r\n" + row(65536), behind(1), 65556},
		{"a append x {65537}\r\n", behind(0, told(tooBig, "a append x {65537}")), 0},
		{"a append x {65537}\r\nb noop\r\nc", behind(0, told(tooBig, "a append x {65537}"), told(whole, "b noop")), 1},
		{"{4294967295}\r\n\r\n", behind(0, told(tooBig, "{4294967295}"), told(whole, "")), 0},
		{"{2147483648}\r\n", behind(0, told(tooBig, "{2147483648}")), 0},
		{most + "{0}\r\n{0}\r\n\r\n", behind(3, told(whole, most+"{0}\r\n{0}\r\n")), 0},
		{most + "{1}\r\n", behind(1, told(tooBig, most+"{1}")), 0},
		{"{1}\r\nx{65535}\r\n", behind(2), 15},
		{"{1}\r\nx{65536}\r\ny\r\n", behind(1, told(tooBig, "{1}\r\nx{65536}"), told(whole, "y")), 0},
		{"{1}\r\nx{4294967295}\r\n", behind(1, told(tooBig, "{1}\r\nx{4294967295}")), 0},
		{much + " {25536}\r\n", behind(2), 40019},
		{much + " {25537}\r\n", behind(1, told(tooBig, much+" {25537}")), 0},
		{much + "\r\n{40000}\r\n", append(behind(1, told(whole, much)), behind(1)...), 9},
		{"{65537}\r\n{65536}\r\n", append(behind(0, told(tooBig, "{65537}")), behind(1)...), 9},
	} {
		holdPieces(t, c.s, c.want, c.kept)
		holdParted(t, c.s)
	}
}

func TestTooLong(t *testing.T) {
	most := row(maxLine)
	for _, c := range []struct {
		s    string
		want []feed.Piece
		kept int
	}{
		{most[2:] + end, behind(0, told(whole, most[2:])), 0},
		{most[1:] + end, behind(0, told(whole, most[1:])), 0},
		{most[1:] + "\r", nil, maxLine},
		{most, nil, maxLine},
		{most + "\r", behind(0, told(tooLong, most+"\r")), 0},
		{most + end, behind(0, told(tooLong, most+"\r")), 0},
		{most + end + "b", behind(0, told(tooLong, most+"\r")), 1},
		{most + "\n", behind(0, told(tooLong, most+"\n")), 0},
		{most + "\n\r\nb", behind(0, told(tooLong, most+"\n")), 1},
		{most + "y", behind(0, told(tooLong, most+"y")), 0},
		{most + "yz\r\nb\r\n", behind(0, told(tooLong, most+"y"), told(whole, "b")), 0},
		{most + "y\r\rb\n\r\r\nb", behind(0, told(tooLong, most+"y")), 1},
		{most + "\r\r\nb", behind(0, told(tooLong, most+"\r")), 1},
		{most + "\rb\nc\n\r", behind(0, told(tooLong, most+"\r")), 0},
		{most + "y{9}\r\nb\r\n", behind(0, told(tooLong, most+"y"), told(whole, "b")), 0},
		{most + "y{65537}\r\nb\r\n", behind(0, told(tooLong, most+"y"), told(whole, "b")), 0},
		{most[1:] + "\n\r\n", behind(0, told(tooLong, most[1:]+"\n\r")), 0},
		{most[1:] + "\ry\r\n", behind(0, told(tooLong, most[1:]+"\ry")), 0},
		{row(100000), behind(0, told(tooLong, most+"x")), 0},
		{row(100000) + end + row(9000) + end + row(10), behind(0, told(tooLong, most+"x"), told(tooLong, most+"x")), 10},
	} {
		holdPieces(t, c.s, c.want, c.kept)
		holdParted(t, c.s)
	}
}

// What a line's bytes are, where it has literals.
func TestTooLongWithLiterals(t *testing.T) {
	head := "{3}\r\n"
	ahead := row(maxLine-5) + head
	for _, c := range []struct {
		s    string
		want []feed.Piece
		kept int
	}{
		{ahead[1:] + "abc\r", behind(1), maxLine + 3},
		{ahead[1:] + "abc\r\n", behind(1, told(whole, ahead[1:]+"abc")), 0},
		{ahead + "abc\r\n", behind(1, told(tooLong, ahead+"abc\r")), 0},
		{ahead + "abcy\r\n", behind(1, told(tooLong, ahead+"abcy")), 0},
		{ahead + "abc\n\r\nb", behind(1, told(tooLong, ahead+"abc\n")), 1},
		// The head's 10 would be the first that is too many: the line ends all the same, and what comes behind the literal is too many.
		{"y" + ahead, behind(1), maxLine + 1},
		{"y" + ahead + "abc", behind(1), maxLine + 4},
		{"y" + ahead + "abc\r\n", behind(1, told(tooLong, "y"+ahead+"abc\r")), 0},
		{"y" + ahead + "ab\r\n\r\nb", behind(1, told(tooLong, "y"+ahead+"ab\r\n")), 1},
		{"yy" + ahead + "abc\r\nb", behind(0, told(tooLong, "yy"+ahead[:maxLine-1]), told(whole, "abc")), 1},
		{row(maxLine-8) + "{65537}\r\nb", behind(0, told(tooBig, row(maxLine-8)+"{65537}")), 1},
		{row(maxLine-7) + "{65537}\r\nb", behind(0, told(tooLong, row(maxLine-7)+"{65537}\r")), 1},
		{row(maxLine-4) + "{0}\r\n\r\nb", behind(1, told(tooLong, row(maxLine-4)+"{0}\r\n\r")), 1},
	} {
		holdPieces(t, c.s, c.want, c.kept)
		holdParted(t, c.s)
	}
}

// longTexts is a walk through texts of one command with so many bytes ahead of a tail that are not a literal's, and literals of some lengths.
func longTexts(yield func(ahead, tail string) bool) {
	tails := []string{end, "\r\r\n", "\ny", "y", "{0}\r\n", "{0}\r\n\r\n", "{1}\r\n\r\n\r\n", "{1}\r\n", "{65537}\r\n", "{9\r\n", "{01}\r\n"}
	for _, literals := range [][]string{nil, {""}, {row(5)}, {"", "\r\n"}, {row(maxLiteral)}, {row(maxLiteral - 1)}, {row(maxLiteral - 2), "\r"}, {"\r", row(maxLiteral-2) + "\r"}} {
		ahead := ""
		lines := 0
		for _, literal := range literals {
			head := "{" + strconv.Itoa(len(literal)) + "}\r\n"
			ahead += head + literal
			lines += len(head)
		}
		for _, tail := range tails {
			for most := maxLine - 8; most < maxLine+3; most++ {
				if !yield(ahead+row(most-lines), tail) {
					return
				}
			}
		}
	}
}

func TestBounds(t *testing.T) {
	for ahead, tail := range longTexts {
		f := feed.New()
		got := f.Take([]byte(ahead))
		// Told by those ahead of the tail, and those with each byte more of it.
		for i, b := range []byte(tail + "b noop\r\nc") {
			got = append(got, f.Take([]byte{b})...)
			want, kept := parted(ahead + (tail + "b noop\r\nc")[:i+1])
			if !slices.Equal(got, want) || f.Kept() != kept {
				t.Fatalf("P16.1: of %d bytes and %q: %s, %d kept, not %s, %d", len(ahead), (tail + "b noop\r\nc")[:i+1], shown(got), f.Kept(), shown(want), kept)
			}
		}
	}
}

// So many bytes may come that no more than those are kept.
func TestKept(t *testing.T) {
	for _, s := range []string{
		"{65536}\r\n" + row(maxLiteral) + row(maxLine-9),
		"{65536}\r\n" + row(maxLiteral) + row(maxLine-10) + "\r",
		row(maxLine-10) + "\r{65536}\r\n" + row(maxLiteral),
		row(maxLine-8) + "{65536}\r\n" + row(maxLiteral),
		"{65535}\r\n" + row(maxLiteral-1) + row(maxLine-13) + "{1}\r\nx",
		"{65536}\r\n" + row(maxLiteral) + row(maxLine-13) + "{0}\r\n",
	} {
		f := feed.New()
		most := 0
		for i := range len(s) {
			f.Take([]byte(s[i : i+1]))
			most = max(most, f.Kept())
			if f.Kept() != min(i+1, maxKept) {
				t.Fatalf("P16.1: of %d bytes, %.20q, %d are kept", i+1, s, f.Kept())
			}
		}
		if most != maxKept {
			t.Errorf("P16.1: of %.20q not more than %d are kept", s, most)
		}
		// What is told then has all of them, also if there was one more than is kept.
		holdPieces(t, s+"y\r\nb", behind(strings.Count(s, end), told(tooLong, s+"y")), 1)
		if len(s) > maxKept {
			holdPieces(t, s+"\r\nb", behind(strings.Count(s, end), told(tooLong, s+"\r")), 1)
		}
	}
}

// TestAllShort parts all short texts of some bytes.
func TestAllShort(t *testing.T) {
	kinds := map[int]int{}
	texts := []string{""}
	for range 6 {
		var longer []string
		for _, s := range texts {
			pieces, _ := parted(s)
			for _, piece := range pieces {
				kinds[piece.Kind]++
			}
			holdParted(t, s)
			for _, b := range []string{"x", "{", "1", "}", "\r", "\n", "{2}\r\n", "{65537}\r\n"} {
				longer = append(longer, s+b)
			}
		}
		texts = longer
		if t.Failed() {
			return
		}
	}
	if kinds[whole] < 100 || kinds[goOn] < 100 || kinds[tooBig] < 10 {
		t.Errorf("P16.1: just %v pieces of the kinds", kinds)
	}
}

// anyBytes are bytes of some lines, which may have literals.
func anyBytes(random *rand.Rand) string {
	var b strings.Builder
	for range 1 + random.Intn(30) {
		switch random.Intn(12) {
		case 0:
			b.WriteString(row(random.Intn(5000)))
		case 1:
			b.WriteString("{" + strconv.Itoa(random.Intn(80000)) + "}\r\n")
		case 2, 3:
			b.WriteString("{" + strconv.Itoa(random.Intn(30)) + "}\r\n")
		case 4, 5, 6:
			b.WriteString(end)
		case 7:
			b.WriteString(row(random.Intn(40000)))
		default:
			b.WriteString([]string{"\r", "\n", "{", "}", "a noop", "{0}"}[random.Intn(6)])
		}
	}
	return b.String()
}

func TestAnyParts(t *testing.T) {
	random := rand.New(rand.NewSource(16))
	kinds := map[int]int{}
	for range 300 {
		s := anyBytes(random)
		want, kept := parted(s)
		for _, piece := range want {
			kinds[piece.Kind]++
		}
		for _, most := range []int{2, 10, 9000, len(s)} {
			f := feed.New()
			var got []feed.Piece
			for at := 0; at < len(s); {
				to := min(at+random.Intn(most+1), len(s))
				part := []byte(s[at:to])
				pieces := f.Take(part)
				got = append(got, pieces...)
				// Both are the caller's, and may be changed.
				clear(part)
				clear(pieces)
				at = to
			}
			if !slices.Equal(got, want) || f.Kept() != kept {
				t.Fatalf("P16.2: of %.80q in parts up to %d: %s, %d kept, not %s, %d", s, most, shown(got), f.Kept(), shown(want), kept)
			}
		}
	}
	for kind := range 4 {
		if kinds[kind] < 10 {
			t.Errorf("P16.2: just %d pieces of the kind %d", kinds[kind], kind)
		}
	}
}

// anyText is a text of any bytes.
func anyText(random *rand.Rand) string {
	b := make([]byte, random.Intn(130))
	for i := range b {
		b[i] = "abc{1}\r\n\"\\ ()\x00\xff"[random.Intn(15)]
	}
	return string(b)
}

// anyCommand is a command that is right, and how many literals its text has.
func anyCommand(random *rand.Rand) (command.Command, int) {
	name, text := anyText(random), anyText(random)
	written := 0
	if strings.HasPrefix(token.Quote(name), "{") {
		written = 1
	}
	c := command.Command{Tag: "a" + strconv.Itoa(random.Intn(100)), Kind: random.Intn(9)}
	switch c.Kind {
	case command.Select:
		c.Name = name
		return c, written
	case command.Append:
		c.Name, c.Flags, c.Text = name, flags.Set(random.Intn(32)), text
		return c, written + 1
	case command.Store:
		c.Set, c.Order = seqset.Of(2, 3, 7), item.Order{How: random.Intn(3)}
	case command.Fetch:
		c.Set, c.Items, c.ByUid = seqset.Of(4), item.Items(1+random.Intn(15)), true
	case command.Search:
		c.Key = search.Key{Kind: search.Not, Kids: []search.Key{{Kind: search.Body, S: name}}}
		return c, written
	case command.Copy:
		c.Set, c.Name = seqset.Of(9), name
		return c, written
	}
	return c, 0
}

func TestCommandsComeOut(t *testing.T) {
	random := rand.New(rand.NewSource(17))
	f := feed.New()
	for range 5000 {
		c, literals := anyCommand(random)
		text := c.String()
		if text == "" {
			t.Fatalf("P15.1: %v has no text", c)
		}
		want := behind(literals, told(whole, text))
		if got := taken(f, text+end, 1+random.Intn(len(text))); !slices.Equal(got, want) || f.Kept() != 0 {
			t.Fatalf("P16.2: of %q: %s, %d kept", text, shown(got), f.Kept())
		}
	}
	for _, c := range []command.Command{
		{Tag: "a", Kind: command.Append, Name: "x", Text: row(maxLiteral)},
		{Tag: "a", Kind: command.Append, Name: strings.Repeat("\n", 30000), Text: row(maxLiteral - 30000)},
		{Tag: "a", Kind: command.Select, Name: row(maxLine - 10)},
	} {
		text := c.String()
		holdPieces(t, text+end, behind(strings.Count(text, end), told(whole, text)), 0)
	}
}

// Two feeds have nothing in common.
func TestApart(t *testing.T) {
	a, b := feed.New(), feed.New()
	a.Take([]byte("a {3}\r\nx"))
	b.Take([]byte("b"))
	if got := b.Take([]byte(" noop\r\n")); !slices.Equal(got, behind(0, told(whole, "b noop"))) || b.Kept() != 0 || a.Kept() != 8 {
		t.Errorf("P16.1: %s, %d and %d kept", shown(got), a.Kept(), b.Kept())
	}
	if got := a.Take([]byte("yz\r\n")); !slices.Equal(got, behind(0, told(whole, "a {3}\r\nxyz"))) {
		t.Errorf("P16.1: %s", shown(got))
	}
}
