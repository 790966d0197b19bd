package reply

import (
	"math"
	"strings"

	"postchaise/api"
	"postchaise/item"
	"postchaise/token"
)

// The greatest tag, and what stands in its place where there is none.
const (
	maxTag = 60
	noTag  = "*"
)

// The words of an end.
const (
	wordOk  = "OK"
	wordNo  = "NO"
	wordBad = "BAD"
)

// Parse is the lines of a text.
func Parse(s string) ([]Line, api.Errno) {
	var lines []Line
	for s != "" {
		l, size, ok := first(s)
		if !ok {
			return nil, api.ErrForm
		}
		lines = append(lines, l)
		s = s[size:]
	}
	return lines, api.OK
}

// first is the line at the front of a text, and how many bytes it has, if there is one.
func first(s string) (Line, int, bool) {
	s = s[:reach(s)]
	for _, read := range [...]func(*token.Reader) Line{readGoOn, readDone, readFound, readNumbered, readInfo} {
		r := token.Read(s)
		l := read(r)
		must(r, r.Word(lineEnd))
		if r.Ok() {
			return l, len(s) - r.Left(), true
		}
	}
	return Line{}, 0, false
}

// reach is how far the line at the front of a text goes at most. (Else a line that is none might be looked for in all that stands behind it, and so might the next one, and so on.)
func reach(s string) int {
	end := strings.Index(s, lineEnd)
	if end < 0 {
		return len(s)
	}
	mayBeHead := strings.HasSuffix(s[:end], "}")
	end += len(lineEnd)
	if mayBeHead {
		end += api.MaxLiteral + len(")"+lineEnd)
	}
	return min(end, len(s))
}

// must gives up, if it is not so.
func must(r *token.Reader, so bool) {
	if !so {
		r.Fail()
	}
}

// readGoOn is the go on that comes next. (Of this, and of those below: if the reader gives up, it answers just something.)
func readGoOn(r *token.Reader) Line {
	must(r, r.Word(plus))
	return Line{Kind: GoOn, Text: readText(r)}
}

// readDone is the end of a command that comes next.
func readDone(r *token.Reader) Line {
	l := Line{Kind: Done, Tag: readTag(r)}
	r.Blank()
	l.Word = r.Atom()
	must(r, l.Word == wordOk || l.Word == wordNo || l.Word == wordBad)
	r.Blank()
	l.Text = readText(r)
	return l
}

// readFound is what was found that comes next.
func readFound(r *token.Reader) Line {
	must(r, r.Word(star))
	// Not by the reader's own Word, which takes small letters, too.
	must(r, r.Atom() == wordFound)
	l := Line{Kind: Found}
	for r.Word(" ") {
		l.Nums = append(l.Nums, r.Number())
	}
	return l
}

// readNumbered is the line with a sequence number that comes next.
func readNumbered(r *token.Reader) Line {
	must(r, r.Word(star))
	seq := r.Number()
	must(r, seq <= math.MaxInt32)
	l := Line{Seq: int(seq)}
	r.Blank()
	switch r.Atom() {
	case wordGone:
		l.Kind = Gone
	case wordExists:
		l.Kind = Exists
	case wordFetch:
		l.Kind = Fetch
		r.Blank()
		l.Items, l.Rec, l.Size = item.ReadTold(r)
	default:
		r.Fail()
	}
	return l
}

// readInfo is the info that comes next.
func readInfo(r *token.Reader) Line {
	must(r, r.Word(star))
	return Line{Kind: Info, Text: readText(r)}
}

// readTag is the tag that comes next, or what stands in its place.
func readTag(r *token.Reader) string {
	if r.Word(noTag) {
		return noTag
	}
	tag := r.Atom()
	must(r, len(tag) <= maxTag && !strings.Contains(tag, "+"))
	return tag
}

// readText is all that comes next, and may stand in a text.
func readText(r *token.Reader) string {
	return r.While(func(b byte) bool { return b >= ' ' && b <= '~' })
}
