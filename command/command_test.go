package command_test

import (
	"math"
	"slices"
	"strings"
	"testing"

	"postchaise/command"
	"postchaise/flags"
	"postchaise/item"
	"postchaise/search"
	"postchaise/seqset"
)

// The limits that the chapter, and those of the layers below, name.
const (
	maxTag     = 60
	maxLiteral = 65536
	maxRanges  = 64
	maxDepth   = 16
)

// row is a row of letters of some length.
func row(n int) string {
	return strings.Repeat("x", n)
}

// set is a set with one range.
func set(from, to uint32) seqset.Set {
	return seqset.Set{{From: from, To: to}}
}

// ranges is a set of many ranges.
func ranges(n int) seqset.Set {
	var s seqset.Set
	for i := range uint32(n) {
		s = append(s, seqset.Range{From: i, To: 2*i + 1})
	}
	return s
}

// of is a key with kids.
func of(kind int, kids ...search.Key) search.Key {
	return search.Key{Kind: kind, Kids: kids}
}

// deep is a key of a depth.
func deep(depth int) search.Key {
	k := search.Key{Kind: search.Seq, Set: set(1, 2)}
	for range depth - 1 {
		k = of(search.Not, k)
	}
	return k
}

// value is a value that a part of a command may have: is it nothing, and does it fit, if the kind has that part?
type value struct {
	put     func(c *command.Command)
	nothing bool
	fits    bool
}

// tags are values of a tag, which is a part of every kind.
func tags() []value {
	var l []value
	tag := func(s string, fits bool) {
		l = append(l, value{func(c *command.Command) { c.Tag = s }, s == "", fits})
	}
	for _, s := range []string{"a", "A1.b", "NOOP", "1", "!#$&',-./:;<=>?@[^_`|}~", "OK", row(maxTag)} {
		tag(s, true)
	}
	for _, s := range []string{"", "*", "+", "a+", "+a", "a b", " a", "a ", "a\r\n", "a\n", "a\x00", "a\x7f", "\x80", "\xff", "é", "(", "a)", "{1}", "%", `"a"`, `\`, "]", row(maxTag + 1), row(100000)} {
		tag(s, false)
	}
	return l
}

// parts are the parts of commands beside the tag and the kind, and values that they may have.
func parts() map[string][]value {
	l := map[string][]value{}
	part := func(name string, nothing, fits bool, put func(c *command.Command)) {
		l[name] = append(l[name], value{put, nothing, fits})
	}
	for _, s := range []string{"", "x", "INBOX", "a \"b\r\n\x00\xff", row(maxLiteral), row(maxLiteral + 1)} {
		fits := len(s) <= maxLiteral
		part("name", s == "", fits, func(c *command.Command) { c.Name = s })
		part("text", s == "", fits, func(c *command.Command) { c.Text = s })
	}
	part("uid", true, true, func(c *command.Command) { c.ByUid = false })
	part("uid", false, true, func(c *command.Command) { c.ByUid = true })
	for _, s := range []seqset.Set{nil, {}, {{}}, set(7, 0), set(math.MaxUint32, 1), ranges(maxRanges), ranges(maxRanges + 1), ranges(1000)} {
		part("set", len(s) == 0, len(s) > 0 && len(s) <= maxRanges, func(c *command.Command) { c.Set = s })
	}
	for _, n := range []flags.Set{0, 1, 16, 31, 32, 33, 64, 128, 255} {
		part("flags", n == 0, n < 32, func(c *command.Command) { c.Flags = n })
	}
	for _, how := range []int{0, 1, 2, 3, -1, math.MaxInt, math.MinInt, 256} {
		for _, silent := range []bool{false, true} {
			part("order", how == 0 && !silent, how >= 0 && how <= 2, func(c *command.Command) { c.Order = item.Order{How: how, Silent: silent} })
		}
	}
	for _, n := range []item.Items{0, 1, 2, 4, 8, 15, 16, 17, 32, 128, 255} {
		part("items", n == 0, n > 0 && n < 16, func(c *command.Command) { c.Items = n })
	}
	for _, k := range []search.Key{{}, {Kids: []search.Key{}, Set: seqset.Set{}}} {
		part("key", true, true, func(c *command.Command) { c.Key = k })
	}
	for _, k := range []search.Key{{Kind: search.Has, Flag: flags.Seen}, {Kind: search.Larger}, of(search.And, search.Key{}), deep(maxDepth)} {
		part("key", false, true, func(c *command.Command) { c.Key = k })
	}
	for _, k := range []search.Key{{Kind: 11}, {Kind: -1}, {Kind: search.Has}, {N: 1}, {S: "x"}, of(search.And), of(search.Not), of(search.All, search.Key{}), deep(maxDepth + 1), of(search.Or, search.Key{}, search.Key{Kind: search.Seq})} {
		part("key", false, false, func(c *command.Command) { c.Key = k })
	}
	return l
}

// has are the parts that commands have, by the kind.
var has = map[int][]string{
	command.Select:   {"name"},
	command.Noop:     {},
	command.Append:   {"name", "flags", "text"},
	command.Store:    {"uid", "set", "order", "flags"},
	command.Fetch:    {"uid", "set", "items"},
	command.Search:   {"uid", "key"},
	command.Expunge:  {},
	command.Copy:     {"uid", "set", "name"},
	command.Unselect: {},
}

// plain is a command of a kind that may be, with as little as may be.
func plain(kind int) command.Command {
	c := command.Command{Tag: "a", Kind: kind}
	if slices.Contains(has[kind], "set") {
		c.Set = set(1, 1)
	}
	if slices.Contains(has[kind], "items") {
		c.Items = item.Uid
	}
	return c
}

// holdRight holds whether a command may be, and that it has a text just then.
func holdRight(t *testing.T, c command.Command, want bool) {
	t.Helper()
	if c.Right() != want {
		t.Fatalf("P15.1: %.300v: it may be %v, not %v", c, c.Right(), want)
	}
	if text := c.String(); (text != "") != want {
		t.Fatalf("P15.1: %.300v, which may be %v: its text is %.80q", c, want, text)
	}
}

func TestKinds(t *testing.T) {
	for kind, want := range []int{command.Select, command.Noop, command.Append, command.Store, command.Fetch, command.Search, command.Expunge, command.Copy, command.Unselect} {
		if kind != want {
			t.Errorf("P15.1: a kind is %d, not %d", want, kind)
		}
		holdRight(t, plain(kind), true)
	}
	for _, kind := range []int{-1, 9, 10, 256, 256 + command.Noop, math.MaxInt, math.MinInt} {
		holdRight(t, command.Command{Tag: "a", Kind: kind}, false)
	}
	holdRight(t, command.Command{}, false)
}

// TestParts puts each value of one part, and of two parts, into a command of each kind that may be.
func TestParts(t *testing.T) {
	all := parts()
	all["tag"] = tags()
	for kind, had := range has {
		had = append(slices.Clone(had), "tag")
		fits := func(name string, v value) bool {
			if slices.Contains(had, name) {
				return v.fits
			}
			return v.nothing
		}
		for name, values := range all {
			for _, v := range values {
				c := plain(kind)
				v.put(&c)
				holdRight(t, c, fits(name, v))
				for other, others := range all {
					for _, o := range others {
						if other > name {
							d := c
							o.put(&d)
							holdRight(t, d, fits(name, v) && fits(other, o))
						}
					}
				}
			}
		}
	}
}

// texts are commands that may be, by their texts.
func texts() map[string]command.Command {
	or := of(search.Or, search.Key{Kind: search.Has, Flag: flags.Seen}, search.Key{Kind: search.Body, S: "a b"})
	return map[string]command.Command{
		"a1 SELECT INBOX":                                 {Tag: "a1", Kind: command.Select, Name: "INBOX"},
		`a SELECT ""`:                                     {Tag: "a", Kind: command.Select},
		`a SELECT "my \"box\\"`:                           {Tag: "a", Kind: command.Select, Name: `my "box\`},
		"a SELECT {2}\r\n\r\n":                            {Tag: "a", Kind: command.Select, Name: "\r\n"},
		"a SELECT {101}\r\n" + row(100) + " ":             {Tag: "a", Kind: command.Select, Name: row(100) + " "},
		"a SELECT UID":                                    {Tag: "a", Kind: command.Select, Name: "UID"},
		"NOOP NOOP":                                       {Tag: "NOOP", Kind: command.Noop},
		"a APPEND x () {0}\r\n":                           {Tag: "a", Kind: command.Append, Name: "x"},
		"a APPEND x (\\Deleted \\Seen) {3}\r\nabc":        {Tag: "a", Kind: command.Append, Name: "x", Flags: flags.Seen | flags.Deleted, Text: "abc"},
		"a APPEND \"(\" (\\Draft) {5}\r\n{1}\r\n":         {Tag: "a", Kind: command.Append, Name: "(", Flags: flags.Draft, Text: "{1}\r\n"},
		"a APPEND {1}\r\n\n () {4}\r\n\r\n\x00\xff":       {Tag: "a", Kind: command.Append, Name: "\n", Text: "\r\n\x00\xff"},
		"a STORE 1:2,* FLAGS ()":                          {Tag: "a", Kind: command.Store, Set: seqset.Set{{From: 1, To: 2}, {}}},
		"a STORE 5 FLAGS.SILENT (\\Answered)":             {Tag: "a", Kind: command.Store, Set: set(5, 5), Order: item.Order{Silent: true}, Flags: flags.Answered},
		"a STORE 9:3 -FLAGS (\\Flagged)":                  {Tag: "a", Kind: command.Store, Set: set(9, 3), Order: item.Order{How: 2}, Flags: flags.Flagged},
		"a1 UID STORE 1:* +FLAGS.SILENT (\\Seen)":         {Tag: "a1", Kind: command.Store, ByUid: true, Set: set(1, 0), Order: item.Order{How: 1, Silent: true}, Flags: flags.Seen},
		"a FETCH *:4294967295 (UID)":                      {Tag: "a", Kind: command.Fetch, Set: set(0, math.MaxUint32), Items: item.Uid},
		"a UID FETCH 1 (FLAGS RFC822.SIZE)":               {Tag: "a", Kind: command.Fetch, ByUid: true, Set: set(1, 1), Items: item.Flags | item.Size},
		"a FETCH 1 (UID FLAGS RFC822.SIZE BODY.PEEK[])":   {Tag: "a", Kind: command.Fetch, Set: set(1, 1), Items: 15},
		"a SEARCH ALL":                                    {Tag: "a", Kind: command.Search},
		"a UID SEARCH UID 4:*":                            {Tag: "a", Kind: command.Search, ByUid: true, Key: search.Key{Kind: search.Uid, Set: set(4, 0)}},
		"a SEARCH OR SEEN BODY \"a b\"":                   {Tag: "a", Kind: command.Search, Key: or},
		"a SEARCH (ALL)":                                  {Tag: "a", Kind: command.Search, Key: of(search.And, search.Key{})},
		"a SEARCH (NOT ALL 1:2)":                          {Tag: "a", Kind: command.Search, Key: of(search.And, of(search.Not, search.Key{}), search.Key{Kind: search.Seq, Set: set(1, 2)})},
		"a SEARCH BODY {3}\r\n\r\nx":                      {Tag: "a", Kind: command.Search, Key: search.Key{Kind: search.Body, S: "\r\nx"}},
		"a EXPUNGE":                                       {Tag: "a", Kind: command.Expunge},
		"a COPY 2 x":                                      {Tag: "a", Kind: command.Copy, Set: set(2, 2), Name: "x"},
		"a UID COPY 2,3 \"a b\"":                          {Tag: "a", Kind: command.Copy, ByUid: true, Set: seqset.Set{{From: 2, To: 2}, {From: 3, To: 3}}, Name: "a b"},
		"UID UID COPY 1 UID":                              {Tag: "UID", Kind: command.Copy, ByUid: true, Set: set(1, 1), Name: "UID"},
		row(maxTag) + " UNSELECT":                         {Tag: row(maxTag), Kind: command.Unselect},
		"!#$&',-./:;<=>?@[^_`|}~ UNSELECT":                {Tag: "!#$&',-./:;<=>?@[^_`|}~", Kind: command.Unselect},
		"a COPY " + ranges(maxRanges)[1:].String() + " x": {Tag: "a", Kind: command.Copy, Set: ranges(maxRanges)[1:], Name: "x"},
	}
}

func TestString(t *testing.T) {
	for text, c := range texts() {
		if got := c.String(); got != text {
			t.Errorf("P15.1: the text of %v: %q, not %q", c, got, text)
		}
		holdRight(t, c, true)
	}
}

// apart are commands of which each differs from the others in one part at least; may be or not.
func apart() []command.Command {
	k := search.Key{Kind: search.Seq, Set: set(1, 1)}
	l := []command.Command{
		{}, {Tag: "b"}, {Tag: "B"}, {Name: "a"}, {Text: "a"}, {Kind: 1}, {Kind: -1}, {Kind: 257}, {ByUid: true}, {Flags: 1}, {Flags: 32}, {Flags: 33}, {Items: 1}, {Items: 16}, {Items: 17},
		{Set: set(0, 0)}, {Set: set(1, 0)}, {Set: set(0, 1)}, {Set: set(1, 1)}, {Set: seqset.Set{{}, {}}}, {Set: ranges(100)}, {Set: ranges(101)},
		{Order: item.Order{How: 1}}, {Order: item.Order{How: -1}}, {Order: item.Order{Silent: true}}, {Order: item.Order{How: 1, Silent: true}},
		{Key: search.Key{Kind: 1}}, {Key: search.Key{N: 1}}, {Key: search.Key{S: "x"}}, {Key: search.Key{Flag: 1}}, {Key: k}, {Key: of(search.Not, k)}, {Key: of(search.Not, k, k)}, {Key: deep(100)}, {Key: deep(101)},
	}
	for _, c := range texts() {
		l = append(l, c)
	}
	return l
}

func TestSame(t *testing.T) {
	l, again := apart(), apart()
	for i, c := range l {
		for j, o := range l {
			if c.Same(o) != (i == j) {
				t.Errorf("P15.1: %.200v and %.200v are the same: %v", c, o, i != j)
			}
		}
		if !slices.ContainsFunc(again, c.Same) {
			t.Errorf("P15.1: %.200v made again is not the same", c)
		}
		d := c
		if len(d.Set) == 0 {
			d.Set = seqset.Set{}
		}
		if len(d.Key.Kids) == 0 {
			d.Key.Kids, d.Key.Set = []search.Key{}, slices.Clip(append(seqset.Set{}, d.Key.Set...))
		}
		if !c.Same(d) || !d.Same(c) || c.Right() != d.Right() || c.String() != d.String() {
			t.Errorf("P15.1: %.200v: a list that is nil and one that is empty are not one", c)
		}
	}
}

// What is asked of a command leaves it as it is.
func TestUnchanged(t *testing.T) {
	l, again := apart(), texts()
	for _, c := range l {
		if c.Right() != (c.String() != "") || !c.Same(c) {
			t.Errorf("P15.1: %.200v", c)
		}
	}
	for text, c := range again {
		if c.String() != text || !slices.ContainsFunc(l, c.Same) {
			t.Errorf("P15.1: %.200v is another one now", c)
		}
	}
}
