package command_test

import (
	"math/rand"
	"regexp"
	"slices"
	"strconv"
	"strings"
	"testing"

	"postchaise/api"
	"postchaise/command"
	"postchaise/flags"
	"postchaise/item"
	"postchaise/search"
	"postchaise/seqset"
)

// alike: are two commands the same, as Go holds one field against another?
func alike(a, b command.Command) bool {
	return a.Tag == b.Tag && a.Name == b.Name && a.Text == b.Text && a.Kind == b.Kind && a.ByUid == b.ByUid && slices.Equal(a.Set, b.Set) &&
		a.Flags == b.Flags && a.Order == b.Order && a.Items == b.Items && a.Key.String() == b.Key.String() && a.Key.Same(b.Key)
}

// holdParse holds the command of a text.
func holdParse(t *testing.T, promise, s string, want command.Command) {
	t.Helper()
	got, err := command.Parse(s)
	if err != api.OK || !alike(got, want) || !got.Same(want) || !got.Right() {
		t.Errorf("%s: %.80q: %.300v, error %d, not %.300v", promise, s, got, err, want)
	}
}

// holdNone holds that a text is none of a command.
func holdNone(t *testing.T, s string) {
	t.Helper()
	got, err := command.Parse(s)
	if err != api.ErrForm || !alike(got, command.Command{}) {
		t.Errorf("P15.2: %.80q: %.300v, error %d, not nothing, %d", s, got, err, api.ErrForm)
	}
}

func TestParse(t *testing.T) {
	for text, c := range texts() {
		holdParse(t, "P15.3", text, c)
		for _, behind := range []string{" ", "x", "\r\n", "\x00", ")"} {
			if c.Kind != command.Select && c.Kind != command.Copy || behind != "x" {
				holdNone(t, text+behind)
			}
		}
		holdNone(t, " "+text)
		holdNone(t, strings.Replace(text, " ", "  ", 1))
		holdNone(t, strings.Replace(text, " ", "\t", 1))
	}
}

func TestParseLetters(t *testing.T) {
	store := command.Command{Tag: "a1", Kind: command.Store, ByUid: true, Set: set(1, 0), Order: item.Order{How: 1, Silent: true}, Flags: flags.Seen}
	for text, c := range map[string]command.Command{
		"a1 uid store 1:* +flags.silent (\\Seen)": store,
		"a1 Uid sTORE 1:* +FlAgs.SILent (\\sEEN)": store,
		"a select Inbox":                         {Tag: "a", Kind: command.Select, Name: "Inbox"},
		"A Select \"a\"":                         {Tag: "A", Kind: command.Select, Name: "a"},
		"a noop":                                 {Tag: "a", Kind: command.Noop},
		"a expungE":                              {Tag: "a", Kind: command.Expunge},
		"a unSelect":                             {Tag: "a", Kind: command.Unselect},
		"a uId cOpY 7 b":                         {Tag: "a", Kind: command.Copy, ByUid: true, Set: set(7, 7), Name: "b"},
		"a fetch 1:1 body.peek[]":                {Tag: "a", Kind: command.Fetch, Set: set(1, 1), Items: item.Body},
		"a append Ab (\\draft \\DRAFT) {1}\r\nz": {Tag: "a", Kind: command.Append, Name: "Ab", Flags: flags.Draft, Text: "z"},
		"a search not seen":                      {Tag: "a", Kind: command.Search, Key: of(search.Not, search.Key{Kind: search.Has, Flag: flags.Seen})},
	} {
		holdParse(t, "P15.2", text, c)
	}
}

// What may stand otherwise than it is printed.
func TestParseOther(t *testing.T) {
	seen, one := search.Key{Kind: search.Has, Flag: flags.Seen}, search.Key{Kind: search.Seq, Set: set(1, 1)}
	for text, c := range map[string]command.Command{
		"a APPEND x {3}\r\nabc":                   {Tag: "a", Kind: command.Append, Name: "x", Text: "abc"},
		"a APPEND x {0}\r\n":                      {Tag: "a", Kind: command.Append, Name: "x"},
		"a APPEND \"x y\" {2}\r\n()":              {Tag: "a", Kind: command.Append, Name: "x y", Text: "()"},
		"a APPEND {1}\r\nx {1}\r\ny":              {Tag: "a", Kind: command.Append, Name: "x", Text: "y"},
		"a APPEND {1}\r\nx (\\Seen) {1}\r\ny":     {Tag: "a", Kind: command.Append, Name: "x", Flags: flags.Seen, Text: "y"},
		"a APPEND \"x\" (\\Seen \\Seen) {1}\r\ny": {Tag: "a", Kind: command.Append, Name: "x", Flags: flags.Seen, Text: "y"},
		"a STORE 1 FLAGS (\\Seen \\Answered)":     {Tag: "a", Kind: command.Store, Set: set(1, 1), Flags: flags.Seen | flags.Answered},
		"a FETCH 1 UID":                           {Tag: "a", Kind: command.Fetch, Set: set(1, 1), Items: item.Uid},
		"a FETCH 1 (FLAGS UID FLAGS)":             {Tag: "a", Kind: command.Fetch, Set: set(1, 1), Items: item.Uid | item.Flags},
		"a FETCH 5:5 (UID)":                       {Tag: "a", Kind: command.Fetch, Set: set(5, 5), Items: item.Uid},
		"a SELECT {1}\r\nx":                       {Tag: "a", Kind: command.Select, Name: "x"},
		"a SELECT {0}\r\n":                        {Tag: "a", Kind: command.Select},
		"a SEARCH SEEN":                           {Tag: "a", Kind: command.Search, Key: seen},
		"a SEARCH (SEEN)":                         {Tag: "a", Kind: command.Search, Key: of(search.And, seen)},
		"a SEARCH SEEN 1":                         {Tag: "a", Kind: command.Search, Key: of(search.And, seen, one)},
		"a SEARCH (SEEN 1)":                       {Tag: "a", Kind: command.Search, Key: of(search.And, seen, one)},
		"a SEARCH (SEEN) 1":                       {Tag: "a", Kind: command.Search, Key: of(search.And, of(search.And, seen), one)},
		"a UID SEARCH 1 NOT SEEN OR 1 SEEN 1":     {Tag: "a", Kind: command.Search, ByUid: true, Key: of(search.And, one, of(search.Not, seen), of(search.Or, one, seen), one)},
		"a SEARCH BODY x BODY \"y\"":              {Tag: "a", Kind: command.Search, Key: of(search.And, search.Key{Kind: search.Body, S: "x"}, search.Key{Kind: search.Body, S: "y"})},
	} {
		holdParse(t, "P15.2", text, c)
		c, _ := command.Parse(text)
		holdParse(t, "P15.3", c.String(), c)
	}
}

func TestParseWrong(t *testing.T) {
	for _, s := range []string{
		"", " ", "a", "a ", "NOOP", " NOOP", "a  NOOP", "a NOOP ", "a NOOPX", "a NOO", "a NO OP", "a\tNOOP", "a+ NOOP", "+ NOOP", "* NOOP", "a( NOOP", "(a) NOOP", "\"a\" NOOP", "{1}\r\na NOOP", row(maxTag+1) + " NOOP", "a X", "a NOOP NOOP", "a NOOP x", "a N\xd6OP", "a LOGOUT",
		"a UID", "a UID ", "a UID NOOP", "a UID SELECT x", "a UID APPEND x {0}\r\n", "a UID EXPUNGE", "a UID UNSELECT", "a UID UID FETCH 1 UID", "a UID  FETCH 1 UID", "a UIDFETCH 1 UID", "a FETCH UID 1 UID",
		"a SELECT", "a SELECT ", "a SELECT  x", "a SELECTx", "a SELECT x y", "a SELECT (x)", "a SELECT \"x", "a SELECT \"x\"y", "a SELECT {1}\r\nxy", "a SELECT {2}\r\nx", "a SELECT {1}x", "a SELECT %", "a SELECT \xe9", "a SELECT \"x\r\"",
		"a APPEND", "a APPEND x", "a APPEND x ", "a APPEND x y", "a APPEND x \"y\"", "a APPEND x {1}\r\n", "a APPEND x {1}\r\nyz", "a APPEND x ()", "a APPEND x () ", "a APPEND x () y", "a APPEND x () \"y\"", "a APPEND x (){0}\r\n", "a APPEND x  {0}\r\n", "a APPEND x{0}\r\n", "a APPEND {0}\r\n", "a APPEND () {0}\r\n", "a APPEND x (\\X) {0}\r\n", "a APPEND x (\\Seen  \\Draft) {0}\r\n", "a APPEND x \\Seen {0}\r\n", "a APPEND x () () {0}\r\n", "a APPEND x () {0}\r\n ", "a APPEND x {0}\r\n ()",
		"a STORE", "a STORE 1", "a STORE 1 FLAGS", "a STORE 1 FLAGS ", "a STORE 1 FLAGS()", "a STORE 1 FLAGS  ()", "a STORE  1 FLAGS ()", "a STORE 1  FLAGS ()", "a STORE 1FLAGS ()", "a STORE 0 FLAGS ()", "a STORE 1, FLAGS ()", "a STORE x FLAGS ()", "a STORE 1 *FLAGS ()", "a STORE 1 FLAGS.LOUD ()", "a STORE 1 FLAGS. ()", "a STORE 1 FLAGS \\Seen", "a STORE 1 FLAGS (\\Recent)", "a STORE 1 FLAGS ( )", "a STORE 1 FLAGS (", "a STORE 1 FLAGS ())", "a STORE 1 () FLAGS", "a STORE 1 FLAGS () x", "a STORE FLAGS ()",
		"a FETCH", "a FETCH 1", "a FETCH 1 ", "a FETCH 1 ()", "a FETCH 1 (UID", "a FETCH 1 (UID  FLAGS)", "a FETCH 1 UID FLAGS", "a FETCH 1 BODY[]", "a FETCH 1 ALL", "a FETCH 1(UID)", "a FETCH  1 UID", "a FETCH 1  UID", "a FETCH 01 UID", "a FETCH UID", "a FETCH 4294967296 UID", "a FETCH 1 UIDX",
		"a SEARCH", "a SEARCH ", "a SEARCH  ALL", "a SEARCHALL", "a SEARCH ALL ", "a SEARCH ALL  ALL", "a SEARCH ALL,ALL", "a SEARCH ALLX", "a SEARCH X", "a SEARCH ALL X", "a SEARCH X ALL", "a SEARCH ()", "a SEARCH (ALL", "a SEARCH ALL)", "a SEARCH NOT", "a SEARCH OR ALL", "a SEARCH CHARSET UTF-8 ALL", "a SEARCH 0", "a SEARCH BODY {2}\r\nx",
		"a EXPUNGE 1", "a EXPUNGE ", "a UNSELECT x", "a UNSELECT ",
		"a COPY", "a COPY 1", "a COPY 1 ", "a COPY x", "a COPY 1  x", "a COPY  1 x", "a COPY 1x", "a COPY 0 x", "a COPY 1 x y", "a COPY 1 (", "a COPY x 1", "a COPY 1 {1}\r\n",
	} {
		holdNone(t, s)
	}
}

func TestParseLimits(t *testing.T) {
	most := row(maxLiteral)
	holdParse(t, "P15.2", row(maxTag)+" NOOP", command.Command{Tag: row(maxTag), Kind: command.Noop})
	holdNone(t, row(1<<20)+" NOOP")
	for _, s := range []string{most, `"` + most + `"`, "{65536}\r\n" + most} {
		holdParse(t, "P15.2", "a SELECT "+s, command.Command{Tag: "a", Name: most})
		holdParse(t, "P15.2", "a APPEND "+s+" {65536}\r\n"+most, command.Command{Tag: "a", Kind: command.Append, Name: most, Text: most})
		holdParse(t, "P15.2", "a COPY 1 "+s, command.Command{Tag: "a", Kind: command.Copy, Set: set(1, 1), Name: most})
		holdParse(t, "P15.2", "a SEARCH BODY "+s, command.Command{Tag: "a", Kind: command.Search, Key: search.Key{Kind: search.Body, S: most}})
	}
	for _, s := range []string{most + "x", `"` + most + `x"`, "{65537}\r\n" + most + "x"} {
		holdNone(t, "a SELECT "+s)
		holdNone(t, "a APPEND "+s+" {0}\r\n")
		holdNone(t, "a COPY 1 "+s)
		holdNone(t, "a SEARCH BODY "+s)
	}
	holdNone(t, "a APPEND x {65537}\r\n"+most+"x")
	long := ranges(maxRanges + 1)[1:]
	for _, c := range []struct {
		s    string
		want command.Command
	}{
		{" FLAGS ()", command.Command{Tag: "a", Kind: command.Store, Set: long}},
		{" UID", command.Command{Tag: "a", Kind: command.Fetch, Set: long, Items: item.Uid}},
		{" x", command.Command{Tag: "a", Kind: command.Copy, Set: long, Name: "x"}},
	} {
		word := map[int]string{command.Store: "STORE ", command.Fetch: "FETCH ", command.Copy: "COPY "}[c.want.Kind]
		holdParse(t, "P15.2", "a "+word+long.String()+c.s, c.want)
		holdNone(t, "a "+word+long.String()+",1"+c.s)
		holdNone(t, "a "+word+strings.Repeat("1,", 100000)+"1"+c.s)
	}
}

// Several keys are one that is deeper by 1.
func TestParseDepth(t *testing.T) {
	for depth := 1; depth < maxDepth+3; depth++ {
		text := strings.Repeat("NOT ", depth-1) + "1:2"
		if depth > maxDepth {
			holdNone(t, "a SEARCH "+text)
		} else {
			holdParse(t, "P15.2", "a SEARCH "+text, command.Command{Tag: "a", Kind: command.Search, Key: deep(depth)})
		}
		for _, c := range []struct {
			text string
			kids []search.Key
		}{{text + " ALL", []search.Key{deep(depth), {}}}, {"ALL " + text, []search.Key{{}, deep(depth)}}} {
			if depth+1 > maxDepth {
				holdNone(t, "a SEARCH "+c.text)
			} else {
				holdParse(t, "P15.2", "a SEARCH "+c.text, command.Command{Tag: "a", Kind: command.Search, Key: of(search.And, c.kids...)})
			}
		}
	}
	holdNone(t, "a SEARCH "+strings.Repeat("(", 1<<20))
	holdNone(t, "a SEARCH "+strings.Repeat("NOT ", 1<<16)+"ALL")
	many := make([]search.Key, 50000)
	holdParse(t, "P15.2", "a SEARCH"+strings.Repeat(" ALL", len(many)), command.Command{Tag: "a", Kind: command.Search, Key: of(search.And, many...)})
}

func TestTag(t *testing.T) {
	for s, want := range map[string]string{
		"a1 NOOP": "a1", "a ": "a", "a b": "a", "a  ": "a", "A.b x": "A.b", "!#$&',-./:;<=>?@[^_`|}~ x": "!#$&',-./:;<=>?@[^_`|}~", "} x": "}", "OK NO": "OK", "a \r\n": "a", "0 \x00": "0", row(maxTag) + " ": row(maxTag), row(maxTag) + " " + row(100): row(maxTag),
		"": "", "a": "", " ": "", " a": "", " a b": "", "+ x": "", "a+ x": "", "+a x": "", "a+b x": "", "a\tx": "", "a\r\n": "", "a\r\n b": "", "a\nx": "", "a(b) x": "", "a) x": "", "(a x": "", "{1} x": "", "% x": "", "* x": "", "\"a\" x": "", "a\\ x": "", "a] x": "", "a\x00 x": "", "a\x7f x": "", "\x80 x": "", "\xc3\xa9 x": "", "\xff x": "", row(maxTag+1) + " ": "", row(maxTag): "", row(1<<20) + " ": "",
	} {
		if got := command.Tag(s); got != want {
			t.Errorf("P15.2: the tag of %.80q: %q, not %q", s, got, want)
		}
	}
	for b := range 256 {
		one := string([]byte{byte(b)})
		want := ""
		if b > 32 && b < 127 && !strings.Contains("(){%*\"\\]+", one) {
			want = one
		}
		for _, ahead := range []string{"", "a", "zz"} {
			whole := ahead + one
			if want == "" {
				whole = ""
			}
			if b == ' ' {
				whole = ahead
			}
			if got := command.Tag(ahead + one + " x"); got != whole {
				t.Errorf("P15.2: the tag of %q: %q, not %q", ahead+one+" x", got, whole)
			}
		}
	}
}

// wide is a text in which each byte is a rune, so that an expression sees bytes.
func wide(s string) string {
	runes := make([]rune, len(s))
	for i := range len(s) {
		runes[i] = rune(s[i])
	}
	return string(runes)
}

// alternatives is an expression for one of some.
func alternatives(l ...string) string {
	return "(?:" + strings.Join(l, "|") + ")"
}

// oneOrMore is an expression for one or more, with one blank between two.
func oneOrMore(s string) string {
	return s + "(?: " + s + ")*"
}

// form is an expression for all texts of commands whose numbers, and literals, are short, and whose keys are not deep.
func form() *regexp.Regexp {
	var literals []string
	for n := range 8 {
		literals = append(literals, `\{`+strconv.Itoa(n)+`\}\r\n[\x00-\xff]{`+strconv.Itoa(n)+`}`)
	}
	literal := alternatives(literals...)
	text := alternatives(`[!#$&'+,\-./0-9:;<=>?@A-Z\[^_\x60a-z|}~]+`, `"(?:[^\r\n"\\]|\\["\\])*"`, literal)
	number := `(?:0|[1-9][0-9]{0,8})`
	end := `(?:\*|[1-9][0-9]{0,8})`
	set := end + `(?::` + end + `)?(?:,` + end + `(?::` + end + `)?)*`
	names := `(?:ANSWERED|FLAGGED|DELETED|SEEN|DRAFT)`
	flag := `\\` + names
	flags := `\((?:` + oneOrMore(flag) + `)?\)`
	name := `(?:UID|FLAGS|RFC822\.SIZE|BODY\.PEEK\[\])`
	items := alternatives(name, `\(`+oneOrMore(name)+`\)`)
	key := alternatives("ALL", "(?:UN)?"+names, "(?:UID )?"+set, "(?:LARGER|SMALLER) "+number, "BODY "+text)
	for range 2 {
		key = alternatives(key, "NOT "+key, "OR "+key+" "+key, `\(`+oneOrMore(key)+`\)`)
	}
	plain := alternatives("SELECT "+text, "NOOP", "APPEND "+text+"(?: "+flags+")? "+literal, "EXPUNGE", "UNSELECT")
	numbered := alternatives("STORE "+set+` [+-]?FLAGS(?:\.SILENT)? `+flags, "FETCH "+set+" "+items, "SEARCH "+oneOrMore(key), "COPY "+set+" "+text)
	return regexp.MustCompile(`\A[!#$&',\-./0-9:;<=>?@A-Z\[^_\x60a-z|}~]{1,60} (?i:` + alternatives(plain, "(?:UID )?"+numbered) + `)\z`)
}

// holdForm holds whether a text is one of a command, and answers whether it is.
func holdForm(t *testing.T, form *regexp.Regexp, s string) bool {
	t.Helper()
	want := form.MatchString(wide(s))
	c, err := command.Parse(s)
	if (err == api.OK) != want {
		t.Fatalf("P15.2: %q: a command %v, not %v", s, err == api.OK, want)
	}
	if !want && (err != api.ErrForm || !alike(c, command.Command{})) {
		t.Fatalf("P15.2: %q: %v, error %d, not nothing, %d", s, c, err, api.ErrForm)
	}
	if again, err := command.Parse(c.String()); want && (err != api.OK || !alike(again, c)) {
		t.Fatalf("P15.3: %q is printed as %q", s, c.String())
	}
	return want
}

// TestParseNear parses texts with any byte changed, put in or taken out.
func TestParseNear(t *testing.T) {
	form := form()
	came := 0
	check := func(s string) {
		if holdForm(t, form, s) {
			came++
		}
	}
	for _, text := range []string{
		"a1 Select \"x\\\\\"",
		"a noop",
		"b APPEND x (\\Seen \\draft) {3}\r\na(\n",
		"b append {1}\r\nx {2}\r\nyz",
		"a uid store 1:9,* -FLAGS.silent (\\Deleted)",
		"a FETCH 2 (uid RFC822.SIZE)",
		"a uid fetch 12 flags",
		"a SEARCH unseen (NOT 3 body x) UID 2",
		"a UID SEARCH or larger 10 1:2 ALL",
		"a Expunge",
		"a UID copy *:7 box",
		"zz UNSELECT",
	} {
		check(text)
		for i := range len(text) {
			check(text[:i] + text[i+1:])
			check(text[:i] + text[i:i+1] + text[i:])
			for b := range 256 {
				if b < 128 || b%16 == 5 {
					check(text[:i] + string([]byte{byte(b)}) + text[i+1:])
					check(text[:i] + string([]byte{byte(b)}) + text[i:])
				}
			}
		}
	}
	if came < 1000 {
		t.Errorf("P15.2: just %d of the texts were those of commands", came)
	}
}

// TestParseAllSmall parses all small texts of some parts.
func TestParseAllSmall(t *testing.T) {
	form := form()
	parts := []string{" ", "a", "1", "UID", "NOOP", "FETCH", "COPY", "APPEND", "SEARCH", "(", ")", "{1}\r\n", "SEEN"}
	came := 0
	texts := []string{"a ", "a UID ", "a APPEND a", "a COPY ", "a SEARCH ", "a FETCH 1"}
	for range 5 {
		var longer []string
		for _, s := range texts {
			if holdForm(t, form, s) {
				came++
			}
			for _, part := range parts {
				if !strings.HasSuffix(s, part) || part == " " {
					longer = append(longer, s+part)
				}
			}
		}
		texts = longer
	}
	if came < 100 {
		t.Errorf("P15.2: just %d of the texts were those of commands", came)
	}
}

// anyText is a text of any bytes.
func anyText(random *rand.Rand) string {
	b := make([]byte, random.Intn(1+random.Intn(150)))
	letters := []string{"abcXYZ0", "ab \"\\()", "{1}\r\n\x00\xff %*]+"}[random.Intn(3)]
	for i := range b {
		b[i] = letters[random.Intn(len(letters))]
	}
	return string(b)
}

// anySet is a set of any ranges.
func anySet(random *rand.Rand) seqset.Set {
	set := make(seqset.Set, 1+random.Intn(1+random.Intn(maxRanges)))
	for i := range set {
		set[i] = seqset.Range{From: random.Uint32() >> random.Intn(32), To: random.Uint32() >> random.Intn(32)}
		if random.Intn(4) == 0 {
			set[i].To = 0
		}
		if random.Intn(4) == 0 {
			set[i].From = set[i].To
		}
	}
	return set
}

// anyKey is a key of a depth at most.
func anyKey(random *rand.Rand, depth int) search.Key {
	kinds := search.And + 1
	if depth <= 1 {
		kinds = search.Not
	}
	k := search.Key{Kind: random.Intn(kinds)}
	kids := 0
	switch k.Kind {
	case search.Has, search.Lacks:
		k.Flag = 1 << random.Intn(5)
	case search.Seq, search.Uid:
		k.Set = anySet(random)
	case search.Larger, search.Smaller:
		k.N = random.Uint32() >> random.Intn(32)
	case search.Body:
		k.S = anyText(random)
	case search.Not:
		kids = 1
	case search.Or:
		kids = 2
	case search.And:
		kids = 1 + random.Intn(3)
	}
	for range kids {
		k.Kids = append(k.Kids, anyKey(random, depth-1))
	}
	return k
}

// anyCommand is a command that may be.
func anyCommand(random *rand.Rand) command.Command {
	c := command.Command{Tag: "a" + strconv.Itoa(random.Intn(1000)), Kind: random.Intn(9)}
	for _, part := range has[c.Kind] {
		switch part {
		case "name":
			c.Name = anyText(random)
		case "text":
			c.Text = anyText(random)
		case "uid":
			c.ByUid = random.Intn(2) == 0
		case "set":
			c.Set = anySet(random)
		case "flags":
			c.Flags = flags.Set(random.Intn(32))
		case "order":
			c.Order = item.Order{How: random.Intn(3), Silent: random.Intn(2) == 0}
		case "items":
			c.Items = item.Items(1 + random.Intn(15))
		case "key":
			c.Key = anyKey(random, 1+random.Intn(5))
		}
	}
	return c
}

func TestPrintedIsParsed(t *testing.T) {
	random := rand.New(rand.NewSource(15))
	for range 20000 {
		c := anyCommand(random)
		text := c.String()
		if !c.Right() || command.Tag(text) != c.Tag {
			t.Fatalf("P15.1: %v: its text is %q", c, text)
		}
		holdParse(t, "P15.3", text, c)
		if t.Failed() {
			return
		}
	}
	most := strings.Repeat("\n", maxLiteral)
	for _, c := range []command.Command{
		{Tag: row(maxTag), Name: most},
		{Tag: "a", Name: row(maxLiteral)},
		{Tag: "a", Kind: command.Append, Name: most, Flags: 31, Text: most},
		{Tag: "a", Kind: command.Copy, Set: ranges(maxRanges), Name: most},
		{Tag: "a", Kind: command.Search, Key: deep(maxDepth)},
	} {
		holdParse(t, "P15.3", c.String(), c)
	}
}

// What is parsed twice has nothing in common.
func TestParsedApart(t *testing.T) {
	for _, text := range []string{"a STORE 1:2,3 FLAGS ()", "a SEARCH 1:2,3", "a SEARCH 1 2", "a SEARCH (NOT 1 2)"} {
		c, _ := command.Parse(text)
		want := c.String()
		d, _ := command.Parse(text)
		clear(d.Set)
		clear(d.Key.Set)
		for _, kid := range d.Key.Kids {
			clear(kid.Set)
			clear(kid.Kids)
		}
		clear(d.Key.Kids)
		if again, _ := command.Parse(text); c.String() != want || !again.Same(c) {
			t.Errorf("P15.2: %q: it is %q, when what was parsed is changed", text, c.String())
		}
	}
}
