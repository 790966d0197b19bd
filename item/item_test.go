package item_test

import (
	"math"
	"math/rand"
	"regexp"
	"strconv"
	"strings"
	"testing"

	"postchaise/api"
	"postchaise/flags"
	"postchaise/item"
	"postchaise/token"
	"postchaise/tree"
)

// maxLiteral is how many bytes a literal has at most.
const maxLiteral = 65536

// askedNames are the names in the order of the bits, as the chapter lists them.
func askedNames() []string {
	return []string{"UID", "FLAGS", "RFC822.SIZE", "BODY.PEEK[]"}
}

// joined are the texts of the items, by their places, in brackets; told without the package.
func joined(t item.Items, texts []string) string {
	var l []string
	for i, text := range texts {
		if int(t)>>i&1 == 1 {
			l = append(l, text)
		}
	}
	return "(" + strings.Join(l, " ") + ")"
}

// telling is a message's telling, with a size of its own, told without the package.
func telling(t item.Items, m tree.Rec, size int) string {
	return joined(t, []string{
		"UID " + strconv.Itoa(int(m.Uid)),
		"FLAGS " + m.Flags.String(),
		"RFC822.SIZE " + strconv.Itoa(size),
		"BODY[] {" + strconv.Itoa(len(m.Text)) + "}\r\n" + m.Text,
	})
}

// anyLetters is an expression of a word in letters great or small. ((?i) would take letters beyond a to z.)
func anyLetters(word string) string {
	var b strings.Builder
	for _, c := range word {
		if 'A' <= c && c <= 'Z' {
			b.WriteString("[" + string(c) + string(c+'a'-'A') + "]")
		} else {
			b.WriteString(regexp.QuoteMeta(string(c)))
		}
	}
	return b.String()
}

// holdGaveUp holds that a reader gave up.
func holdGaveUp(t *testing.T, promise, s string, r *token.Reader) {
	t.Helper()
	if r.Ok() || r.Left() != 0 || r.End() {
		t.Errorf("%s: %.80q: the reader did not give up: %d bytes left", promise, s, r.Left())
	}
}

// holdOk holds that a reader did not, and what it has left.
func holdOk(t *testing.T, promise, s string, r *token.Reader, left int) {
	t.Helper()
	if !r.Ok() || r.Left() != left {
		t.Errorf("%s: %.80q: Ok %v, %d bytes left, not %d", promise, s, r.Ok(), r.Left(), left)
	}
}

// near calls f with all texts that are a text's fronts, or have a byte more, less, or another one.
func near(text string, f func(s string)) {
	for i := range len(text) + 1 {
		f(text[:i])
		for b := range 256 {
			f(text[:i] + string([]byte{byte(b)}) + text[i:])
		}
		if i == len(text) {
			return
		}
		f(text[:i] + text[i+1:])
		for b := range 256 {
			f(text[:i] + string([]byte{byte(b)}) + text[i+1:])
		}
	}
}

func TestBits(t *testing.T) {
	for i, got := range []item.Items{item.Uid, item.Flags, item.Size, item.Body} {
		if got != 1<<i {
			t.Errorf("P13.1: the item %d has the bit %d", i, got)
		}
	}
}

func TestStringOfAllItems(t *testing.T) {
	for n := range 256 {
		items := item.Items(n)
		if got, want := items.String(), joined(items, askedNames()); got != want {
			t.Errorf("P13.1: %d: %s, not %s", n, got, want)
		}
	}
	if got := item.Items(0xF0).String(); got != "()" {
		t.Errorf("P13.1: of bits that count for nothing: %s", got)
	}
	if got := item.Items(255).String(); got != "(UID FLAGS RFC822.SIZE BODY.PEEK[])" {
		t.Errorf("P13.1: of all: %s", got)
	}
}

// holdItems holds what ReadItems reads.
func holdItems(t *testing.T, s string, want item.Items, left int) {
	t.Helper()
	r := token.Read(s)
	if got := item.ReadItems(r); got != want {
		t.Errorf("P13.1: %q: %d, not %d", s, got, want)
	}
	holdOk(t, "P13.1", s, r, left)
}

// holdNoItems holds that ReadItems gives up.
func holdNoItems(t *testing.T, s string) {
	t.Helper()
	r := token.Read(s)
	if got := item.ReadItems(r); got != 0 {
		t.Errorf("P13.1: %q: %d, not nothing", s, got)
	}
	holdGaveUp(t, "P13.1", s, r)
}

func TestReadItems(t *testing.T) {
	for s, want := range map[string]item.Items{
		"UID": 1, "FLAGS": 2, "RFC822.SIZE": 4, "BODY.PEEK[]": 8, "uid": 1, "fLaGs": 2, "rfc822.Size": 4, "body.peek[]": 8,
		"(UID)": 1, "(body.peek[])": 8, "(FLAGS UID)": 3, "(BODY.PEEK[] RFC822.SIZE FLAGS UID)": 15, "(UID UID uid)": 1, "(UID FLAGS UID RFC822.SIZE FLAGS)": 7,
	} {
		holdItems(t, s, want, 0)
		holdItems(t, s+" UID", want, 4)
		holdItems(t, s+")", want, 1)
	}
	holdItems(t, "("+strings.Repeat("UID FLAGS ", 100000)+"rfc822.size)\x00", 7, 1)
}

func TestReadItemsWrong(t *testing.T) {
	for _, s := range []string{
		"", " ", "()", "( )", "(", ")", "(UID", "(UID ", "(UID )", "( UID)", "(UID  FLAGS)", "(UID,FLAGS)", "(UID\tFLAGS)", "(UIDFLAGS)", "((UID))", "(UID (FLAGS))", "(UID FLAGS", "UI", " UID", "[UID]",
		"BODY[]", "BODY", "BODY.PEEK", "BODY.PEEK[", "BODY.PEEK[1]", "BODY.PEEK[ ]", "RFC822", "RFC822.SIZ", "RFC822 SIZE", "\\FLAGS", "FLAG", "\"UID\"", "ALL", "FAST", "(UID X)", "(X UID)", "FLAG\xc5\xbf", "(UID\r\n)", "U\x00",
	} {
		holdNoItems(t, s)
	}
}

// itemsForm is the form of items that come next.
func itemsForm() *regexp.Regexp {
	var words []string
	for _, name := range askedNames() {
		words = append(words, anyLetters(name))
	}
	one := "(?:" + strings.Join(words, "|") + ")"
	return regexp.MustCompile(`\A(?:` + one + `|\(` + one + `(?: ` + one + `)*\))`)
}

func TestReadItemsNear(t *testing.T) {
	form := itemsForm()
	check := func(s string) {
		text := form.FindString(s)
		if text == "" {
			holdNoItems(t, s)
			return
		}
		var want item.Items
		for i, name := range askedNames() {
			if strings.Contains(strings.ToUpper(text), name) {
				want |= 1 << i
			}
		}
		holdItems(t, s, want, len(s)-len(text))
	}
	near("(body.PEEK[] UID RFC822.SiZe flags uid)", check)
	for _, name := range askedNames() {
		near(name, check)
	}
}

func TestOrderString(t *testing.T) {
	for how, want := range map[int]string{0: "FLAGS", 1: "+FLAGS", 2: "-FLAGS", 3: "FLAGS", -1: "FLAGS", math.MaxInt: "FLAGS", math.MinInt: "FLAGS"} {
		if got := (item.Order{How: how}).String(); got != want {
			t.Errorf("P13.1: how %d: %s", how, got)
		}
		if got := (item.Order{How: how, Silent: true}).String(); got != want+".SILENT" {
			t.Errorf("P13.1: how %d, silent: %s", how, got)
		}
	}
}

// holdOrder holds what ReadOrder reads, or, of an empty text that it reads, that it gives up.
func holdOrder(t *testing.T, s, text string) {
	t.Helper()
	want := item.Order{Silent: strings.HasSuffix(strings.ToUpper(text), ".SILENT")}
	if strings.HasPrefix(text, "+") {
		want.How = 1
	} else if strings.HasPrefix(text, "-") {
		want.How = 2
	}
	r := token.Read(s)
	if got := item.ReadOrder(r); got != want {
		t.Errorf("P13.1: %q: %v, not %v", s, got, want)
	}
	if text == "" {
		holdGaveUp(t, "P13.1", s, r)
		return
	}
	holdOk(t, "P13.1", s, r, len(s)-len(text))
}

func TestReadOrder(t *testing.T) {
	for _, sign := range []string{"", "+", "-"} {
		for _, word := range []string{"FLAGS", "flags", "FlAgS", "FLAGS.SILENT", "flags.silent", "Flags.Silent"} {
			for _, behind := range []string{"", " ", " (\\Seen)", ".", ".SILEN", "X"} {
				text := sign + word
				if strings.HasPrefix(behind, ".") && strings.HasSuffix(word, "T") {
					continue
				}
				holdOrder(t, text+behind, text)
			}
		}
	}
	for _, s := range []string{"", "+", "-", "FLAG", "+ FLAGS", "++FLAGS", "+-FLAGS", "*FLAGS", " FLAGS", ".SILENT", "SILENT", "(FLAGS)", "FLAG\xc5\xbf", "+\x00FLAGS"} {
		holdOrder(t, s, "")
	}
	form := regexp.MustCompile(`\A[+-]?` + anyLetters("FLAGS") + `(?:` + anyLetters(".SILENT") + `)?`)
	for _, s := range []string{"+FLAGS.silent (", "flags", "-FlagS "} {
		near(s, func(s string) { holdOrder(t, s, form.FindString(s)) })
	}
}

// What is printed of an order is read as it was.
func TestOrderIsRead(t *testing.T) {
	for how := range 3 {
		for _, silent := range []bool{false, true} {
			o := item.Order{How: how, Silent: silent}
			r := token.Read(o.String())
			if got := item.ReadOrder(r); got != o || !r.End() {
				t.Errorf("P13.1: %v is read as %v", o, got)
			}
		}
	}
}

// holdFlags holds what ReadFlags reads against layer 1's Parse up to the first bracket that closes.
func holdFlags(t *testing.T, s string) {
	t.Helper()
	r := token.Read(s)
	got := item.ReadFlags(r)
	text, rest, closed := strings.Cut(s, ")")
	want, err := flags.Parse(text + ")")
	if !closed || err != api.OK {
		if got != 0 {
			t.Errorf("P13.1: %q: the flags %d, not nothing", s, got)
		}
		holdGaveUp(t, "P13.1", s, r)
		return
	}
	if got != want {
		t.Errorf("P13.1: %q: the flags %d, not %d", s, got, want)
	}
	holdOk(t, "P13.1", s, r, len(rest))
}

func TestReadFlags(t *testing.T) {
	for s, want := range map[string]flags.Set{"()": 0, "(\\Seen)": 8, "(\\draft \\SEEN \\seen) (\\Deleted)": 24, "())": 0} {
		if got := item.ReadFlags(token.Read(s)); got != want {
			t.Errorf("P13.1: %q: the flags %d, not %d", s, got, want)
		}
		holdFlags(t, s)
	}
	for _, s := range []string{
		"", "(", ")", "( )", "(\\Seen", "\\Seen)", "(\\Seen )", "( \\Seen)", "(\\Seen  \\Draft)", "(Seen)", "(\\Recent)", "(()", "(\\Seen(\\Draft))", "\\Seen", " ()", "[\\Seen]", "{2}\r\n()", "(\\Seen]",
	} {
		if got := item.ReadFlags(token.Read(s)); got != 0 {
			t.Errorf("P13.1: %q: the flags %d, not nothing", s, got)
		}
		holdFlags(t, s)
	}
	near("(\\Deleted \\sEEn) x)", func(s string) { holdFlags(t, s) })
}

func TestReaderThatGaveUp(t *testing.T) {
	for _, s := range []string{"UID", "(UID 5)", "FLAGS", "()"} {
		r := token.Read(s)
		r.Fail()
		items, m, size := item.ReadTold(r)
		if item.ReadItems(r) != 0 || item.ReadOrder(r) != (item.Order{}) || item.ReadFlags(r) != 0 || items != 0 || m != (tree.Rec{}) || size != 0 {
			t.Errorf("P13.1: %q: something is read by a reader that gave up", s)
		}
		holdGaveUp(t, "P13.1", s, r)
	}
}

// some are messages of all sorts.
func some() []tree.Rec {
	return []tree.Rec{
		{},
		{Uid: 5, Flags: flags.Seen},
		{Uid: math.MaxUint32, Flags: 255, Text: "hello"},
		{Uid: 1, Flags: 32, Text: ")"},
		{Uid: 10, Flags: 31, Text: "\r\n) UID 5 {1}\x00\xff\"\\"},
		{Uid: 7, Text: strings.Repeat("x\n", maxLiteral/2)},
	}
}

func TestTell(t *testing.T) {
	if got := item.Items(3).Tell(tree.Rec{Uid: 5, Flags: flags.Seen, Text: "abc"}); got != "(UID 5 FLAGS (\\Seen))" {
		t.Errorf("P13.2: the chapter's example: %s", got)
	}
	if got := item.Items(15).Tell(tree.Rec{Uid: 9, Flags: 5, Text: "a)\n"}); got != "(UID 9 FLAGS (\\Answered \\Deleted) RFC822.SIZE 3 BODY[] {3}\r\na)\n)" {
		t.Errorf("P13.2: of all items: %q", got)
	}
	for n := range 256 {
		for _, m := range append(some(), tree.Rec{Text: strings.Repeat("y", maxLiteral+1)}) {
			items := item.Items(n)
			if got, want := items.Tell(m), telling(items, m, len(m.Text)); got != want {
				t.Errorf("P13.2: %d of %.80v: %.80q, not %.80q", n, m, got, want)
			}
		}
	}
}

// part is a message that has just what items tell, and the size that they tell.
func part(t item.Items, m tree.Rec) (tree.Rec, int) {
	var p tree.Rec
	size := 0
	if t&item.Uid != 0 {
		p.Uid = m.Uid
	}
	if t&item.Flags != 0 {
		p.Flags = m.Flags % 32
	}
	if t&item.Size != 0 {
		size = len(m.Text)
	}
	if t&item.Body != 0 {
		p.Text = m.Text
	}
	return p, size
}

// holdTold holds what ReadTold reads.
func holdTold(t *testing.T, s string, items item.Items, m tree.Rec, size, left int) {
	t.Helper()
	r := token.Read(s)
	gotItems, gotRec, gotSize := item.ReadTold(r)
	if gotItems != items || gotRec != m || gotSize != size {
		t.Errorf("P13.2: %.80q: %d, %.80v, %d, not %d, %.80v, %d", s, gotItems, gotRec, gotSize, items, m, size)
	}
	holdOk(t, "P13.2", s, r, left)
}

// holdNotTold holds that ReadTold gives up.
func holdNotTold(t *testing.T, s string) {
	t.Helper()
	r := token.Read(s)
	items, m, size := item.ReadTold(r)
	if items != 0 || m != (tree.Rec{}) || size != 0 {
		t.Errorf("P13.2: %.80q: %d, %.80v, %d, not nothing", s, items, m, size)
	}
	holdGaveUp(t, "P13.2", s, r)
}

func TestToldIsRead(t *testing.T) {
	for n := 1; n < 256; n++ {
		for _, m := range some() {
			items := item.Items(n)
			if n%16 == 0 {
				holdNotTold(t, items.Tell(m))
				continue
			}
			p, size := part(items, m)
			for _, behind := range []string{"", ")", " UID 5)", "\r\n"} {
				holdTold(t, items.Tell(m)+behind, items%16, p, size, len(behind))
			}
		}
	}
}

func TestReadTold(t *testing.T) {
	holdTold(t, "(uid 5 Flags (\\Seen) rfc822.size 2 body[] {2}\r\nhi)", 15, tree.Rec{Uid: 5, Flags: 8, Text: "hi"}, 2, 0)
	holdTold(t, "(RFC822.SIZE 4294967295)", item.Size, tree.Rec{}, math.MaxUint32, 0)
	holdTold(t, "(UID 0)", item.Uid, tree.Rec{}, 0, 0)
	holdTold(t, "(RFC822.SIZE 0 BODY[] {0}\r\n))", item.Size|item.Body, tree.Rec{}, 0, 1)
	holdTold(t, "(BODY[] {3}\r\n)))) UID", item.Body, tree.Rec{Text: ")))"}, 0, 4)
}

func TestReadToldWrong(t *testing.T) {
	for _, s := range []string{
		"", "(", "()", "( )", "UID 5", "(UID 5", "(UID)", "(UID )", "(UID  5)", "( UID 5)", "(UID 5 )", "(UID x)", "(UID -1)", "(UID 05)", "(UID 4294967296)", "(UID\t5)", "[UID 5]", "((UID 5))", "(X 5)", "(UID 5 X)",
		"(UID 5 UID 5)", "(FLAGS () UID 5)", "(RFC822.SIZE 1 FLAGS ())", "(BODY[] {0}\r\n UID 5)", "(BODY[] {1}\r\na RFC822.SIZE 1)", "(FLAGS () FLAGS ())", "(UID 5FLAGS ())", "(UID 5  FLAGS ())", "(UID 5,FLAGS ())",
		"(FLAGS)", "(FLAGS )", "(FLAGS (\\seen))", "(FLAGS (\\SEEN))", "(FLAGS (\\Seen \\Answered))", "(FLAGS (\\Seen \\Seen))", "(FLAGS ( ))", "(FLAGS (\\Seen )", "(FLAGS (\\Recent))", "(FLAGS (Seen))", "(FLAGS \\Seen)", "(FLAGS ()",
		"(RFC822.SIZE 01)", "(RFC822.SIZE)", "(RFC822.SIZE 4294967296)", "(RFC822 1)", "(RFC822.SIZE 2 BODY[] {1}\r\na)", "(RFC822.SIZE 0 BODY[] {1}\r\na)",
		"(BODY[])", "(BODY[] )", "(BODY[] a)", "(BODY[] \"a\")", "(BODY[] {1}\r\na", "(BODY[] {2}\r\na)", "(BODY[] {1}\r\nab)", "(BODY[] {01}\r\na)", "(BODY[] {1}\na)", "(BODY[] {1}a)", "(BODY.PEEK[] {1}\r\na)", "(BODY {1}\r\na)",
		"(BODY[] {65537}\r\n" + strings.Repeat("x", maxLiteral+1) + ")",
	} {
		holdNotTold(t, s)
	}
}

// toldForms are the forms of tellings, by items, up to the bracket behind them, or up to the literal's bytes.
func toldForms() [16]*regexp.Regexp {
	const number = `(0|[1-9][0-9]{0,9})`
	var sets []string
	for n := range 32 {
		sets = append(sets, regexp.QuoteMeta(flags.Set(n).String()))
	}
	some := "(" + strings.Join(sets, "|") + ")"
	var forms [16]*regexp.Regexp
	for n := 1; n < 16; n++ {
		text := joined(item.Items(n), []string{
			anyLetters("UID") + " " + number, anyLetters("FLAGS") + " " + some, anyLetters("RFC822.SIZE") + " " + number, anyLetters("BODY[]") + ` \{` + number + "\\}\r\n",
		})
		text = `\A\(` + text[1:len(text)-1]
		if n < 8 {
			text += `\)`
		}
		forms[n] = regexp.MustCompile(text)
	}
	return forms
}

// parsed is a number of a text, if it is one that layer 12 reads.
func parsed(s string) (int, bool) {
	n, err := strconv.Atoi(s)
	return n, err == nil && n <= math.MaxUint32
}

// told is what ReadTold should read of s by the form of some items, and how many bytes that are; -1, if nothing.
func told(form *regexp.Regexp, items item.Items, s string) (tree.Rec, int, int) {
	var m tree.Rec
	size := 0
	found := form.FindStringSubmatch(s)
	if found == nil {
		return m, 0, -1
	}
	end, found := len(found[0]), found[1:]
	for i := range 4 {
		if items>>i&1 == 0 {
			continue
		}
		value := found[0]
		found = found[1:]
		n, ok := parsed(value)
		switch {
		case i == 1:
			var err api.Errno
			m.Flags, err = flags.Parse(value)
			ok = err == api.OK
		case i == 0:
			m.Uid = uint32(n)
		case i == 2:
			size = n
		default:
			ok = ok && n <= maxLiteral && end+n < len(s) && s[end+n] == ')' && (items&item.Size == 0 || n == size)
			if ok {
				m.Text = s[end : end+n]
				end += n + 1
			}
		}
		if !ok {
			return tree.Rec{}, 0, -1
		}
	}
	return m, size, end
}

func TestReadToldNear(t *testing.T) {
	forms := toldForms()
	taken := 0
	check := func(s string) {
		for n := 1; n < 16; n++ {
			if m, size, end := told(forms[n], item.Items(n), s); end >= 0 {
				taken++
				holdTold(t, s, item.Items(n), m, size, len(s)-end)
				return
			}
		}
		holdNotTold(t, s)
	}
	for _, items := range []item.Items{1, 2, 3, 4, 8, 12, 15} {
		near(items.Tell(tree.Rec{Uid: 15, Flags: flags.Flagged | flags.Seen, Text: "b)c"}), check)
	}
	near(item.Flags.Tell(tree.Rec{Flags: 255}), check)
	if taken < 1000 {
		t.Errorf("P13.2: just %d of the texts were tellings", taken)
	}
}

// What is read is told again as it came, but for the letters of the names.
func TestReadIsTold(t *testing.T) {
	random := rand.New(rand.NewSource(13))
	parts := []string{"(", ")", " ", "UID ", "FLAGS ", "RFC822.SIZE ", "BODY[] ", "uid ", "5", "0", "1", "()", "(\\Seen)", "(\\Draft)", "{1}\r\nx", "{0}\r\n", "UID 7 ", "FLAGS () ", "RFC822.SIZE 1 "}
	read := 0
	for range 200000 {
		s := "("
		for range random.Intn(7) {
			s += parts[random.Intn(len(parts))]
		}
		s += ")"
		r := token.Read(s)
		items, m, size := item.ReadTold(r)
		if !r.Ok() {
			continue
		}
		read++
		came := strings.ReplaceAll(s[:len(s)-r.Left()], "uid", "UID")
		if want := telling(items, m, size); came != want {
			t.Fatalf("P13.3: %q is read as what is told as %q", came, want)
		}
	}
	if read < 1000 {
		t.Errorf("P13.3: just %d of the texts were read", read)
	}
}
