package flags_test

import (
	"regexp"
	"slices"
	"strings"
	"testing"

	"postchaise/api"
	"postchaise/flags"
)

// flagNames are the names in the order of the bits, as the chapter lists them.
func flagNames() []string {
	return []string{"\\Answered", "\\Flagged", "\\Deleted", "\\Seen", "\\Draft"}
}

// namesOf are the names of a set's flags, told without the package.
func namesOf(s flags.Set) []string {
	var l []string
	for i, name := range flagNames() {
		if int(s)>>i&1 == 1 {
			l = append(l, name)
		}
	}
	return l
}

// eachSet calls f with all 256 sets.
func eachSet(f func(s flags.Set)) {
	for n := range 256 {
		f(flags.Set(n))
	}
}

// rightText is the form of a text, told without the package.
var rightText = regexp.MustCompile(`\A\((` + anyName + `( ` + anyName + `)*)?\)\z`)

// anyName is the form of a name, the letters written out: (?i) would take letters beyond a to z.
const anyName = `\\([Aa][Nn][Ss][Ww][Ee][Rr][Ee][Dd]|[Ff][Ll][Aa][Gg][Gg][Ee][Dd]|[Dd][Ee][Ll][Ee][Tt][Ee][Dd]|[Ss][Ee][Ee][Nn]|[Dd][Rr][Aa][Ff][Tt])`

func TestBits(t *testing.T) {
	want := []flags.Set{1, 2, 4, 8, 16}
	got := []flags.Set{flags.Answered, flags.Flagged, flags.Deleted, flags.Seen, flags.Draft}
	if !slices.Equal(got, want) {
		t.Errorf("P1.1: bits %v, want %v", got, want)
	}
}

func TestStringOfAllSets(t *testing.T) {
	eachSet(func(s flags.Set) {
		if got, want := s.String(), "("+strings.Join(namesOf(s), " ")+")"; got != want {
			t.Errorf("P1.1: %d: %s, want %s", s, got, want)
		}
	})
}

func TestStringExamples(t *testing.T) {
	for s, want := range map[flags.Set]string{
		0: "()", 12: "(\\Deleted \\Seen)", 31: "(\\Answered \\Flagged \\Deleted \\Seen \\Draft)",
		32: "()", 224: "()", 0x88: "(\\Seen)",
	} {
		if got := s.String(); got != want {
			t.Errorf("P1.1: %d: %s, want %s", s, got, want)
		}
	}
}

func TestNamesOfAllSets(t *testing.T) {
	eachSet(func(s flags.Set) {
		walk := s.Names()
		for range 2 {
			if got, want := slices.Collect(walk), namesOf(s); !slices.Equal(got, want) {
				t.Errorf("P1.1: %d: %q, want %q", s, got, want)
			}
		}
	})
}

func TestNamesStops(t *testing.T) {
	for stop := 1; stop <= 5; stop++ {
		var got []string
		for name := range flags.Set(255).Names() {
			if got = append(got, name); len(got) == stop {
				break
			}
		}
		if want := flagNames()[:stop]; !slices.Equal(got, want) {
			t.Errorf("P1.1: stopped at %d: %q", stop, got)
		}
	}
}

func TestNamesWithinNames(t *testing.T) {
	walk := flags.Set(9).Names()
	var got []string
	for a := range walk {
		for b := range walk {
			got = append(got, a+b)
		}
	}
	want := []string{"\\Answered\\Answered", "\\Answered\\Seen", "\\Seen\\Answered", "\\Seen\\Seen"}
	if !slices.Equal(got, want) {
		t.Errorf("R6: %q", got)
	}
}

func TestParseRight(t *testing.T) {
	for text, want := range map[string]flags.Set{
		"()":                        0,
		"(\\Answered)":              flags.Answered,
		"(\\Flagged)":               flags.Flagged,
		"(\\Deleted)":               flags.Deleted,
		"(\\seen)":                  flags.Seen,
		"(\\DRAFT)":                 flags.Draft,
		"(\\dRaFt \\ANSWERED)":      flags.Draft | flags.Answered,
		"(\\Seen \\Deleted)":        flags.Deleted | flags.Seen,
		"(\\Seen \\seen \\SEEN)":    flags.Seen,
		"(\\Seen \\Flagged \\Seen)": flags.Seen | flags.Flagged,
		"(\\Draft \\Seen \\Deleted \\Flagged \\Answered)": 31,
	} {
		if got, e := flags.Parse(text); e != api.OK || got != want {
			t.Errorf("P1.1: %s: %d %d, want %d", text, got, e, want)
		}
	}
}

func TestParseWrong(t *testing.T) {
	for _, text := range []string{
		"", " ", "(", ")", ")(", "))", "((", "( )", "(  )", " ()", "() ", "()()", "(())", "[]", "{}",
		"( \\Seen)", "(\\Seen )", "(\\Seen  \\Draft)", "(\\Seen\t\\Draft)", "(\\Seen,\\Draft)", "(\\Seen\\Draft)", "(\\Seen\u00a0\\Draft)",
		"\\Seen", "(\\Seen", "\\Seen)", "(\\Seen))", "((\\Seen)", "(\\Seen)x", "x(\\Seen)", "(\\Seen)\r\n", "(\\Seen) (\\Draft)",
		"(Seen)", "(\\)", "(\\\\Seen)", "(/Seen)", "(|seen)", "(\\See)", "(\\Seens)", "(\\Recent)", "(\\*)", "(\\Seen \\Junk)", "(\\Junk \\Seen)", "(\\Seen Draft)",
		"(\\\u017feen)", "(\\An\u017fwered)", "(\\Seen\x00)", "(\\\xd3een)", "(\\S\x05\x05N)", "(\\3een)",
	} {
		if got, e := flags.Parse(text); e != api.ErrForm || got != 0 {
			t.Errorf("P1.1: %q: %d %d, want ErrForm and 0", text, got, e)
		}
	}
}

// TestParseNear puts each byte at each place of a text, and leaves each byte away.
func TestParseNear(t *testing.T) {
	const text = "(\\aNSWered \\Flagged \\DeLeTeD \\Seen \\draft)"
	check := func(near string) {
		got, e := flags.Parse(near)
		if right := rightText.MatchString(near); right != (e == api.OK) || !right && (e != api.ErrForm || got != 0) {
			t.Errorf("P1.1: %q: %d %d, right %v", near, got, e, right)
		}
	}
	for i := range len(text) {
		check(text[:i] + text[i+1:])
		check(text[:i])
		for b := range 256 {
			check(text[:i] + string([]byte{byte(b)}) + text[i+1:])
			check(text[:i] + string([]byte{byte(b)}) + text[i:])
		}
	}
}

func TestParseMany(t *testing.T) {
	many := "(" + strings.Repeat("\\Flagged \\seen ", 100000) + "\\Draft)"
	if got, e := flags.Parse(many); e != api.OK || got != 26 {
		t.Errorf("P1.1: many: %d %d", got, e)
	}
	if got, e := flags.Parse(many[:len(many)-1] + " )"); e != api.ErrForm || got != 0 {
		t.Errorf("R2: many, and a blank: %d %d", got, e)
	}
}

func TestHas(t *testing.T) {
	eachSet(func(s flags.Set) {
		eachSet(func(o flags.Set) {
			want := true
			for _, name := range namesOf(o) {
				want = want && slices.Contains(namesOf(s), name)
			}
			if s.Has(o) != want {
				t.Errorf("P1.2: %d.Has(%d): %v", s, o, !want)
			}
		})
	})
}

func TestChange(t *testing.T) {
	const least, most = -1 << 63, 1<<63 - 1
	eachSet(func(s flags.Set) {
		eachSet(func(o flags.Set) {
			want := map[int]flags.Set{0: o % 32, 1: (s | o) % 32, 2: (s - s&o) % 32}
			for _, how := range []int{0, 1, 2, 3, 4, -1, -2, 256, 257, 1 << 32, 1<<32 + 1, least, most} {
				if how < 0 || how > 2 {
					want[how] = s % 32
				}
				if got := s.Change(how, o); got != want[how] {
					t.Errorf("P1.2: %d.Change(%d, %d): %d, want %d", s, how, o, got, want[how])
				}
			}
		})
	})
}

func TestTextIsParsedAsItsSet(t *testing.T) {
	eachSet(func(s flags.Set) {
		for _, text := range []string{s.String(), strings.ToLower(s.String()), strings.ToUpper(s.String())} {
			if got, e := flags.Parse(text); e != api.OK || got != s%32 {
				t.Errorf("P1.3: %s: %d %d, want %d", text, got, e, s%32)
			}
		}
	})
}
