package seqset_test

import (
	"math/rand"
	"regexp"
	"slices"
	"strconv"
	"strings"
	"testing"

	"postchaise/api"
	"postchaise/seqset"
)

// most is the greatest number that an end may be.
const most = 1<<32 - 1

// meant: does a range mean n, by a last one? (Told without the package.)
func meant(r seqset.Range, n, last uint32) bool {
	a, b := uint64(r.From), uint64(r.To)
	if a == 0 {
		a = uint64(last)
	}
	if b == 0 {
		b = uint64(last)
	}
	if a > b {
		a, b = b, a
	}
	return n != 0 && a <= uint64(n) && uint64(n) <= b
}

// has: has a set n, by a last one? (Told without the package.)
func has(s seqset.Set, n, last uint32) bool {
	return slices.ContainsFunc(s, func(r seqset.Range) bool { return meant(r, n, last) })
}

// someSet is a set of some ranges with ends from 0 to great.
func someSet(r *rand.Rand, ranges, great int) seqset.Set {
	var s seqset.Set
	for range ranges {
		s = append(s, seqset.Range{From: uint32(r.Intn(great + 1)), To: uint32(r.Intn(great + 1))})
	}
	return s
}

// repeat is a text of n times s, with commas between.
func repeat(s string, n int) string {
	return strings.TrimSuffix(strings.Repeat(s+",", n), ",")
}

func TestParseRight(t *testing.T) {
	for text, want := range map[string]seqset.Set{
		"1":                     {{From: 1, To: 1}},
		"*":                     {{}},
		"*:*":                   {{}},
		"5:5":                   {{From: 5, To: 5}},
		"1:*":                   {{From: 1}},
		"*:1":                   {{To: 1}},
		"9:7":                   {{From: 9, To: 7}},
		"7:9":                   {{From: 7, To: 9}},
		"4294967295":            {{From: most, To: most}},
		"1:4294967295":          {{From: 1, To: most}},
		"4294967290:4294967289": {{From: most - 5, To: most - 6}},
		"2:4,1,*":               {{From: 2, To: 4}, {From: 1, To: 1}, {}},
		"3,3,3:3,10":            {{From: 3, To: 3}, {From: 3, To: 3}, {From: 3, To: 3}, {From: 10, To: 10}},
	} {
		if got, e := seqset.Parse(text); e != api.OK || !slices.Equal(got, want) {
			t.Errorf("P2.1: %s: %v %d, want %v", text, got, e, want)
		}
	}
}

func TestParseWrong(t *testing.T) {
	for _, text := range []string{
		"", " ", ",", ":", "1,", ",1", "1,,2", "1:", ":1", "1::2", "1:2:3", "*:", ":*", "**", "*1", "1*", "*:*:*",
		"0", "00", "01", "0:1", "1:0", "1:02", "10,0", "0,10", "-1", "+1", "1-2", "1.0", "1e3", "0x1", "1_0", "a", "1a", "\u0661",
		" 1", "1 ", "1, 2", "1 :2", "1\r\n", "1\x00", "(1)", "4294967296", "1:4294967296", "4294967296:1", "10000000000", "18446744073709551617", strings.Repeat("9", 100000),
	} {
		if got, e := seqset.Parse(text); e != api.ErrForm || got != nil {
			t.Errorf("P2.1: %.40q: %v %d, want ErrForm and nothing", text, got, e)
		}
	}
}

// TestParseAllShort holds all texts of few bytes against the form.
func TestParseAllShort(t *testing.T) {
	form := regexp.MustCompile(`\A([1-9][0-9]*|\*)(:([1-9][0-9]*|\*))?(,([1-9][0-9]*|\*)(:([1-9][0-9]*|\*))?)*\z`)
	texts := []string{""}
	for range 6 {
		var longer []string
		for _, text := range texts {
			for _, b := range "019*:, " {
				longer = append(longer, text+string(b))
			}
		}
		for _, text := range longer {
			got, e := seqset.Parse(text)
			if right := form.MatchString(text); right != (e == api.OK) || !right && (e != api.ErrForm || got != nil) {
				t.Fatalf("P2.1: %q: %v %d, right %v", text, got, e, right)
			}
		}
		texts = longer
	}
}

func TestParseLong(t *testing.T) {
	if got, e := seqset.Parse(repeat("7:*", 64)); e != api.OK || len(got) != 64 {
		t.Errorf("P2.1: 64 ranges: %d, %d", len(got), e)
	}
	for _, n := range []int{65, 66, 128, 100000} {
		if got, e := seqset.Parse(repeat("7:*", n)); e != api.ErrLong || got != nil {
			t.Errorf("P2.1: %d ranges: %v %d, want ErrLong and nothing", n, got, e)
		}
	}
	for _, behind := range []string{"", "0", "1:", "1:2:3", "4294967296", "x,1", "1,,1"} {
		if got, e := seqset.Parse(repeat("7:*", 70) + "," + behind); e != api.ErrForm || got != nil {
			t.Errorf("P2.1, R2: 70 ranges, and %q: %v %d, want ErrForm and nothing", behind, got, e)
		}
	}
}

func TestParsedShareNothing(t *testing.T) {
	a, _ := seqset.Parse("1,2:4")
	b, _ := seqset.Parse("1,2:4")
	a[0].From = 9
	if b.String() != "1,2:4" {
		t.Errorf("R4: %s", b)
	}
}

func TestString(t *testing.T) {
	long := make(seqset.Set, 65)
	for want, s := range map[string]seqset.Set{
		"":                        nil,
		"5":                       {{From: 5, To: 5}},
		"*":                       {{}},
		"3:*":                     {{From: 3}},
		"*:3":                     {{To: 3}},
		"9:7,2":                   {{From: 9, To: 7}, {From: 2, To: 2}},
		"2:4,1,*":                 {{From: 2, To: 4}, {From: 1, To: 1}, {}},
		"10:4294967295,5,5":       {{From: 10, To: most}, {From: 5, To: 5}, {From: 5, To: 5}},
		repeat("*", 65):           long,
		"4294967295":              {{From: most, To: most}},
		"1000000000,2000000000:*": {{From: 1000000000, To: 1000000000}, {From: 2000000000}},
	} {
		if got := s.String(); got != want {
			t.Errorf("P2.1: %v: %s, want %s", []seqset.Range(s), got, want)
		}
	}
	if got := (seqset.Set{}).String(); got != "" {
		t.Errorf("R3: %s", got)
	}
}

func TestHas(t *testing.T) {
	for _, c := range []struct {
		set     string
		n, last uint32
		want    bool
	}{
		{"2:4", 1, 9, false}, {"2:4", 2, 9, true}, {"2:4", 3, 9, true}, {"2:4", 4, 9, true}, {"2:4", 5, 9, false},
		{"4:2", 2, 9, true}, {"4:2", 4, 9, true}, {"4:2", 5, 9, false}, {"4:2", 1, 9, false},
		{"*", 9, 9, true}, {"*", 8, 9, false}, {"*", 10, 9, false}, {"3:*", 4, 5, true}, {"3:*", 2, 5, false}, {"3:*", 6, 5, false},
		{"3:*", 1, 1, true}, {"3:*", 2, 1, true}, {"3:*", 3, 1, true}, {"3:*", 4, 1, false}, {"*:3", 2, 1, true},
		{"7", 7, 5, true}, {"7:9", 8, 0, true}, {"1,5,9", 5, 9, true}, {"1,5,9", 9, 9, true}, {"1,5,9", 6, 9, false},
		{"*", 0, 0, false}, {"*", 0, 9, false}, {"1:*", 0, 9, false}, {"*:5", 0, 0, false},
		{"*", 1, 0, false}, {"5:*", 3, 0, true}, {"5:*", 5, 0, true}, {"5:*", 6, 0, false}, {"*:5", 1, 0, true},
		{"4294967295", most, most, true}, {"4294967295", most - 1, most, false}, {"*", most, most, true}, {"1:*", most, most, true},
	} {
		s, _ := seqset.Parse(c.set)
		if got := s.Has(c.n, c.last); got != c.want {
			t.Errorf("P2.2: %s.Has(%d, %d): %v", c.set, c.n, c.last, got)
		}
	}
	if (seqset.Set{}).Has(1, 1) || seqset.Set(nil).Has(0, 0) {
		t.Error("P2.2: a set of no range has a number")
	}
}

func TestWithin(t *testing.T) {
	for _, c := range []struct {
		set  string
		last uint32
		want bool
	}{
		{"1", 1, true}, {"1", 0, false}, {"*", 0, false}, {"*", 1, true}, {"*:*", most, true},
		{"5", 4, false}, {"5", 5, true}, {"5", 6, true}, {"2:5", 4, false}, {"2:5", 5, true}, {"5:2", 4, false}, {"5:2", 5, true},
		{"*:5", 4, false}, {"5:*", 4, false}, {"5:*", 5, true}, {"*:5", 5, true},
		{"1,2,9", 8, false}, {"9,2,1", 8, false}, {"1,9,1", 9, true}, {"4294967295", most, true}, {"4294967295", most - 1, false},
	} {
		s, _ := seqset.Parse(c.set)
		if got := s.Within(c.last); got != c.want {
			t.Errorf("P2.2: %s.Within(%d): %v", c.set, c.last, got)
		}
	}
	if seqset.Set(nil).Within(0) || !seqset.Set(nil).Within(1) || !(seqset.Set{}).Within(most) {
		t.Error("P2.2: Within of no range")
	}
}

func TestWalk(t *testing.T) {
	for _, c := range []struct {
		set  string
		last uint32
		want []uint32
	}{
		{"2:4,1,*", 9, []uint32{1, 2, 3, 4, 9}}, {"2:4,1,*,9:7", 8, []uint32{1, 2, 3, 4, 7, 8}},
		{"1:*", 3, []uint32{1, 2, 3}}, {"*:1", 3, []uint32{1, 2, 3}}, {"*", 3, []uint32{3}}, {"*", 1, []uint32{1}},
		{"1:*", 0, nil}, {"*", 0, nil}, {"5:*", 0, nil}, {"1:5", 0, nil},
		{"5", 4, nil}, {"5", 5, []uint32{5}}, {"3:9", 4, []uint32{3, 4}}, {"5:*", 3, []uint32{3}}, {"9:2", 3, []uint32{2, 3}},
		{"3:5,1:4", 9, []uint32{1, 2, 3, 4, 5}}, {"1:9,3:4", 9, []uint32{1, 2, 3, 4, 5, 6, 7, 8, 9}}, {"2,2,2:2", 9, []uint32{2}},
		{"1:2,3:4", 9, []uint32{1, 2, 3, 4}}, {"3:4,1:2", 9, []uint32{1, 2, 3, 4}}, {"1:6,2:3,5:7", 9, []uint32{1, 2, 3, 4, 5, 6, 7}},
		{"4294967294:*", most, []uint32{most - 1, most}}, {"4294967295,1", most, []uint32{1, most}}, {"*", most, []uint32{most}},
		{"4294967293:4294967295,4294967294:*", most, []uint32{most - 2, most - 1, most}},
	} {
		s, _ := seqset.Parse(c.set)
		if got := slices.Collect(s.Walk(c.last)); !slices.Equal(got, c.want) {
			t.Errorf("P2.2: %s.Walk(%d): %v, want %v", c.set, c.last, got, c.want)
		}
	}
	for range seqset.Set(nil).Walk(9) {
		t.Error("P2.2: a set of no range is walked through")
	}
}

func TestWalkStops(t *testing.T) {
	s, _ := seqset.Parse("4:6,1:2,9")
	all := []uint32{1, 2, 4, 5, 6, 9}
	for stop := 1; stop <= len(all); stop++ {
		var got []uint32
		for n := range s.Walk(20) {
			if got = append(got, n); len(got) == stop {
				break
			}
		}
		if !slices.Equal(got, all[:stop]) {
			t.Errorf("P2.2: stopped at %d: %v", stop, got)
		}
	}
	for n := range (seqset.Set{{From: 1}}).Walk(most) {
		if n == 1000 {
			break
		}
	}
}

func TestWalkAgain(t *testing.T) {
	s, _ := seqset.Parse("5,1:2")
	walk := s.Walk(9)
	var got []uint32
	for a := range walk {
		for b := range walk {
			got = append(got, 10*a+b)
		}
	}
	if want := []uint32{11, 12, 15, 21, 22, 25, 51, 52, 55}; !slices.Equal(got, want) {
		t.Errorf("R6: %v", got)
	}
}

func TestWalkLeavesItsSet(t *testing.T) {
	s := seqset.Set{{From: 9, To: 7}, {From: 3, To: 8}, {}, {From: 1, To: 1}}
	before := slices.Clone(s)
	walk := s.Walk(9)
	if got := slices.Collect(walk); len(got) != 8 || !slices.Equal(s, before) {
		t.Errorf("R4: changed: %v", []seqset.Range(s))
	}
	clear(s)
	if got := slices.Collect(walk); !slices.Equal(got, []uint32{1, 3, 4, 5, 6, 7, 8, 9}) {
		t.Errorf("R4: kept: %v", got)
	}
}

func TestOf(t *testing.T) {
	for want, l := range map[string][]uint32{
		"1":                       {1},
		"5":                       {5},
		"1:2":                     {1, 2},
		"1,3":                     {1, 3},
		"1:3,7,9:10":              {1, 2, 3, 7, 9, 10},
		"2,4,6:8":                 {2, 4, 6, 7, 8},
		"4294967295":              {most},
		"1,4294967294:4294967295": {1, most - 1, most},
	} {
		before := slices.Clone(l)
		got := seqset.Of(l...)
		if got.String() != want {
			t.Errorf("P2.2: Of(%v): %s, want %s", l, got, want)
		}
		if !slices.Equal(l, before) {
			t.Errorf("R4: %v became %v", before, l)
		}
		for _, r := range got {
			if r.From == 0 || r.To < r.From {
				t.Errorf("P2.2: Of(%v): %v", l, r)
			}
		}
	}
}

func TestOfWrong(t *testing.T) {
	for _, l := range [][]uint32{nil, {}, {0}, {0, 1}, {0, 0}, {2, 1}, {1, 1}, {1, 2, 2}, {1, 2, 1}, {5, 6, 0}, {1, 3, 2}, {most, 0}, {most, 1}, {most, most}} {
		if got := seqset.Of(l...); len(got) != 0 {
			t.Errorf("P2.2: Of(%v): %s, want none", l, got)
		}
	}
}

func TestOfMany(t *testing.T) {
	var odd []uint32
	for n := range 1000 {
		odd = append(odd, uint32(2*n+1))
	}
	s := seqset.Of(odd...)
	if len(s) != 1000 || strings.Count(s.String(), ",") != 999 {
		t.Errorf("P2.2: Of 1000 odd numbers: %d ranges", len(s))
	}
	if got := slices.Collect(s.Walk(2000)); !slices.Equal(got, odd) {
		t.Errorf("P2.2: 1000 odd numbers walked: %d", len(got))
	}
}

func TestTextIsParsedAsItsSet(t *testing.T) {
	r := rand.New(rand.NewSource(2))
	for i := range 3000 {
		s := someSet(r, 1+i%64, []int{1, 5, 99, most}[i%4])
		if got, e := seqset.Parse(s.String()); e != api.OK || !slices.Equal(got, s) {
			t.Fatalf("P2.3: %s: %s %d", s, got, e)
		}
	}
}

func TestWalkedIsWhatItHas(t *testing.T) {
	r := rand.New(rand.NewSource(3))
	for i := range 20000 {
		s, last := someSet(r, i%9, 1+i%40), uint32(r.Intn(42))
		var want []uint32
		for n := range uint32(50) {
			if s.Has(n, last) != has(s, n, last) {
				t.Fatalf("P2.2: %s.Has(%d, %d)", s, n, last)
			}
			if n <= last && has(s, n, last) {
				want = append(want, n)
			}
		}
		walked := slices.Collect(s.Walk(last))
		if !slices.Equal(walked, want) {
			t.Fatalf("P2.3: %s.Walk(%d): %v, want %v", s, last, walked, want)
		}
		if got := slices.Collect(seqset.Of(walked...).Walk(last)); !slices.Equal(got, want) {
			t.Fatalf("P2.2: Of(%v): %v", want, got)
		}
	}
}

// TestOfAllSmall holds Of of all rows of three numbers against their texts.
func TestOfAllSmall(t *testing.T) {
	for n := range 6 * 6 * 6 {
		l := []uint32{uint32(n / 36), uint32(n / 6 % 6), uint32(n % 6)}
		var parts []string
		for i := 0; i < 3; i++ {
			first := l[i]
			for i < 2 && l[i+1] == l[i]+1 {
				i++
			}
			part := strconv.Itoa(int(first))
			if l[i] != first {
				part += ":" + strconv.Itoa(int(l[i]))
			}
			parts = append(parts, part)
		}
		want := strings.Join(parts, ",")
		if l[0] == 0 || l[1] <= l[0] || l[2] <= l[1] {
			want = ""
		}
		if got := seqset.Of(l...).String(); got != want {
			t.Errorf("P2.2: Of(%v): %s, want %s", l, got, want)
		}
	}
}
