package search_test

import (
	"math"
	"math/rand"
	"slices"
	"strings"
	"testing"

	"postchaise/flags"
	"postchaise/search"
	"postchaise/seqset"
	"postchaise/token"
)

// The limits that the chapter names.
const (
	maxLiteral = 65536
	maxRanges  = 64
	maxDepth   = 16
)

// all is the key that matches all.
func all() search.Key {
	return search.Key{Kind: search.All}
}

// of is a key with kids.
func of(kind int, kids ...search.Key) search.Key {
	return search.Key{Kind: kind, Kids: kids}
}

// seq is a key of a set with one range.
func seq(kind int, from, to uint32) search.Key {
	return search.Key{Kind: kind, Set: seqset.Set{{From: from, To: to}}}
}

// body is a key of a string.
func body(s string) search.Key {
	return search.Key{Kind: search.Body, S: s}
}

// has is a key of a flag that is there.
func has(flag flags.Set) search.Key {
	return search.Key{Kind: search.Has, Flag: flag}
}

// deep is a key of a depth, made of kinds in turn.
func deep(depth int) search.Key {
	k := seq(search.Seq, 1, 2)
	for d := 1; d < depth; d++ {
		switch d % 3 {
		case 0:
			k = of(search.Not, k)
		case 1:
			k = of(search.Or, all(), k)
		default:
			k = of(search.And, k, all())
		}
	}
	return k
}

// ranges is a set of many ranges.
func ranges(n int) seqset.Set {
	var set seqset.Set
	for i := range uint32(n) {
		set = append(set, seqset.Range{From: i, To: 2*i + 1})
	}
	return set
}

// rightKeys are keys that may be, by their texts.
func rightKeys() map[string]search.Key {
	return map[string]search.Key{
		"ALL":                                  all(),
		"ANSWERED":                             has(flags.Answered),
		"FLAGGED":                              has(flags.Flagged),
		"DELETED":                              has(flags.Deleted),
		"SEEN":                                 has(flags.Seen),
		"DRAFT":                                has(flags.Draft),
		"UNANSWERED":                           {Kind: search.Lacks, Flag: flags.Answered},
		"UNFLAGGED":                            {Kind: search.Lacks, Flag: flags.Flagged},
		"UNDELETED":                            {Kind: search.Lacks, Flag: flags.Deleted},
		"UNSEEN":                               {Kind: search.Lacks, Flag: flags.Seen},
		"UNDRAFT":                              {Kind: search.Lacks, Flag: flags.Draft},
		"1":                                    seq(search.Seq, 1, 1),
		"*":                                    seq(search.Seq, 0, 0),
		"7:*":                                  seq(search.Seq, 7, 0),
		"UID *:4294967295":                     seq(search.Uid, 0, math.MaxUint32),
		"UID 9:3":                              seq(search.Uid, 9, 3),
		"2:4,1,*":                              {Kind: search.Seq, Set: seqset.Set{{From: 2, To: 4}, {From: 1, To: 1}, {}}},
		"LARGER 0":                             {Kind: search.Larger},
		"LARGER 4294967295":                    {Kind: search.Larger, N: math.MaxUint32},
		"SMALLER 10":                           {Kind: search.Smaller, N: 10},
		`BODY ""`:                              body(""),
		"BODY x":                               body("x"),
		"BODY 1:2":                             body("1:2"),
		`BODY "a \"b\\ )"`:                     body(`a "b\ )`),
		"BODY {3}\r\n\r\n(":                    body("\r\n("),
		"NOT ALL":                              of(search.Not, all()),
		"OR ALL SEEN":                          of(search.Or, all(), has(flags.Seen)),
		"(ALL)":                                of(search.And, all()),
		"(ALL 1 SEEN)":                         of(search.And, all(), seq(search.Seq, 1, 1), has(flags.Seen)),
		"NOT (SEEN 1:2)":                       of(search.Not, of(search.And, has(flags.Seen), seq(search.Seq, 1, 2))),
		"OR NOT OR 1 UID 2 (BODY {1}\r\n\n 3)": of(search.Or, of(search.Not, of(search.Or, seq(search.Seq, 1, 1), seq(search.Uid, 2, 2))), of(search.And, body("\n"), seq(search.Seq, 3, 3))),
		"NOT NOT ((1))":                        of(search.Not, of(search.Not, of(search.And, of(search.And, seq(search.Seq, 1, 1))))),
	}
}

// wrongKeys are keys that may not be.
func wrongKeys() []search.Key {
	var l []search.Key
	for _, kind := range []int{-1, 11, math.MaxInt, math.MinInt, 256, -256} {
		l = append(l, search.Key{Kind: kind})
	}
	for _, kind := range []int{search.Has, search.Lacks} {
		for n := range 256 {
			if !slices.Contains([]int{1, 2, 4, 8, 16}, n) {
				l = append(l, search.Key{Kind: kind, Flag: flags.Set(n)})
			}
		}
	}
	for _, kind := range []int{search.Seq, search.Uid} {
		l = append(l, search.Key{Kind: kind}, search.Key{Kind: kind, Set: seqset.Set{}}, search.Key{Kind: kind, Set: ranges(maxRanges + 1)})
	}
	return append(l, body(strings.Repeat("x", maxLiteral+1)),
		of(search.Not), of(search.Not, all(), all()), of(search.Or), of(search.Or, all()), of(search.Or, all(), all(), all()), of(search.And), search.Key{Kind: search.And, Kids: []search.Key{}},
		deep(maxDepth+1), deep(maxDepth+2), deep(100))
}

// crowded are a right key's likes with one thing more that its kind has not.
func crowded(k search.Key) []search.Key {
	var l []search.Key
	add := func(change func(k *search.Key), has ...int) {
		if !slices.Contains(has, k.Kind) {
			o := k
			change(&o)
			l = append(l, o)
		}
	}
	add(func(k *search.Key) { k.Flag = flags.Seen }, search.Has, search.Lacks)
	add(func(k *search.Key) { k.Flag = 32 })
	add(func(k *search.Key) { k.Set = seqset.Set{{From: 1, To: 1}} }, search.Seq, search.Uid)
	add(func(k *search.Key) { k.N = 1 }, search.Larger, search.Smaller)
	add(func(k *search.Key) { k.S = "x" }, search.Body)
	add(func(k *search.Key) { k.Kids = []search.Key{all()} }, search.Not, search.Or, search.And)
	return l
}

// holdRight holds a key, and some keys it is within, against what should be.
func holdRight(t *testing.T, k search.Key, want bool) {
	t.Helper()
	for _, o := range []search.Key{k, of(search.Not, k), of(search.Or, all(), k), of(search.Or, k, all()), of(search.And, all(), k, all())} {
		if got := o.Right(); got != want {
			t.Errorf("P14.1: Right of %.200v: %v", o, got)
		}
		if text := o.String(); (text == "") == want {
			t.Errorf("P14.1: %.200v: the text %.80q", o, text)
		}
	}
}

func TestKinds(t *testing.T) {
	kinds := []int{search.All, search.Has, search.Lacks, search.Seq, search.Uid, search.Larger, search.Smaller, search.Body, search.Not, search.Or, search.And}
	for want, kind := range kinds {
		if kind != want {
			t.Errorf("P14.1: a kind is %d, not %d", kind, want)
		}
	}
}

func TestRight(t *testing.T) {
	for _, k := range rightKeys() {
		holdRight(t, k, true)
		for _, o := range crowded(k) {
			holdRight(t, o, false)
		}
	}
	for _, k := range wrongKeys() {
		holdRight(t, k, false)
	}
	holdRight(t, body(strings.Repeat("x", maxLiteral)), true)
	holdRight(t, search.Key{Kind: search.Uid, Set: ranges(maxRanges)}, true)
	holdRight(t, search.Key{Set: seqset.Set{}, Kids: []search.Key{}}, true)
	many := make([]search.Key, 100000)
	holdRight(t, of(search.And, many...), true)
	many[99999].N = 1
	holdRight(t, of(search.And, many...), false)
}

func TestRightDepth(t *testing.T) {
	for depth := 1; depth <= 2*maxDepth; depth++ {
		if got := deep(depth).Right(); got != (depth <= maxDepth) {
			t.Errorf("P14.1: Right of the depth %d: %v", depth, got)
		}
	}
	k := all()
	for range 1 << 16 {
		k = of(search.Not, k)
	}
	if k.Right() || k.String() != "" {
		t.Error("P14.1: a very deep key is right")
	}
	loop := of(search.Or, all(), all())
	loop.Kids[1] = loop
	if loop.Right() || loop.String() != "" {
		t.Error("P14.1: a key that stands below itself is right")
	}
}

func TestString(t *testing.T) {
	for want, k := range rightKeys() {
		if got := k.String(); got != want {
			t.Errorf("P14.1: %q, not %q", got, want)
		}
	}
	hundred := strings.Repeat(" ", 100)
	for s, want := range map[string]string{hundred: `BODY "` + hundred + `"`, hundred + " ": "BODY {101}\r\n" + hundred + " ", "a\r": "BODY {2}\r\na\r"} {
		if got := body(s).String(); got != want {
			t.Errorf("P14.1: %q, not %q", got, want)
		}
	}
	if got := deep(4).String(); got != "NOT (OR ALL 1:2 ALL)" {
		t.Errorf("P14.1: %q", got)
	}
}

func TestSame(t *testing.T) {
	var keys []search.Key
	for _, k := range rightKeys() {
		keys = append(keys, k)
		keys = append(keys, crowded(k)...)
	}
	keys = append(keys, wrongKeys()...)
	var texts []string
	for _, k := range keys {
		texts = append(texts, told(k))
	}
	for i, k := range keys {
		for j, o := range keys {
			if same := k.Same(o); same != o.Same(k) || same != (texts[i] == texts[j]) {
				t.Fatalf("P14.1: Same of the keys %d and %d: %v: %.200v, %.200v", i, j, same, k, o)
			}
		}
	}
	none := search.Key{Set: seqset.Set{}, Kids: []search.Key{}}
	if !none.Same(all()) || !all().Same(none) {
		t.Error("P1, R3: a list that is nil is another one than one that is empty")
	}
	if all().Same(search.Key{Flag: 32}) || seq(search.Seq, 1, 1).Same(seq(search.Seq, 1, 0)) || deep(9).Same(deep(8)) || !deep(1000).Same(deep(1000)) {
		t.Error("P14.1: Same")
	}
	if of(search.Or, all(), has(1)).Same(of(search.Or, has(1), all())) || of(search.And, all()).Same(of(search.And, all(), all())) {
		t.Error("P14.1: Same of other kids")
	}
}

// alike is Same, told by the texts of all fields.
func alike(k, o search.Key) bool {
	return told(k) == told(o)
}

// told is a text of all that a key has.
func told(k search.Key) string {
	var b strings.Builder
	b.WriteString(number(k.Kind) + number(int(k.Flag)) + number(int(k.N)) + number(len(k.S)) + k.S)
	b.WriteString(number(len(k.Set)))
	for _, r := range k.Set {
		b.WriteString(number(int(r.From)) + number(int(r.To)))
	}
	b.WriteString(number(len(k.Kids)))
	for _, kid := range k.Kids {
		b.WriteString(told(kid))
	}
	return b.String()
}

// walked are all keys of a walk.
func walked(k search.Key) []search.Key {
	return slices.Collect(k.Walk())
}

// below are a key and all below it, told without the package.
func below(k search.Key) []search.Key {
	l := []search.Key{k}
	for _, kid := range k.Kids {
		l = append(l, below(kid)...)
	}
	return l
}

func TestWalk(t *testing.T) {
	keys := append(wrongKeys(), of(-7, body("x"), of(99, all(), has(3)), seq(0, 1, 1)))
	for _, k := range rightKeys() {
		keys = append(keys, k)
	}
	for _, k := range keys {
		walk := k.Walk()
		want := below(k)
		for range 2 {
			if got := slices.Collect(walk); !slices.EqualFunc(got, want, alike) {
				t.Errorf("P14.1: the walk through %.200v: %.200v", k, got)
			}
		}
		for stop := range min(len(want), 5) {
			var got []search.Key
			for key := range walk {
				if got = append(got, key); len(got) == stop+1 {
					break
				}
			}
			if !slices.EqualFunc(got, want[:stop+1], alike) {
				t.Errorf("P14.1: a walk that stops at %d: %.200v", stop, got)
			}
		}
	}
	var kinds []int
	for key := range of(search.Or, of(search.Not, all()), of(search.And, seq(search.Uid, 1, 1), body(""))).Walk() {
		kinds = append(kinds, key.Kind)
	}
	if !slices.Equal(kinds, []int{search.Or, search.Not, search.All, search.And, search.Uid, search.Body}) {
		t.Errorf("P14.1: the walk's kinds: %v", kinds)
	}
}

// spoil changes all lists of a key, and below it.
func spoil(k search.Key) {
	for i := range k.Set {
		k.Set[i] = seqset.Range{From: 77, To: 78}
	}
	for i := range k.Kids {
		spoil(k.Kids[i])
		k.Kids[i] = search.Key{Kind: -1}
	}
}

func TestWalkShares(t *testing.T) {
	made := func() search.Key {
		return of(search.Or, of(search.Not, seq(search.Seq, 1, 2)), of(search.And, of(search.Not, seq(search.Uid, 3, 4)), all()))
	}
	k := made()
	walk := k.Walk()
	want := below(made())
	var got []string
	for key := range walk {
		got = append(got, told(key))
		spoil(key)
	}
	for i := range want {
		if i >= len(got) || got[i] != told(want[i]) {
			t.Errorf("P1, R4: a walk whose keys are changed on the way: the key %d of %d is another one", i, len(got))
		}
	}
	if !alike(k, made()) {
		t.Errorf("P1, R4: what a walk hands out shares memory with the key: %v", k)
	}
	first, second := slices.Collect(walk), slices.Collect(walk)
	for _, key := range first {
		spoil(key)
	}
	if !slices.EqualFunc(second, want, alike) {
		t.Error("P1, R4: two walks share memory")
	}
	spoil(k)
	if !slices.EqualFunc(slices.Collect(walk), want, alike) {
		t.Error("P1, R4: a walk keeps the key that it was handed")
	}
}

func TestNothingIsChanged(t *testing.T) {
	for text, k := range rightKeys() {
		was := told(k)
		k.Right()
		k.Same(all())
		k.Walk()
		if k.String() != text || told(k) != was {
			t.Errorf("P1, R4: the key %q is changed", text)
		}
	}
	r := token.Read("1:2,3")
	set := search.ReadSet(r)
	set[0].From = 9
	if again := search.ReadSet(token.Read("1:2,3")); again[0].From != 1 {
		t.Error("P1, R4: two sets share memory")
	}
}

// anyKey is a right key of a depth at most.
func anyKey(random *rand.Rand, depth int) search.Key {
	kinds := 11
	if depth == 1 {
		kinds = search.Not
	}
	k := search.Key{Kind: random.Intn(kinds)}
	switch k.Kind {
	case search.Has, search.Lacks:
		k.Flag = 1 << random.Intn(5)
	case search.Seq, search.Uid:
		for range 1 + random.Intn(4) {
			k.Set = append(k.Set, seqset.Range{From: uint32(random.Intn(12)), To: uint32(random.Intn(12))})
		}
	case search.Larger, search.Smaller:
		k.N = uint32(random.Intn(8))
	case search.Body:
		const some = "aAbB \r\n\"\\(\x00\xe4Z{}"
		for range random.Intn(4) {
			k.S += string(some[random.Intn(len(some))])
		}
	case search.Not:
		k.Kids = []search.Key{anyKey(random, depth-1)}
	case search.Or:
		k.Kids = []search.Key{anyKey(random, depth-1), anyKey(random, depth-1)}
	case search.And:
		for range 1 + random.Intn(3) {
			k.Kids = append(k.Kids, anyKey(random, depth-1))
		}
	}
	return k
}
