package search_test

import (
	"bytes"
	"math"
	"math/rand"
	"strings"
	"testing"

	"postchaise/flags"
	"postchaise/search"
	"postchaise/seqset"
	"postchaise/tree"
)

// holdMatch holds a key, and its not, against what should be.
func holdMatch(t *testing.T, k search.Key, m tree.Rec, at search.Place, want bool) {
	t.Helper()
	if got := k.Match(m, at); got != want {
		t.Errorf("P14.1: %.200v of %.80v at %v: %v", k, m, at, got)
	}
	if got := of(search.Not, k).Match(m, at); got == want {
		t.Errorf("P14.1: not %.200v of %.80v at %v: %v", k, m, at, got)
	}
}

func TestMatchExample(t *testing.T) {
	k := of(search.Not, of(search.And, has(flags.Seen), seq(search.Seq, 1, 2)))
	m := tree.Rec{Uid: 1, Flags: flags.Seen}
	holdMatch(t, k, m, search.Place{Seq: 3, LastSeq: 3, LastUid: 9}, true)
	holdMatch(t, k, m, search.Place{Seq: 2, LastSeq: 3, LastUid: 9}, false)
	m.Flags = flags.Draft
	holdMatch(t, k, m, search.Place{Seq: 2, LastSeq: 3, LastUid: 9}, true)
}

func TestMatchFlags(t *testing.T) {
	for n := range 256 {
		m := tree.Rec{Flags: flags.Set(n)}
		holdMatch(t, all(), m, search.Place{}, true)
		for i := range 5 {
			there := n>>i&1 == 1
			holdMatch(t, has(1<<i), m, search.Place{}, there)
			holdMatch(t, search.Key{Kind: search.Lacks, Flag: 1 << i}, m, search.Place{}, !there)
		}
	}
}

func TestMatchSets(t *testing.T) {
	for _, c := range []struct {
		from, to, n, last uint32
		want              bool
	}{
		{2, 4, 2, 9, true}, {2, 4, 4, 9, true}, {2, 4, 1, 9, false}, {2, 4, 5, 9, false}, {4, 2, 3, 9, true}, {0, 0, 9, 9, true}, {0, 0, 8, 9, false}, {7, 0, 8, 9, true}, {7, 0, 6, 9, false}, {12, 0, 10, 9, true},
		{1, 0, 0, 9, false}, {0, 0, 0, 0, false}, {1, math.MaxUint32, math.MaxUint32, 9, true}, {0, 0, math.MaxUint32, math.MaxUint32, true}, {5, 5, 5, 0, true},
	} {
		// The other numbers lie outside of the set, each by its own last one.
		const other, otherLast = 1000, 2000
		holdMatch(t, seq(search.Seq, c.from, c.to), tree.Rec{Uid: other}, search.Place{Seq: c.n, LastSeq: c.last, LastUid: otherLast}, c.want)
		holdMatch(t, seq(search.Uid, c.from, c.to), tree.Rec{Uid: c.n}, search.Place{Seq: other, LastSeq: otherLast, LastUid: c.last}, c.want)
	}
	two := search.Key{Kind: search.Uid, Set: seqset.Set{{From: 1, To: 1}, {From: 0, To: 0}}}
	for uid, want := range map[uint32]bool{1: true, 2: false, 3: true} {
		holdMatch(t, two, tree.Rec{Uid: uid}, search.Place{LastUid: 3}, want)
	}
}

func TestMatchSizes(t *testing.T) {
	for _, size := range []int{0, 1, 2, 100, 65536} {
		m := tree.Rec{Text: strings.Repeat("\xc3\xa4\n", size)[:size]}
		for _, n := range []uint32{0, 1, 2, 3, 99, 100, 101, 65535, 65536, 65537, math.MaxInt32, math.MaxUint32} {
			holdMatch(t, search.Key{Kind: search.Larger, N: n}, m, search.Place{}, size > int(n))
			holdMatch(t, search.Key{Kind: search.Smaller, N: n}, m, search.Place{}, size < int(n))
		}
	}
}

func TestMatchBody(t *testing.T) {
	for _, c := range []struct {
		text, s string
		want    bool
	}{
		{"", "", true}, {"abc", "", true}, {"", "a", false}, {"abc", "abc", true}, {"abc", "ABC", true}, {"ABC", "bc", true}, {"xaBcx", "AbC", true}, {"ab", "abc", false}, {"a b c", "abc", false}, {"acb", "abc", false},
		{"aab", "ab", true}, {"x\r\ny", "\r\nY", true}, {"\x00\xff", "\xff", true}, {"[", "{", false}, {"@", "`", false}, {"\xe4", "\xc4", false}, {"\xc3\xa4", "\xc3\x84", false}, {"k", "\xe2\x84\xaa", false}, {"s", "\xc5\xbf", false},
		{"\xff", "\xfe", false}, {"\xef\xbf\xbd", "\xff", false}, {"\xff", "\xef\xbf\xbd", false}, {"1", "1", true},
		{strings.Repeat("ab", 30000) + "C", "abABabc", true}, {strings.Repeat("ab", 30000), "BB", false},
	} {
		holdMatch(t, body(c.s), tree.Rec{Text: c.text}, search.Place{}, c.want)
	}
	for a := range 256 {
		for b := range 256 {
			// The letters from a to z alone have another of theirs.
			want := a == b || a^b == 32 && a|32 >= 'a' && a|32 <= 'z'
			holdMatch(t, body(string([]byte{byte(a)})), tree.Rec{Text: string([]byte{byte(b)})}, search.Place{}, want)
		}
	}
}

func TestMatchKids(t *testing.T) {
	yes, no := all(), of(search.Not, all())
	key := func(is bool) search.Key {
		if is {
			return yes
		}
		return no
	}
	for n := range 8 {
		a, b, c := n&1 == 1, n&2 == 2, n&4 == 4
		holdMatch(t, of(search.Or, key(a), key(b)), tree.Rec{}, search.Place{}, a || b)
		holdMatch(t, of(search.And, key(a)), tree.Rec{}, search.Place{}, a)
		holdMatch(t, of(search.And, key(a), key(b)), tree.Rec{}, search.Place{}, a && b)
		holdMatch(t, of(search.And, key(a), key(b), key(c)), tree.Rec{}, search.Place{}, a && b && c)
		holdMatch(t, of(search.Or, of(search.And, key(a), key(b)), of(search.Not, key(c))), tree.Rec{}, search.Place{}, a && b || !c)
	}
}

func TestMatchWrong(t *testing.T) {
	m := tree.Rec{Uid: 1, Flags: 255, Text: strings.Repeat("x", maxLiteral+1)}
	at := search.Place{Seq: 1, LastSeq: 1, LastUid: 1}
	keys := wrongKeys()
	for _, k := range rightKeys() {
		keys = append(keys, crowded(k)...)
	}
	for _, k := range keys {
		for _, o := range []search.Key{k, of(search.Not, k), of(search.Or, all(), k), of(search.Or, k, all()), of(search.And, k), of(search.Not, of(search.Not, of(search.Not, k)))} {
			if o.Match(m, at) {
				t.Errorf("P14.1: %.200v, which is not right, matches", o)
			}
		}
	}
	loop := of(search.Or, all(), all())
	loop.Kids[1] = loop
	if loop.Match(m, at) {
		t.Error("P14.1: a key that stands below itself matches")
	}
}

// matches is Match of a right key, told otherwise than the package does.
func matches(k search.Key, m tree.Rec, at search.Place) bool {
	inner := func(i int) bool { return matches(k.Kids[i], m, at) }
	switch k.Kind {
	case search.Has:
		return m.Flags&k.Flag != 0
	case search.Lacks:
		return m.Flags&k.Flag == 0
	case search.Seq:
		return k.Set.Has(at.Seq, at.LastSeq)
	case search.Uid:
		return k.Set.Has(m.Uid, at.LastUid)
	case search.Larger:
		return len(m.Text) > int(k.N)
	case search.Smaller:
		return len(m.Text) < int(k.N)
	case search.Body:
		lower := func(s string) []byte {
			b := []byte(s)
			for i, c := range b {
				if c >= 'A' && c <= 'Z' {
					b[i] = c + 32
				}
			}
			return b
		}
		return bytes.Contains(lower(m.Text), lower(k.S))
	case search.Not:
		return !inner(0)
	case search.Or:
		return inner(0) || inner(1)
	case search.And:
		so := true
		for i := range k.Kids {
			so = inner(i) && so
		}
		return so
	}
	return true
}

func TestMatchAny(t *testing.T) {
	random := rand.New(rand.NewSource(15))
	count := map[bool]int{}
	for i := range 50000 {
		k := anyKey(random, 1+i%5)
		const some = "aAbB \r\n\"\\(\x00\xe4Z{}"
		m := tree.Rec{Uid: uint32(random.Intn(14)), Flags: flags.Set(random.Intn(256))}
		for range random.Intn(9) {
			m.Text += string(some[random.Intn(len(some))])
		}
		at := search.Place{Seq: uint32(random.Intn(14)), LastSeq: uint32(random.Intn(14)), LastUid: uint32(random.Intn(14))}
		got := k.Match(m, at)
		if got != matches(k, m, at) {
			t.Fatalf("P14.1: %q of %v at %v: %v", k.String(), m, at, got)
		}
		count[got]++
	}
	if count[true] < 1000 || count[false] < 1000 {
		t.Errorf("P14.1: %d matched, %d did not", count[true], count[false])
	}
}
