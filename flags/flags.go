// Package flags is layer 1: what is marked of a message.
package flags

import (
	"iter"
	"strings"

	"postchaise/api"
)

// Set is a set of flags; bits beside the five count for nothing.
type Set uint8

// The flags.
const (
	Answered Set = 1 << iota
	Flagged
	Deleted
	Seen
	Draft
)

// all is every bit that counts.
const all = Answered | Flagged | Deleted | Seen | Draft

// names are the flags' names, by the flags' places from the lowest bit on.
var names = [...]string{"\\Answered", "\\Flagged", "\\Deleted", "\\Seen", "\\Draft"}

// String is a set's text.
func (s Set) String() string {
	var b strings.Builder
	b.WriteByte('(')
	for name := range s.Names() {
		if b.Len() > 1 {
			b.WriteByte(' ')
		}
		b.WriteString(name)
	}
	b.WriteByte(')')
	return b.String()
}

// Parse is the set of a text.
func Parse(s string) (Set, api.Errno) {
	if len(s) < 2 || s[0] != '(' || s[len(s)-1] != ')' {
		return 0, api.ErrForm
	}
	inner := s[1 : len(s)-1]
	var set Set
	for more := inner != ""; more; {
		var word string
		word, inner, more = strings.Cut(inner, " ")
		flag := named(word)
		if flag == 0 {
			return 0, api.ErrForm
		}
		set |= flag
	}
	return set, api.OK
}

// Has: has a set all flags of another one?
func (s Set) Has(o Set) bool {
	return o&all&^s == 0
}

// Change is a set changed by another one.
func (s Set) Change(how int, o Set) Set {
	switch how {
	case 0:
		s = o
	case 1:
		s |= o
	case 2:
		s &^= o
	}
	return s & all
}

// Names is a walk through the flags' names.
func (s Set) Names() iter.Seq[string] {
	return func(yield func(string) bool) {
		for _, name := range s.flags() {
			if !yield(name) {
				return
			}
		}
	}
}

// flags is a walk through a set's flags, and their names.
func (s Set) flags() iter.Seq2[Set, string] {
	return func(yield func(Set, string) bool) {
		for i, name := range names {
			flag := Set(1) << i
			if s.Has(flag) && !yield(flag, name) {
				return
			}
		}
	}
}

// named is the flag of a name, or 0.
func named(word string) Set {
	for flag, name := range all.flags() {
		if alike(word, name) {
			return flag
		}
	}
	return 0
}

// alike: are two texts the same, letters great or small? (Not by strings.EqualFold, which takes letters beyond a to z for some of these.)
func alike(a, b string) bool {
	if len(a) != len(b) {
		return false
	}
	for i := range len(a) {
		if small(a[i]) != small(b[i]) {
			return false
		}
	}
	return true
}

// small is a byte as a small letter, if it is a letter.
func small(b byte) byte {
	if 'A' <= b && b <= 'Z' {
		b += 'a' - 'A'
	}
	return b
}
