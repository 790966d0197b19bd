package search

import (
	"slices"
	"strings"

	"postchaise/token"
	"postchaise/tree"
)

// Place is where a message stands.
type Place struct {
	Seq, LastSeq, LastUid uint32
}

// Match: does it match a message?
func (k Key) Match(m tree.Rec, at Place) bool {
	return k.Right() && k.matches(m, at)
}

// matches: does a key that is right match a message?
func (k Key) matches(m tree.Rec, at Place) bool {
	does := func(kid Key) bool { return kid.matches(m, at) }
	doesNot := func(kid Key) bool { return !does(kid) }
	size := uint64(len(m.Text))
	switch k.Kind {
	case Has:
		return m.Flags.Has(k.Flag)
	case Lacks:
		return !m.Flags.Has(k.Flag)
	case Seq:
		return k.Set.Has(at.Seq, at.LastSeq)
	case Uid:
		return k.Set.Has(m.Uid, at.LastUid)
	case Larger:
		return size > uint64(k.N)
	case Smaller:
		return size < uint64(k.N)
	case Body:
		return strings.Contains(token.Upper(m.Text), token.Upper(k.S))
	case Not:
		return doesNot(k.Kids[0])
	case Or:
		return slices.ContainsFunc(k.Kids, does)
	case And:
		return !slices.ContainsFunc(k.Kids, doesNot)
	}
	return true
}
