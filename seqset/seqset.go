// Package seqset is layer 2: which messages of a row are meant.
package seqset

import (
	"cmp"
	"iter"
	"slices"
	"strconv"
	"strings"

	"postchaise/api"
)

// Range has two ends; 0 stands for the last one.
type Range struct {
	From, To uint32
}

// Set is some ranges.
type Set []Range

// Parse is the set of a text.
func Parse(s string) (Set, api.Errno) {
	var set Set
	long := false
ranges:
	for more := true; more; {
		var text string
		text, s, more = strings.Cut(s, ",")
		r, ok := parseRange(text)
		if !ok {
			return nil, api.ErrForm
		}
		if len(set) == api.MaxRanges {
			// What comes behind may still be of no form, which counts first.
			long = true
			continue ranges
		}
		set = append(set, r)
	}
	if long {
		return nil, api.ErrLong
	}
	return set, api.OK
}

// parseRange is the range of a text, if it is one.
func parseRange(s string) (Range, bool) {
	from, to, two := strings.Cut(s, ":")
	if !two {
		to = from
	}
	first, ok := parseEnd(from)
	if !ok {
		return Range{}, false
	}
	second, ok := parseEnd(to)
	if !ok {
		return Range{}, false
	}
	return Range{From: first, To: second}, true
}

// parseEnd is the number of a range's end, if the text is one.
func parseEnd(s string) (uint32, bool) {
	if s == "*" {
		return 0, true
	}
	if s == "" || s[0] == '0' {
		return 0, false
	}
	n, err := strconv.ParseUint(s, 10, 32)
	if err != nil {
		return 0, false
	}
	return uint32(n), true
}

// String is a set's text.
func (s Set) String() string {
	var b []byte
	for i, r := range s {
		if i > 0 {
			b = append(b, ',')
		}
		b = appendEnd(b, r.From)
		if r.From != r.To {
			b = append(b, ':')
			b = appendEnd(b, r.To)
		}
	}
	return string(b)
}

// appendEnd puts the text of a range's end behind b.
func appendEnd(b []byte, end uint32) []byte {
	if end == 0 {
		return append(b, '*')
	}
	return strconv.AppendUint(b, uint64(end), 10)
}

// Has: is a number meant, by a last one?
func (s Set) Has(n, last uint32) bool {
	if n == 0 {
		return false
	}
	for _, r := range s {
		low, high := r.bounds(last)
		if low <= n && n <= high {
			return true
		}
	}
	return false
}

// bounds are the least and the greatest number that a range means, by a last one.
func (r Range) bounds(last uint32) (low, high uint32) {
	from, to := r.From, r.To
	if from == 0 {
		from = last
	}
	if to == 0 {
		to = last
	}
	return min(from, to), max(from, to)
}

// Within: is no end greater than the last one?
func (s Set) Within(last uint32) bool {
	if last == 0 {
		return false
	}
	for _, r := range s {
		if r.From > last || r.To > last {
			return false
		}
	}
	return true
}

// Walk is a walk through all that are meant.
func (s Set) Walk(last uint32) iter.Seq[uint32] {
	// Made here, and not in the walk: the set may be changed ahead of it.
	rising := s.rising(last)
	return func(yield func(uint32) bool) {
	ranges:
		for _, r := range rising {
			for n := r.From; ; n++ {
				if !yield(n) {
					return
				}
				// Asked ahead of n++, which wraps round behind the greatest number.
				if n == r.To {
					continue ranges
				}
			}
		}
	}
}

// rising is what a set has from 1 to a last number, as ranges that rise and have nothing in common.
func (s Set) rising(last uint32) []Range {
	var parts []Range
	for _, r := range s {
		low, high := r.bounds(last)
		low, high = max(low, 1), min(high, last)
		if low <= high {
			parts = append(parts, Range{From: low, To: high})
		}
	}
	slices.SortFunc(parts, func(a, b Range) int { return cmp.Compare(a.From, b.From) })
	var apart []Range
ranges:
	for _, r := range parts {
		if k := len(apart) - 1; k >= 0 && r.From <= apart[k].To {
			apart[k].To = max(apart[k].To, r.To)
			continue ranges
		}
		apart = append(apart, r)
	}
	return apart
}

// Of is the set of numbers that rise.
func Of(l ...uint32) Set {
	var set Set
	last := uint32(0)
numbers:
	for _, n := range l {
		if n <= last {
			return nil
		}
		last = n
		if k := len(set) - 1; k >= 0 && set[k].To == n-1 {
			set[k].To = n
			continue numbers
		}
		set = append(set, Range{From: n, To: n})
	}
	return set
}
