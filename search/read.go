package search

import (
	"strings"

	"postchaise/api"
	"postchaise/flags"
	"postchaise/seqset"
	"postchaise/token"
)

// setStarts are the bytes that a set may begin with, setBytes all that it may have.
const (
	setStarts = "*0123456789"
	setBytes  = setStarts + ":,"
)

// Read is the key that comes next.
func Read(r *token.Reader) Key {
	k := read(r, 1)
	if !r.Ok() || !k.Right() {
		r.Fail()
		return Key{}
	}
	return k
}

// read is the key that comes next, so deep below the first one. If the reader gives up, it answers just something.
func read(r *token.Reader, depth int) Key {
	// Asked here, and not just of the whole key: a text may go down for ages.
	if depth > api.MaxDepth {
		r.Fail()
	}
	kid := func() Key { return read(r, depth+1) }
	k := Key{Kind: readKind(r)}
	switch k.Kind {
	case Has, Lacks:
		k.Flag = readFlag(r)
	case Seq, Uid:
		k.Set = ReadSet(r)
	case Larger, Smaller:
		k.N = r.Number()
	case Body:
		k.S = r.String()
	case Not:
		k.Kids = []Key{kid()}
	case Or:
		first := kid()
		r.Blank()
		k.Kids = []Key{first, kid()}
	case And:
		k.Kids = readKids(r, kid)
	}
	return k
}

// readKind reads what a key begins with, and answers of which kind it is then.
func readKind(r *token.Reader) int {
	for kind, word := range words {
		if word != "" && r.Word(word) {
			return kind
		}
	}
	for _, b := range []byte(setStarts) {
		if r.Next(b) {
			return Seq
		}
	}
	return Has
}

// readFlag is the flag whose name comes next.
func readFlag(r *token.Reader) flags.Set {
	for flag := flags.Answered; flag <= flags.Draft; flag <<= 1 {
		if r.Word(nameOf(flag)) {
			return flag
		}
	}
	r.Fail()
	return 0
}

// readKids are the keys up to the bracket behind them.
func readKids(r *token.Reader, kid func() Key) []Key {
	kids := []Key{kid()}
	for r.Word(" ") {
		kids = append(kids, kid())
	}
	if !r.Word(")") {
		r.Fail()
	}
	return kids
}

// ReadSet is the set that comes next.
func ReadSet(r *token.Reader) seqset.Set {
	text := r.While(func(b byte) bool { return strings.IndexByte(setBytes, b) >= 0 })
	set, err := seqset.Parse(text)
	if err != api.OK {
		r.Fail()
		return nil
	}
	return set
}
