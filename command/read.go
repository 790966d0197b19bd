package command

import (
	"strings"

	"postchaise/api"
	"postchaise/item"
	"postchaise/search"
	"postchaise/token"
)

// Tag is the tag that a text begins with, if a blank stands behind it.
func Tag(s string) string {
	r := token.Read(s)
	// A blank can't stand in an atom, so the tag ahead of one is the longest atom that there is.
	tag := r.Atom()
	if !r.Next(' ') || !isTag(tag) {
		return ""
	}
	return tag
}

// isTag: is all of a text one tag?
func isTag(s string) bool {
	r := token.Read(s)
	r.Atom()
	return r.End() && len(s) <= maxTag && !strings.Contains(s, "+")
}

// Parse is the command of a text.
func Parse(s string) (Command, api.Errno) {
	c := Command{Tag: Tag(s)}
	r := token.Read(s[len(c.Tag):])
	r.Blank()
	c.ByUid = r.Word(byNumbers + " ")
	c.Kind = readKind(r)
	read := readers()[c.Kind]
	read(&c, r)
	if !r.End() || !c.Right() {
		return Command{}, api.ErrForm
	}
	return c, api.OK
}

// readKind is the kind whose word comes next. If the reader gives up, it answers just something.
func readKind(r *token.Reader) int {
	for kind, word := range words {
		if r.Word(word) {
			return kind
		}
	}
	r.Fail()
	return Noop
}

// readers are how what stands behind the word is read, by the kind.
func readers() [len(words)]func(*Command, *token.Reader) {
	return [...]func(*Command, *token.Reader){
		Select:   (*Command).readName,
		Noop:     (*Command).readNothing,
		Append:   (*Command).readAppend,
		Store:    (*Command).readStore,
		Fetch:    (*Command).readFetch,
		Search:   (*Command).readSearch,
		Expunge:  (*Command).readNothing,
		Copy:     (*Command).readCopy,
		Unselect: (*Command).readNothing,
	}
}

// readNothing reads what stands behind a word that is all.
func (c *Command) readNothing(r *token.Reader) {}

// readName reads a blank, and a name.
func (c *Command) readName(r *token.Reader) {
	r.Blank()
	c.Name = r.String()
}

// readSet reads a blank, and a set.
func (c *Command) readSet(r *token.Reader) {
	r.Blank()
	c.Set = search.ReadSet(r)
}

// readFlags reads a blank, and flags.
func (c *Command) readFlags(r *token.Reader) {
	r.Blank()
	c.Flags = item.ReadFlags(r)
}

// readAppend reads what stands behind APPEND.
func (c *Command) readAppend(r *token.Reader) {
	c.readName(r)
	r.Blank()
	// Flags may lack.
	if r.Next('(') {
		c.Flags = item.ReadFlags(r)
		r.Blank()
	}
	c.Text = r.Literal()
}

// readStore reads what stands behind STORE.
func (c *Command) readStore(r *token.Reader) {
	c.readSet(r)
	r.Blank()
	c.Order = item.ReadOrder(r)
	c.readFlags(r)
}

// readFetch reads what stands behind FETCH.
func (c *Command) readFetch(r *token.Reader) {
	c.readSet(r)
	r.Blank()
	c.Items = item.ReadItems(r)
}

// readSearch reads what stands behind SEARCH.
func (c *Command) readSearch(r *token.Reader) {
	r.Blank()
	keys := []search.Key{search.Read(r)}
	for r.Word(" ") {
		keys = append(keys, search.Read(r))
	}
	c.Key = keys[0]
	if len(keys) > 1 {
		c.Key = search.Key{Kind: search.And, Kids: keys}
	}
}

// readCopy reads what stands behind COPY.
func (c *Command) readCopy(r *token.Reader) {
	c.readSet(r)
	c.readName(r)
}
