package model

import (
	"strconv"

	"postchaise/command"
	"postchaise/flags"
	"postchaise/item"
	"postchaise/list"
	"postchaise/reply"
	"postchaise/seqset"
	"postchaise/tree"
)

// allFlags are the flags that a message may have, and allItems the items that may be asked of it.
const (
	allFlags = flags.Answered | flags.Flagged | flags.Deleted | flags.Seen | flags.Draft
	allItems = item.Uid | item.Flags | item.Size | item.Body
)

// Resolve are the places of those that are meant.
func Resolve(l list.List, c command.Command) ([]int, bool) {
	last := uint32(len(l))
	if !c.ByUid && !c.Set.Within(last) {
		return nil, false
	}
	var places []int
	for i, e := range l {
		if c.ByUid && c.Set.Has(e.Uid, l.Last()) || !c.ByUid && c.Set.Has(uint32(i+1), last) {
			places = append(places, i)
		}
	}
	return places, true
}

// Greet is what is told of a box that is selected.
func Greet(l list.List, next, valid uint32) []reply.Line {
	lines := []reply.Line{
		{Kind: reply.Info, Text: "FLAGS " + allFlags.String()},
		{Kind: reply.Exists, Seq: len(l)},
		{Kind: reply.Info, Text: "0 RECENT"},
		untagged("[UIDVALIDITY " + number(valid) + "] valid"),
		untagged("[UIDNEXT " + number(next) + "] next"),
	}
	for i, e := range l {
		lines = append(lines, reply.Of(list.Note{Kind: list.Fetch, Seq: i + 1, Entry: e}))
	}
	return lines
}

// untagged is an OK that ends no command.
func untagged(text string) reply.Line {
	return reply.Line{Kind: reply.Done, Tag: "*", Word: wordOk, Text: text}
}

// number is a number's text.
func number(n uint32) string {
	return strconv.FormatUint(uint64(n), 10)
}

// Told is a fetch of a message by items.
func Told(t item.Items, seq int, r tree.Rec) reply.Line {
	l := reply.Line{Kind: reply.Fetch, Seq: seq, Items: t & allItems}
	if t&item.Uid != 0 {
		l.Rec.Uid = r.Uid
	}
	if t&item.Flags != 0 {
		l.Rec.Flags = r.Flags & allFlags
	}
	if t&(item.Size|item.Body) != 0 {
		l.Rec.Text = r.Text
	}
	if t&item.Size != 0 {
		l.Size = len(r.Text)
	}
	return l
}

// Copied is what is told of what was copied; of nothing it is just what is told of most commands.
func Copied(valid uint32, from, to []uint32) string {
	if len(from) == 0 {
		return textDone
	}
	return "[COPYUID " + number(valid) + " " + seqset.Of(from...).String() + " " + seqset.Of(to...).String() + "] " + textDone
}
