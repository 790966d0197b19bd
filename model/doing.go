package model

import (
	"cmp"
	"math"
	"slices"

	"postchaise/api"
	"postchaise/command"
	"postchaise/flags"
	"postchaise/item"
	"postchaise/list"
	"postchaise/reply"
	"postchaise/search"
	"postchaise/tree"
)

// The words of an end, and the text behind most that are OK.
const (
	wordOk   = "OK"
	wordNo   = "NO"
	wordBad  = "BAD"
	textDone = "done"
)

// end is how a command ends.
type end struct {
	word, text string
}

// doing is a command that a session does.
type doing struct {
	model   *Model
	session *session
	command command.Command
	limit   api.Errno
	told    []reply.Line
}

// kinds are what is done, by the kind of a command.
func kinds() [command.Unselect + 1]func(*doing) end {
	return [...]func(*doing) end{
		command.Select:   (*doing).doSelect,
		command.Noop:     (*doing).doNoop,
		command.Append:   (*doing).doAppend,
		command.Store:    (*doing).doStore,
		command.Fetch:    (*doing).doFetch,
		command.Search:   (*doing).doSearch,
		command.Expunge:  (*doing).doExpunge,
		command.Copy:     (*doing).doCopy,
		command.Unselect: (*doing).doUnselect,
	}
}

// do does the command.
func (d *doing) do() end {
	if d.session.box == nil && asksSelected(d.command.Kind) {
		return end{wordBad, "state"}
	}
	return kinds()[d.command.Kind](d)
}

// asksSelected: does a kind of commands ask for a box that is selected?
func asksSelected(kind int) bool {
	switch kind {
	case command.Select, command.Noop, command.Append:
		return false
	}
	return true
}

// The ends that several commands have.
func done() end      { return end{wordOk, textDone} }
func badSet() end    { return end{wordBad, "set"} }
func tryMaking() end { return end{wordNo, "[TRYCREATE] none"} }

// tell tells lines behind those that were told.
func (d *doing) tell(lines ...reply.Line) {
	d.told = append(d.told, lines...)
}

// look makes the view what the box has.
func (d *doing) look() {
	now := list.Of(d.session.box.recs...)
	for _, note := range d.session.list.Diff(now) {
		d.tell(reply.Of(note))
	}
	d.session.list, d.session.view = now, d.session.box.recs
}

// lookIf looks, if it is so.
func (d *doing) lookIf(so bool) {
	if so {
		d.look()
	}
}

// rec is the message at a place, as the session knows it.
func (d *doing) rec(place int) tree.Rec {
	rec := d.session.view[place]
	rec.Flags = d.session.list[place].Flags
	return rec
}

// items are what is told of messages, with the number, if the command is by numbers.
func (d *doing) items(t item.Items) item.Items {
	if d.command.ByUid {
		t |= item.Uid
	}
	return t
}

// change changes a box to some messages, and a next number, if the limit lets it: else it answers why not, and false. Where nothing is changed it always does.
func (d *doing) change(b *box, recs []tree.Rec, next uint32) (end, bool) {
	if slices.Equal(b.recs, recs) {
		return end{}, true
	}
	switch d.limit {
	case api.ErrFull:
		return end{wordNo, "full"}, false
	case api.ErrBusy:
		return end{wordNo, "busy"}, false
	}
	b.recs, b.Next = recs, next
	return end{}, true
}

// putBehind puts messages behind in a box: their numbers, or why not, and false.
func (d *doing) putBehind(b *box, recs []tree.Rec) ([]uint32, end, bool) {
	// Asked ahead of the limit: a change that can't be tries no slot, and no swap.
	if uint64(b.Next)+uint64(len(recs)) > math.MaxUint32 {
		return nil, end{wordNo, "uid"}, false
	}
	var uids []uint32
	next := b.Next
	now := slices.Clone(b.recs)
	for _, rec := range recs {
		rec.Uid = next
		next++
		uids = append(uids, rec.Uid)
		now = append(now, rec)
	}
	why, ok := d.change(b, now, next)
	return uids, why, ok
}

// doSelect selects a box.
func (d *doing) doSelect() end {
	*d.session = session{}
	b := d.model.named(d.command.Name)
	if b == nil {
		return end{wordNo, "none"}
	}
	*d.session = session{box: b, list: list.Of(b.recs...), view: b.recs}
	d.tell(Greet(d.session.list, b.Next, b.Valid)...)
	return end{wordOk, "[READ-WRITE] " + textDone}
}

// doNoop looks.
func (d *doing) doNoop() end {
	d.lookIf(d.session.box != nil)
	return done()
}

// doUnselect selects none.
func (d *doing) doUnselect() end {
	*d.session = session{}
	return done()
}

// doAppend puts a message behind in a box.
func (d *doing) doAppend() end {
	b := d.model.named(d.command.Name)
	if b == nil {
		return tryMaking()
	}
	uids, why, ok := d.putBehind(b, []tree.Rec{{Flags: d.command.Flags, Text: d.command.Text}})
	if !ok {
		return why
	}
	d.lookIf(b == d.session.box)
	return end{wordOk, "[APPENDUID " + number(b.Valid) + " " + number(uids[0]) + "] " + textDone}
}

// doStore changes the flags of messages.
func (d *doing) doStore() end {
	places, ok := Resolve(d.session.list, d.command)
	if !ok {
		return badSet()
	}
	b := d.session.box
	now := slices.Clone(b.recs)
	for _, place := range places {
		if i, ok := find(now, d.session.list[place].Uid); ok {
			now[i].Flags = now[i].Flags.Change(d.command.Order.How, d.command.Flags)
		}
	}
	if why, ok := d.change(b, now, b.Next); !ok {
		return why
	}
	if !d.command.Order.Silent {
		d.tellFlags(places)
		d.lookIf(d.command.ByUid)
	}
	return done()
}

// find is the place of a number's message, if there is one.
func find(recs []tree.Rec, uid uint32) (int, bool) {
	return slices.BinarySearchFunc(recs, uid, func(r tree.Rec, uid uint32) int { return cmp.Compare(r.Uid, uid) })
}

// tellFlags tells the flags of those at some places that the box has still, and notes them in the list.
func (d *doing) tellFlags(places []int) {
	recs := d.session.box.recs
	for _, place := range places {
		e := &d.session.list[place]
		if i, ok := find(recs, e.Uid); ok {
			e.Flags = recs[i].Flags
			d.tell(Told(d.items(item.Flags), place+1, recs[i]))
		}
	}
}

// doFetch tells messages.
func (d *doing) doFetch() end {
	d.lookIf(d.command.ByUid)
	places, ok := Resolve(d.session.list, d.command)
	if !ok {
		return badSet()
	}
	for _, place := range places {
		d.tell(Told(d.items(d.command.Items), place+1, d.rec(place)))
	}
	return done()
}

// doSearch tells which messages match.
func (d *doing) doSearch() end {
	d.lookIf(d.command.ByUid)
	l := d.session.list
	found := reply.Line{Kind: reply.Found}
	for place := range l {
		at := search.Place{Seq: uint32(place + 1), LastSeq: uint32(len(l)), LastUid: l.Last()}
		switch {
		case !d.command.Key.Match(d.rec(place), at):
		case d.command.ByUid:
			found.Nums = append(found.Nums, l[place].Uid)
		default:
			found.Nums = append(found.Nums, at.Seq)
		}
	}
	d.tell(found)
	return done()
}

// doExpunge takes away the messages that are marked so.
func (d *doing) doExpunge() end {
	b := d.session.box
	now := slices.DeleteFunc(slices.Clone(b.recs), func(r tree.Rec) bool { return r.Flags.Has(flags.Deleted) })
	if why, ok := d.change(b, now, b.Next); !ok {
		return why
	}
	d.look()
	return done()
}

// doCopy puts messages behind in another box, or in the same one.
func (d *doing) doCopy() end {
	places, ok := Resolve(d.session.list, d.command)
	if !ok {
		return badSet()
	}
	b := d.model.named(d.command.Name)
	if b == nil {
		return tryMaking()
	}
	var recs []tree.Rec
	var from []uint32
	for _, place := range places {
		recs = append(recs, d.rec(place))
		from = append(from, d.session.list[place].Uid)
	}
	to, why, ok := d.putBehind(b, recs)
	if !ok {
		return why
	}
	d.lookIf(b == d.session.box)
	return end{wordOk, Copied(b.Valid, from, to)}
}
