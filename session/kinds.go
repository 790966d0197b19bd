package session

import (
	"postchaise/act"
	"postchaise/command"
	"postchaise/edit"
	"postchaise/item"
	"postchaise/model"
	"postchaise/reply"
	"postchaise/search"
	"postchaise/tree"
)

// kinds are what is done, by the kind of a command; each answers the first step of it.
func kinds() [command.Unselect + 1]func(*doing) act.Step {
	return [...]func(*doing) act.Step{
		command.Select:   (*doing).doSelect,
		command.Noop:     (*doing).doNoop,
		command.Append:   (*doing).doAppend,
		command.Store:    (*doing).doStore,
		command.Fetch:    (*doing).doFetch,
		command.Search:   (*doing).doSearch,
		command.Expunge:  (*doing).doExpunge,
		command.Copy:     (*doing).doCopy,
		command.Unselect: (*doing).doUnselect,
	}
}

// doSelect selects a box.
func (d *doing) doSelect() act.Step {
	box, ok := d.box()
	if !ok {
		return d.drop(end{wordNo, "none"})
	}
	return d.look(box, func(head tree.Head) end {
		d.s.at = d.sees(box, head)
		d.tell(model.Greet(d.s.at.list, head.Next, head.Valid)...)
		return end{wordOk, "[READ-WRITE] " + textDone}
	})
}

// doUnselect selects none.
func (d *doing) doUnselect() act.Step {
	return d.drop(done())
}

// doNoop looks, if there is something to look at.
func (d *doing) doNoop() act.Step {
	if d.s.at == nil {
		return d.atOnce(done)
	}
	return d.lookAgain(done)
}

// lookAgain looks at the selected box, and does then what is left.
func (d *doing) lookAgain(then func() end) act.Step {
	return d.look(d.s.at.box, func(head tree.Head) end {
		d.see(head)
		return then()
	})
}

// doFetch tells messages.
func (d *doing) doFetch() act.Step {
	if d.c.ByUid {
		return d.lookAgain(d.fetch)
	}
	return d.atOnce(d.fetch)
}

// fetch tells those that are meant.
func (d *doing) fetch() end {
	places, ok := model.Resolve(d.s.at.list, d.c)
	if !ok {
		return badSet()
	}
	for _, place := range places {
		d.tell(model.Told(d.items(d.c.Items), place+1, d.rec(d.s.at.list[place])))
	}
	return done()
}

// items are what is told of messages, with the number, if the command is by numbers.
func (d *doing) items(t item.Items) item.Items {
	if d.c.ByUid {
		t |= item.Uid
	}
	return t
}

// doSearch tells which messages match.
func (d *doing) doSearch() act.Step {
	if d.c.ByUid {
		return d.lookAgain(d.search)
	}
	return d.atOnce(d.search)
}

// search tells those that match.
func (d *doing) search() end {
	l := d.s.at.list
	found := reply.Line{Kind: reply.Found}
	for i, e := range l {
		at := search.Place{Seq: uint32(i + 1), LastSeq: uint32(len(l)), LastUid: l.Last()}
		switch {
		case !d.c.Key.Match(d.rec(e), at):
		case d.c.ByUid:
			found.Nums = append(found.Nums, e.Uid)
		default:
			found.Nums = append(found.Nums, at.Seq)
		}
	}
	d.tell(found)
	return done()
}

// doAppend puts a message behind in a box.
func (d *doing) doAppend() act.Step {
	box, ok := d.box()
	if !ok {
		return d.atOnce(tryMaking)
	}
	e := edit.Edit{Kind: edit.Append, Recs: []tree.Rec{{Flags: d.c.Flags, Text: d.c.Text}}}
	return d.change(box, e, func(came edit.Done) end {
		d.seeIf(box, came.Head)
		return end{wordOk, "[APPENDUID " + number(came.Head.Valid) + " " + number(came.Recs[0].Uid) + "] " + textDone}
	})
}

// doStore changes the flags of messages.
func (d *doing) doStore() act.Step {
	at := d.s.at
	places, ok := model.Resolve(at.list, d.c)
	if !ok {
		return d.atOnce(badSet)
	}
	e := edit.Edit{Kind: edit.Flag, How: d.c.Order.How, Flags: d.c.Flags}
	for _, place := range places {
		e.Uids = append(e.Uids, at.list[place].Uid)
	}
	return d.change(at.box, e, func(came edit.Done) end {
		if d.c.Order.Silent {
			return done()
		}
		d.tellFlags(came.Recs)
		if d.c.ByUid {
			d.see(came.Head)
		}
		return done()
	})
}

// tellFlags tells the flags that messages have now, and notes them in the list.
func (d *doing) tellFlags(recs []tree.Rec) {
	l := d.s.at.list
	for _, rec := range recs {
		seq := l.Seq(rec.Uid)
		l[seq-1].Flags = rec.Flags
		d.tell(model.Told(d.items(item.Flags), seq, rec))
	}
}

// doExpunge takes away the messages that are marked so.
func (d *doing) doExpunge() act.Step {
	return d.change(d.s.at.box, edit.Edit{Kind: edit.Expunge}, func(came edit.Done) end {
		d.see(came.Head)
		return done()
	})
}

// doCopy puts messages behind in another box, or in the same one.
func (d *doing) doCopy() act.Step {
	places, ok := model.Resolve(d.s.at.list, d.c)
	if !ok {
		return d.atOnce(badSet)
	}
	box, ok := d.box()
	if !ok {
		return d.atOnce(tryMaking)
	}
	e := edit.Edit{Kind: edit.Append}
	var from []uint32
	for _, place := range places {
		known := d.s.at.list[place]
		e.Recs = append(e.Recs, d.rec(known))
		from = append(from, known.Uid)
	}
	return d.change(box, e, func(came edit.Done) end {
		var to []uint32
		for _, rec := range came.Recs {
			to = append(to, rec.Uid)
		}
		d.seeIf(box, came.Head)
		return end{wordOk, model.Copied(came.Head.Valid, from, to)}
	})
}
