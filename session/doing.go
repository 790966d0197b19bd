package session

import (
	"slices"
	"strconv"

	"postchaise/act"
	"postchaise/api"
	"postchaise/command"
	"postchaise/edit"
	"postchaise/list"
	"postchaise/reply"
	"postchaise/tree"
	"postchaise/txn"
)

// The words of an end, and the text behind most that are OK.
const (
	wordOk   = "OK"
	wordNo   = "NO"
	wordBad  = "BAD"
	textDone = "done"
)

// end is how a command ends.
type end struct {
	word, text string
}

// The ends that several commands have.
func done() end      { return end{wordOk, textDone} }
func badState() end  { return end{wordBad, "state"} }
func badSet() end    { return end{wordBad, "set"} }
func tryMaking() end { return end{wordNo, "[TRYCREATE] none"} }

// doing is a command that is under way; what it comes to counts when it is over.
type doing struct {
	s    *Session
	c    command.Command
	came *outcome
}

// first is the first step of what is to be done.
func (d *doing) first() act.Step {
	if d.s.at == nil && asksSelected(d.c.Kind) {
		return d.atOnce(badState)
	}
	return kinds()[d.c.Kind](d)
}

// asksSelected: does a kind of commands ask for a box that is selected?
func asksSelected(kind int) bool {
	switch kind {
	case command.Select, command.Noop, command.Append:
		return false
	}
	return true
}

// tell tells lines behind those that were told.
func (d *doing) tell(lines ...reply.Line) {
	d.came.lines = append(d.came.lines, lines...)
}

// over tells how the command ends: no step comes behind that.
func (d *doing) over(e end) act.Step {
	d.tell(reply.Line{Kind: reply.Done, Tag: d.c.Tag, Word: e.word, Text: e.text})
	return nil
}

// markNow makes the memory's time the mark.
func (d *doing) markNow() {
	d.came.mark = d.s.space.Mem().Time()
}

// atOnce is a step without an access, by which all is done.
func (d *doing) atOnce(then func() end) act.Step {
	return func() act.Step {
		d.markNow()
		return d.over(then())
	}
}

// look pins the session anew, and looks at a box's head; all is done by what then makes of that.
func (d *doing) look(box int, then func(tree.Head) end) act.Step {
	space, who := d.s.space, d.s.who
	return act.Run(space.Pin(who), func() act.Step {
		snap := space.Snap(who, box)
		return act.Run(snap.Act, func() act.Step {
			d.came.mark = snap.Mark()
			return d.over(then(snap.Head()))
		})
	})
}

// change changes a box; if that comes off, the command ends as then answers. A session that is not pinned is so just for that.
func (d *doing) change(box int, e edit.Edit, then func(edit.Done) end) act.Step {
	space, who := d.s.space, d.s.who
	return d.pinned(func() act.Step {
		change := space.Change(who, box, e)
		return act.Run(change.Act, func() act.Step {
			last := d.changed(change, then)
			return d.leave(func() act.Step { return d.over(last) })
		})
	})
}

// pinned goes on as soon as the session is pinned.
func (d *doing) pinned(then func() act.Step) act.Step {
	if d.s.space.Pinned(d.s.who) {
		return then()
	}
	return act.Run(d.s.space.Pin(d.s.who), then)
}

// leave goes on as soon as the session is not pinned any more, if it has selected none.
func (d *doing) leave(then func() act.Step) act.Step {
	if d.s.at != nil {
		return then()
	}
	return act.Run(d.s.space.Unpin(d.s.who), then)
}

// changed is how the command ends, when the change is over.
func (d *doing) changed(change *txn.Change, then func(edit.Done) end) end {
	d.came.mark = change.Mark()
	err := change.Err()
	switch err {
	case api.OK:
		return then(change.Done())
	case api.ErrUid:
		return end{wordNo, "uid"}
	}
	d.came.limit = err
	if err == api.ErrFull {
		return end{wordNo, "full"}
	}
	return end{wordNo, "busy"}
}

// drop selects none, and ends the command so.
func (d *doing) drop(last end) act.Step {
	selectNone := d.atOnce(func() end {
		d.s.at = nil
		return last
	})
	if d.s.at == nil {
		return selectNone
	}
	return act.Run(d.s.space.Unpin(d.s.who), selectNone)
}

// sees is a box, as one who looks at its head has selected it.
func (d *doing) sees(box int, head tree.Head) *selected {
	view := tree.Tree{Root: head.Root, Height: head.Height}
	recs := slices.Collect(view.Walk(d.s.space.Arena()))
	return &selected{box: box, list: list.Of(recs...), view: view}
}

// see makes a head's tree the view, and tells what became of the list by that.
func (d *doing) see(head tree.Head) {
	old := d.s.at
	d.s.at = d.sees(old.box, head)
	for _, note := range old.list.Diff(d.s.at.list) {
		d.tell(reply.Of(note))
	}
}

// seeIf makes a head's tree the view, if that is the head of the selected box.
func (d *doing) seeIf(box int, head tree.Head) {
	if d.s.at != nil && d.s.at.box == box {
		d.see(head)
	}
}

// rec is a message as the session knows it: its flags are those of the list, its text is that of the view.
func (d *doing) rec(e list.Entry) tree.Rec {
	rec, _ := d.s.at.view.Get(d.s.space.Arena(), e.Uid)
	rec.Flags = e.Flags
	return rec
}

// box is the box of the command's name, and whether there is one.
func (d *doing) box() (int, bool) {
	box := slices.Index(d.s.names, d.c.Name)
	return box, box >= 0
}

// number is a number's text.
func number(n uint32) string {
	return strconv.FormatUint(uint64(n), 10)
}
