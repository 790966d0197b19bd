package txn

import (
	"slices"

	"postchaise/act"
	"postchaise/api"
	"postchaise/edit"
	"postchaise/mem"
	"postchaise/version"
)

// Change is an act by which a box is changed.
type Change struct {
	*act.Act
	came outcome
}

// outcome is what came of a change.
type outcome struct {
	err   api.Errno
	done  edit.Done
	slot  int
	mark  uint64
	fails int
}

// changing is a change that is under way; what it comes to counts when it is over.
type changing struct {
	s        *Space
	who, box int
	e        edit.Edit
	came     *outcome
}

// Change is an act by which a box is changed.
func (s *Space) Change(who, box int, e edit.Edit) *Change {
	if !s.reaches(who, box) {
		return nil
	}
	e.Recs, e.Uids = slices.Clone(e.Recs), slices.Clone(e.Uids)
	c := &Change{}
	g := &changing{s: s, who: who, box: box, e: e, came: &c.came}
	c.Act = act.New(func() act.Step { return g.try() })
	return c
}

// try loads the box's word, and applies the edit to what the box has; what comes next takes the slots that this needs.
func (g *changing) try() act.Step {
	word := g.s.mem.Load(g.s.word(g.box))
	slot := mem.Place(word)
	g.came.mark = g.s.mem.Time()
	plan, done, err := edit.Apply(g.s.arena, g.s.headAt(slot), g.e)
	if err != api.OK {
		return g.fail(err)
	}
	if !done.Changed {
		g.came.done, g.came.slot = done, slot
		return nil
	}
	want := len(plan.Nodes) + 1
	return g.s.take(nil, want, func(slots []int) act.Step {
		if len(slots) < want {
			return g.s.give(slots, func() act.Step { return g.fail(api.ErrFull) })
		}
		done = g.put(plan, done, slots)
		return func() act.Step { return g.swap(word, plan.Gone, slots, done) }
	})
}

// put puts the new nodes into slots, and the head into the last one: what is done, with that head.
func (g *changing) put(plan version.Plan, done edit.Done, slots []int) edit.Done {
	nodes, head := done.At(plan, slots)
	for i, n := range nodes {
		g.s.arena.Put(slots[i], n)
	}
	g.s.putHead(slots[len(nodes)], head)
	done.Head = head
	return done
}

// swap makes the last slot the box's head, if nobody changed the box since its word was loaded. The tag tells whether: the same slot may have been given back meanwhile, and be the head again.
func (g *changing) swap(word uint64, gone, slots []int, done edit.Done) act.Step {
	slot := slots[len(slots)-1]
	if !g.s.mem.Cas(g.s.word(g.box), word, mem.Pack(slot, mem.Tag(word)+1)) {
		g.came.fails++
		return g.s.give(slots, g.again)
	}
	g.came.done, g.came.slot, g.came.mark = done, slot, g.s.mem.Time()
	g.s.roots[g.box] = slot
	g.s.keep(g.who, append(gone, mem.Place(word))...)
	return g.s.collect(g.who)
}

// again begins anew, if it was not tried too often.
func (g *changing) again() act.Step {
	if g.came.fails == api.MaxRetry {
		return g.fail(api.ErrBusy)
	}
	return func() act.Step { return g.try() }
}

// fail ends a change that did not come off.
func (g *changing) fail(err api.Errno) act.Step {
	g.came.err = err
	return nil
}

// told is what came of a change; nothing as long as it is not over.
func (c *Change) told() outcome {
	if !c.Over() {
		return outcome{}
	}
	return c.came
}

// Err is why it did not come off.
func (c *Change) Err() api.Errno { return c.told().err }

// Done is what is done.
func (c *Change) Done() edit.Done {
	done := c.told().done
	done.Recs = slices.Clone(done.Recs)
	return done
}

// Slot is the head's.
func (c *Change) Slot() int { return c.told().slot }

// Mark is the time behind the access by which it took effect.
func (c *Change) Mark() uint64 { return c.told().mark }

// Fails is how often the swap failed.
func (c *Change) Fails() int { return c.told().fails }
