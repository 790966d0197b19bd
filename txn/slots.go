package txn

import "postchaise/act"

// take takes slots behind those that it has, one by one, till it has as many as are wanted, or one is refused; then goes on with what it has.
func (s *Space) take(has []int, want int, then func(slots []int) act.Step) act.Step {
	if len(has) == want {
		return then(has)
	}
	taking := s.arena.Take()
	return act.Run(taking.Act, func() act.Step {
		slot, ok := taking.Slot()
		if !ok {
			return then(has)
		}
		return s.take(append(has, slot), want, then)
	})
}

// give gives slots back that nobody else ever reached, the last one first: so the free ones stand in their row as they did.
func (s *Space) give(slots []int, then func() act.Step) act.Step {
	if len(slots) == 0 {
		return then()
	}
	last := len(slots) - 1
	return s.giveOne(slots[last], func() act.Step { return s.give(slots[:last], then) })
}

// giveOne gives a slot back.
func (s *Space) giveOne(slot int, then func() act.Step) act.Step {
	// Of a slot that can't be given back there is no act, which is over: then comes at once.
	giving, _ := s.arena.Give(slot)
	return act.Run(giving, then)
}

// keep keeps slots that a session took away, with the epoch as it is now.
func (s *Space) keep(who int, slots ...int) {
	s.limbos[who].Add(s.epoch.Now(), slots...)
	s.kept += len(slots)
}

// Collect is an act by which what is ready is given back.
func (s *Space) Collect(who int) *act.Act {
	if who < 0 || who >= len(s.limbos) {
		return nil
	}
	return act.New(s.collect(who))
}

// collect tries to advance the epoch, and gives back what is ready then.
func (s *Space) collect(who int) act.Step {
	return act.Run(s.epoch.Advance().Act, func() act.Step {
		return s.giveKept(s.limbos[who].Ready(s.epoch.Now()))
	})
}

// giveKept gives slots back that were kept, one by one; each is kept till then.
func (s *Space) giveKept(ready []int) act.Step {
	if len(ready) == 0 {
		return nil
	}
	return s.giveOne(ready[0], func() act.Step {
		s.kept--
		return s.giveKept(ready[1:])
	})
}
