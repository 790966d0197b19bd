package epoch

// grace is by how much the epoch must be greater than that at which a slot was taken away.
const grace = 2

// leaver is a slot that was taken away at an epoch.
type leaver struct {
	epoch uint64
	slot  int
}

// Limbo keeps slots that were taken away, each with an epoch; a zero one is empty.
type Limbo struct {
	kept []leaver
}

// Add keeps slots, behind all others.
func (l *Limbo) Add(epoch uint64, slots ...int) {
	for _, slot := range slots {
		l.kept = append(l.kept, leaver{epoch: epoch, slot: slot})
	}
}

// Ready hands out the slots that may be given back, in the order in which they were added, and keeps them no more.
func (l *Limbo) Ready(epoch uint64) []int {
	var ready []int
	var kept []leaver
	for _, v := range l.kept {
		// Told by a difference, for the sum of a great epoch and 2 wraps round.
		if epoch >= v.epoch && epoch-v.epoch >= grace {
			ready = append(ready, v.slot)
		} else {
			kept = append(kept, v)
		}
	}
	l.kept = kept
	return ready
}

// Len is how many slots are kept.
func (l *Limbo) Len() int {
	return len(l.kept)
}
