package version

import (
	"iter"

	"postchaise/tree"
)

// none is the number of no node. Those from 0 on are slots of the store, those below are new nodes.
const none = -1

// digitBits is how many bits a digit of a message's number has.
const digitBits = 4

// other is the number by which a plan speaks of a new node, and likewise the new node of such a number.
func other(n int) int {
	return none - 1 - n
}

// noKids is what stands below a branch that has nothing.
func noKids() [16]int {
	var kids [16]int
	for digit := range kids {
		kids[digit] = none
	}
	return kids
}

// maker makes the new nodes of a plan, and notes which slots are gone.
type maker struct {
	s     tree.Store
	nodes []tree.Node
	gone  []int
}

// add adds a new node: its number.
func (m *maker) add(n tree.Node) int {
	m.nodes = append(m.nodes, n)
	return other(len(m.nodes) - 1)
}

// branch is what comes of a branch of a rank with those kids, below which the messages of some numbers, that rise, are changed: what stands at the place of each is told by leaf.
func (m *maker) branch(kids [16]int, rank int, uids []uint32, leaf func(uid uint32) int) int {
	for digit, part := range parts(uids, rank) {
		below := m.leave(kids[digit])
		if rank == 0 {
			kids[digit] = leaf(part[0])
		} else {
			kids[digit] = m.branch(below, rank-1, part, leaf)
		}
	}
	count := 0
	for _, kid := range kids {
		count += m.count(kid)
	}
	if count == 0 {
		return none
	}
	return m.add(tree.Node{Kind: tree.Branch, Count: count, Kids: kids})
}

// parts is a walk through the digits by which numbers go down from a branch of a rank, each with those that do.
func parts(uids []uint32, rank int) iter.Seq2[int, []uint32] {
	digit := func(i int) int { return int(uids[i] >> (digitBits * rank) & (1<<digitBits - 1)) }
	return func(yield func(int, []uint32) bool) {
		first := 0
		for i := range uids {
			if i+1 < len(uids) && digit(i+1) == digit(first) {
				continue
			}
			if !yield(digit(first), uids[first:i+1]) {
				return
			}
			first = i + 1
		}
	}
}

// leave notes that a node of the first tree, if it is one, is gone: what stands below it.
func (m *maker) leave(number int) [16]int {
	n, ok := m.node(number)
	if !ok {
		return noKids()
	}
	m.gone = append(m.gone, number)
	if n.Kind != tree.Branch {
		return noKids()
	}
	return n.Kids
}

// node is the node of a number, which tells by its sign where it stands.
func (m *maker) node(number int) (tree.Node, bool) {
	if number >= 0 {
		return m.s.At(number)
	}
	if n := other(number); 0 <= n && n < len(m.nodes) {
		return m.nodes[n], true
	}
	return tree.Node{}, false
}

// count is how many messages the node of a number is, or has below it.
func (m *maker) count(number int) int {
	n, ok := m.node(number)
	switch {
	case !ok:
		return 0
	case n.Kind == tree.Leaf:
		return 1
	}
	return n.Count
}
