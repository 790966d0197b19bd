package audit_test

import (
	"fmt"
	"math"
	"math/rand"
	"slices"
	"strings"
	"testing"

	"postchaise/act"
	"postchaise/api"
	"postchaise/audit"
	"postchaise/edit"
	"postchaise/flags"
	"postchaise/tree"
	"postchaise/txn"
)

// noNode is the slot that stands for no node.
const noNode = -1

// words are what may be wrong of a box, the first one first.
var words = []string{"box", "shape", "number"}

// newSpace makes a space.
func newSpace(t *testing.T, c txn.Config) *txn.Space {
	t.Helper()
	s, err := txn.New(c)
	if err != api.OK {
		t.Fatalf("P10.1: error %d", err)
	}
	return s
}

// finish steps an act till it is over.
func finish(t *testing.T, a *act.Act) {
	t.Helper()
	act.Rest(100000, a)
	if !a.Over() {
		t.Fatal("R1: an act that does not end")
	}
}

// change changes a box by the session 0, which is pinned just for that.
func change(t *testing.T, s *txn.Space, box int, e edit.Edit) {
	t.Helper()
	finish(t, s.Pin(0))
	c := s.Change(0, box, e)
	finish(t, c.Act)
	finish(t, s.Unpin(0))
	if c.Err() != api.OK {
		t.Fatalf("P10.3: error %d", c.Err())
	}
}

// fill puts so many messages behind in a box.
func fill(t *testing.T, s *txn.Space, box, messages int) {
	t.Helper()
	change(t, s, box, edit.Edit{Kind: edit.Append, Recs: make([]tree.Rec, messages)})
}

// place is where something stands below a head: by which digits one comes there, the highest first, and how many are left.
type place struct {
	slot, left int
	digits     string
}

// below are all places from one on, each branch's ahead of those below it; no more than there are slots, and one: if there are so many, one slot is there twice.
func below(s *txn.Space, p place) []place {
	l := []place{p}
	n, _ := s.Arena().At(p.slot)
	if n.Kind != tree.Branch || p.left == 0 {
		return l
	}
	for digit, kid := range n.Kids {
		if kid != noNode && len(l) <= s.Arena().Len() {
			l = append(l, below(s, place{kid, p.left - 1, fmt.Sprintf("%s%x", p.digits, digit)})...)
		}
	}
	return l
}

// slotsOf are the slots of places.
func slotsOf(l []place) []int {
	var slots []int
	for _, p := range l {
		slots = append(slots, p.slot)
	}
	return slots
}

// placesOf are all places of a head's tree.
func placesOf(s *txn.Space, h tree.Head) []place {
	if h.Height == 0 && h.Root == noNode {
		return nil
	}
	return below(s, place{slot: h.Root, left: h.Height})
}

// headAt is the head that stands in a slot.
func headAt(s *txn.Space, slot int) tree.Head {
	n, _ := s.Arena().At(slot)
	return n.Head
}

// shaped: is each of a head's places as the document has it, other than what was met ahead?
func shaped(s *txn.Space, h tree.Head, ahead []int) bool {
	if h.Height < 0 || h.Height > 8 || h.Height == 0 && h.Root != noNode {
		return false
	}
	l := placesOf(s, h)
	all := slices.Concat(ahead, slotsOf(l))
	slices.Sort(all)
	if len(slices.Compact(slices.Clone(all))) < len(all) {
		return false
	}
	for _, p := range l {
		n, ok := s.Arena().At(p.slot)
		leaves := 0
		for _, q := range l {
			if q.left == 0 && strings.HasPrefix(q.digits, p.digits) {
				leaves++
			}
		}
		branch := n.Kind == tree.Branch && n.Count == leaves && leaves > 0
		if !ok || p.left > 0 && !branch || p.left == 0 && n.Kind != tree.Leaf {
			return false
		}
	}
	return true
}

// numbered: does each message of a head have a number that belongs to its place?
func numbered(s *txn.Space, h tree.Head) bool {
	for _, p := range placesOf(s, h) {
		n, _ := s.Arena().At(p.slot)
		uid := n.Rec.Uid
		if p.left == 0 && (uid == 0 || uid >= h.Next || fmt.Sprintf("%0*x", h.Height, uid) != p.digits) {
			return false
		}
	}
	return true
}

// judged is what a space should come to.
func judged(s *txn.Space) audit.Report {
	r := audit.Report{Slots: s.Arena().Len(), Used: s.Arena().Len() - len(slices.Collect(s.Arena().Free())), Kept: s.Kept(), Box: -1}
	var met []int
	for box, slot := range s.Roots() {
		n, ok := s.Arena().At(slot)
		switch {
		case !ok || n.Kind != tree.Box:
			r.Wrong = "box"
		case slices.Contains(met, slot) || !shaped(s, n.Head, append(met, slot)):
			r.Wrong = "shape"
		case !numbered(s, n.Head):
			r.Wrong = "number"
		}
		if r.Wrong != "" {
			r.Box = box
			return r
		}
		met = append(met, slot)
		met = append(met, slotsOf(placesOf(s, n.Head))...)
	}
	r.Met = len(met)
	return r
}

// hold holds what a space comes to, and that nothing is changed by that.
func hold(t *testing.T, s *txn.Space, want audit.Report) {
	t.Helper()
	time, before := s.Mem().Time(), contents(s)
	if got := audit.Of(s); got != want {
		t.Fatalf("P23.1: the space comes to %+v, not %+v", got, want)
	}
	if s.Mem().Time() != time || !slices.Equal(contents(s), before) {
		t.Fatalf("P23.1: there were %d accesses, or a slot was changed", s.Mem().Time()-time)
	}
}

// holdWrong holds that a space is wrong in a box.
func holdWrong(t *testing.T, s *txn.Space, what, word string, box int) {
	t.Helper()
	if got := audit.Of(s); got.Wrong != word || got.Box != box || got.Met != 0 {
		t.Fatalf("P23.1: %s: %q of the box %d, with %d met, not %q of %d", what, got.Wrong, got.Box, got.Met, word, box)
	}
	hold(t, s, judged(s))
}

// contents are the nodes of all slots.
func contents(s *txn.Space) []tree.Node {
	var l []tree.Node
	for slot := range s.Arena().Len() {
		n, _ := s.Arena().At(slot)
		l = append(l, n)
	}
	return l
}

// TestExample holds the document's example.
func TestExample(t *testing.T) {
	s := newSpace(t, txn.Config{Sessions: 1, Boxes: 1, Slots: 20, Next: 1, Valid: 7})
	hold(t, s, audit.Report{Slots: 20, Used: 1, Met: 1, Box: -1})
	fill(t, s, 0, 1)
	hold(t, s, audit.Report{Slots: 20, Used: 4, Met: 3, Kept: 1, Box: -1})
}

// TestWhole: spaces of any size, with boxes that have any numbers, are whole.
func TestWhole(t *testing.T) {
	for boxes := 1; boxes <= 4; boxes++ {
		s := newSpace(t, txn.Config{Sessions: 1, Boxes: boxes, Slots: boxes, Next: 1, Valid: 7})
		hold(t, s, audit.Report{Slots: boxes, Used: boxes, Met: boxes, Box: -1})
		for _, next := range []uint32{1, 15, 16, 250, 4090, 65530, math.MaxUint32 - 40} {
			s := newSpace(t, txn.Config{Sessions: 1, Boxes: boxes, Slots: 4096, Next: next, Valid: 7})
			for box := range boxes {
				fill(t, s, box, 40-box)
				change(t, s, box, edit.Edit{Kind: edit.Flag, Uids: []uint32{next, next + 1, next + 17}, Flags: flags.Deleted})
				change(t, s, box, edit.Edit{Kind: edit.Expunge})
			}
			if want := judged(s); want.Wrong != "" || want.Used != want.Met+want.Kept {
				t.Fatalf("P23.2: from the number %d on the space comes to %+v", next, want)
			}
			hold(t, s, judged(s))
		}
	}
}

// put puts a node into a slot that is taken for it.
func put(t *testing.T, s *txn.Space, n tree.Node) int {
	t.Helper()
	taking := s.Arena().Take()
	finish(t, taking.Act)
	slot, ok := taking.Slot()
	if !ok {
		t.Fatal("P5.2: no slot is free")
	}
	s.Arena().Put(slot, n)
	return slot
}

// above puts a branch above what stands in a slot.
func above(t *testing.T, s *txn.Space, slot int, digit uint32) int {
	t.Helper()
	n := tree.Node{Kind: tree.Branch, Count: 1}
	for i := range n.Kids {
		n.Kids[i] = noNode
	}
	n.Kids[digit%16] = slot
	return put(t, s, n)
}

// TestHeights: trees of all heights from 0 to 8 may have all numbers that go into them, and no others.
func TestHeights(t *testing.T) {
	for _, uid := range []uint32{0, 1, 15, 16, 0xff, 0x100, 0x12345, 0x7654321, 0x10000000, 0xfffffffe} {
		for height := range 11 {
			s := newSpace(t, txn.Config{Sessions: 1, Boxes: 1, Slots: 20, Next: math.MaxUint32, Valid: 7})
			top := put(t, s, tree.Node{Kind: tree.Leaf, Rec: tree.Rec{Uid: uid, Flags: flags.Seen, Text: "x"}})
			for rank := range height {
				top = above(t, s, top, uint32(uint64(uid)>>(4*rank)))
			}
			s.Arena().Put(0, tree.Node{Kind: tree.Box, Head: tree.Head{Root: top, Height: height, Next: math.MaxUint32}})
			switch what := fmt.Sprintf("%#x in a tree of the height %d", uid, height); {
			case height == 0 || height > 8:
				holdWrong(t, s, what, "shape", 0)
			case uid == 0 || height < tree.Need(uid):
				holdWrong(t, s, what, "number", 0)
			default:
				hold(t, s, audit.Report{Slots: 20, Used: 2 + height, Met: 2 + height, Box: -1})
			}
		}
	}
}

// parts are the slots of a box with 40 messages from 1 on, as it was ahead of all that was spoilt: a head, a root, three branches, and leaves.
type parts struct {
	s                *txn.Space
	box              int
	head, root       int
	branches, leaves []int
}

// partsOf are those of a box.
func partsOf(s *txn.Space, box int) parts {
	p := parts{s: s, box: box, head: s.Roots()[box]}
	p.root = headAt(s, p.head).Root
	for _, at := range placesOf(s, headAt(s, p.head)) {
		switch at.left {
		case 1:
			p.branches = append(p.branches, at.slot)
		case 0:
			p.leaves = append(p.leaves, at.slot)
		}
	}
	return p
}

// alter alters what stands in a slot.
func (p parts) alter(slot int, how func(n *tree.Node)) {
	n, _ := p.s.Arena().At(slot)
	how(&n)
	p.s.Arena().Put(slot, n)
}

// spoiling is a way of spoiling a box, and what is wrong then.
type spoiling struct {
	what, word string
	do         func(p parts)
}

// spoilBox are the ways in which a box's slot has no head.
func spoilBox() []spoiling {
	l := []spoiling{{"no head", "box", func(p parts) { p.s.Arena().Give(p.head) }}}
	for _, kind := range []uint8{0, tree.Branch, tree.Leaf, 4, 255} {
		l = append(l, spoiling{fmt.Sprintf("a head of the kind %d", kind), "box", func(p parts) {
			p.alter(p.head, func(n *tree.Node) { n.Kind = kind })
		}})
	}
	return l
}

// spoilShape are the ways in which a box's tree is not of the right shape.
func spoilShape() []spoiling {
	var l []spoiling
	add := func(what string, slot func(p parts) int, how func(n *tree.Node, p parts)) {
		l = append(l, spoiling{what, "shape", func(p parts) {
			p.alter(slot(p), func(n *tree.Node) { how(n, p) })
		}})
	}
	head := func(p parts) int { return p.head }
	root := func(p parts) int { return p.root }
	branch := func(p parts) int { return p.branches[1] }
	leaf := func(p parts) int { return p.leaves[20] }
	for _, height := range []int{0, 1, 3, 8, 9, -1, math.MaxInt, math.MinInt} {
		add(fmt.Sprintf("the height %d", height), head, func(n *tree.Node, p parts) { n.Head.Height = height })
	}
	slots := map[string]func(p parts) int{
		"-2":         func(p parts) int { return -2 },
		"the least":  func(p parts) int { return math.MinInt },
		"the end":    func(p parts) int { return p.s.Arena().Len() },
		"a great":    func(p parts) int { return math.MaxInt },
		"a free":     func(p parts) int { return p.s.Arena().Len() - 1 },
		"the head's": head,
		"the root's": root,
		"a branch's": func(p parts) int { return p.branches[0] },
		"a leaf's":   func(p parts) int { return p.leaves[0] },
	}
	for what, slot := range slots {
		if what != "the root's" {
			add(what+" slot as the root", head, func(n *tree.Node, p parts) { n.Head.Root = slot(p) })
		}
		add(what+" slot below the root", root, func(n *tree.Node, p parts) { n.Kids[1] = slot(p) })
		add(what+" slot below a branch", branch, func(n *tree.Node, p parts) { n.Kids[15] = slot(p) })
	}
	add("the root -1", head, func(n *tree.Node, p parts) { n.Head.Root = noNode })
	add("one branch less", root, func(n *tree.Node, p parts) { n.Kids[2] = noNode })
	add("one leaf less", branch, func(n *tree.Node, p parts) { n.Kids[0] = noNode })
	add("one branch twice", root, func(n *tree.Node, p parts) { n.Kids[9], n.Count = n.Kids[1], n.Count+16 })
	add("one leaf twice", func(p parts) int { return p.branches[2] }, func(n *tree.Node, p parts) { n.Kids[9] = n.Kids[8] })
	for _, more := range []int{-1, 1, -40, math.MinInt, math.MaxInt} {
		add(fmt.Sprintf("the root's count and %d", more), root, func(n *tree.Node, p parts) { n.Count += more })
		add(fmt.Sprintf("a branch's count and %d", more), branch, func(n *tree.Node, p parts) { n.Count += more })
	}
	for _, kind := range []uint8{0, tree.Leaf, tree.Box, 4} {
		add(fmt.Sprintf("a root of the kind %d", kind), root, func(n *tree.Node, p parts) { n.Kind = kind })
		add(fmt.Sprintf("a branch of the kind %d", kind), branch, func(n *tree.Node, p parts) { n.Kind = kind })
	}
	for _, kind := range []uint8{0, tree.Branch, tree.Box, 4} {
		add(fmt.Sprintf("a leaf of the kind %d", kind), leaf, func(n *tree.Node, p parts) { n.Kind = kind })
	}
	bare := func(n *tree.Node) {
		n.Count = 0
		for i := range n.Kids {
			n.Kids[i] = noNode
		}
	}
	return append(l,
		spoiling{"a leaf that is given back", "shape", func(p parts) { p.s.Arena().Give(leaf(p)) }},
		spoiling{"a root with nothing below", "shape", func(p parts) { p.alter(p.root, bare) }},
		spoiling{"a branch with nothing below", "shape", func(p parts) {
			p.alter(p.branches[2], bare)
			p.alter(p.root, func(n *tree.Node) { n.Count = 31 })
		}})
}

// spoilNumber are the ways in which a box's messages have numbers that can't be.
func spoilNumber() []spoiling {
	var l []spoiling
	for _, uid := range []uint32{0, 20, 22, 37, 255, 256 + 21, 1<<31 + 21} {
		l = append(l, spoiling{fmt.Sprintf("the number %d in place of 21", uid), "number", func(p parts) {
			p.alter(p.leaves[20], func(n *tree.Node) { n.Rec.Uid = uid })
		}})
	}
	for _, next := range []uint32{0, 1, 39, 40} {
		l = append(l, spoiling{fmt.Sprintf("Next %d", next), "number", func(p parts) {
			p.alter(p.head, func(n *tree.Node) { n.Head.Next = next })
		}})
	}
	swap := func(what string, slot func(p parts) int, a, b int) {
		l = append(l, spoiling{what, "number", func(p parts) {
			p.alter(slot(p), func(n *tree.Node) { n.Kids[a], n.Kids[b] = n.Kids[b], n.Kids[a] })
		}})
	}
	swap("two leaves that change places", func(p parts) int { return p.branches[1] }, 3, 9)
	swap("a leaf at a place that had none", func(p parts) int { return p.branches[2] }, 3, 12)
	swap("two branches that change places", func(p parts) int { return p.root }, 0, 1)
	swap("a branch at a place that had none", func(p parts) int { return p.root }, 2, 15)
	return l
}

// filled is a space of three boxes with 40 messages each.
func filled(t *testing.T) *txn.Space {
	t.Helper()
	s := newSpace(t, txn.Config{Sessions: 1, Boxes: 3, Slots: 200, Next: 1, Valid: 7})
	for box := range 3 {
		fill(t, s, box, 40)
	}
	return s
}

// TestSpoilt spoils each box in each way.
func TestSpoilt(t *testing.T) {
	for _, w := range slices.Concat(spoilBox(), spoilShape(), spoilNumber()) {
		for box := range 3 {
			s := filled(t)
			hold(t, s, audit.Report{Slots: 200, Used: 136, Met: 135, Kept: 1, Box: -1})
			w.do(partsOf(s, box))
			holdWrong(t, s, w.what, w.word, box)
		}
	}
}

// TestSpoiltTwice spoils two boxes, or one twice: the first box counts, and of it the first of the words.
func TestSpoiltTwice(t *testing.T) {
	ways := slices.Concat(spoilBox()[:2], spoilShape(), spoilNumber())
	for i, one := range ways {
		for j, other := range ways {
			// Two of one word may put right again what the other one did; so may another shape, but not another number.
			if rank, later := slices.Index(words, one.word), slices.Index(words, other.word); rank < later {
				s, box := filled(t), (i+j)%3
				p := partsOf(s, box)
				one.do(p)
				other.do(p)
				holdWrong(t, s, one.what+", and "+other.what, one.word, box)
			}
			s, first := filled(t), j%2
			ahead, behind := partsOf(s, first), partsOf(s, first+1+i%(2-first))
			other.do(behind)
			one.do(ahead)
			holdWrong(t, s, one.what+", and behind it "+other.what, one.word, first)
		}
	}
}

// TestMetAhead: what a box has may not be met again, by it or by one behind it.
func TestMetAhead(t *testing.T) {
	steal := map[string]func(from, p parts){
		"the head":  func(from, p parts) { p.alter(p.head, func(n *tree.Node) { n.Head = headAt(p.s, from.head) }) },
		"a branch":  func(from, p parts) { p.alter(p.root, func(n *tree.Node) { n.Kids[1] = from.branches[1] }) },
		"a leaf":    func(from, p parts) { p.alter(p.branches[0], func(n *tree.Node) { n.Kids[5] = from.leaves[4] }) },
		"last leaf": func(from, p parts) { p.alter(p.branches[2], func(n *tree.Node) { n.Kids[8] = from.leaves[39] }) },
	}
	for what, do := range steal {
		for from := range 3 {
			for box := range 3 {
				if from != box {
					s := filled(t)
					do(partsOf(s, from), partsOf(s, box))
					holdWrong(t, s, what+" of another box", "shape", max(from, box))
				}
			}
		}
	}
}

// TestSameHead: two boxes whose heads stand in one slot, as somebody gave back the first one's; also if they have no messages.
func TestSameHead(t *testing.T) {
	s := newSpace(t, txn.Config{Sessions: 1, Boxes: 2, Slots: 50, Next: 1, Valid: 7})
	change(t, s, 1, edit.Edit{Recs: []tree.Rec{{Flags: flags.Deleted}}})
	giving, _ := s.Arena().Give(s.Roots()[0])
	holdWrong(t, s, "a head that is being given back", "box", 0)
	finish(t, giving)
	holdWrong(t, s, "a head that was given back", "box", 0)
	// The slot that was given back last is taken first, and an empty box needs no other one.
	change(t, s, 1, edit.Edit{Kind: edit.Expunge})
	if s.Roots()[0] != s.Roots()[1] {
		t.Fatalf("the heads stand in %v", s.Roots())
	}
	holdWrong(t, s, "two empty boxes with one head", "shape", 1)
	leaf := put(t, s, tree.Node{Kind: tree.Leaf, Rec: tree.Rec{Uid: 1}})
	s.Arena().Put(s.Roots()[0], tree.Node{Kind: tree.Box, Head: tree.Head{Root: above(t, s, leaf, 1), Height: 1, Next: 2}})
	holdWrong(t, s, "two boxes with one head", "shape", 1)
}

// anyAlteration alters a node anyhow.
func anyAlteration(r *rand.Rand, n *tree.Node, slots int) {
	slot := r.Intn(slots+3) - 2
	switch r.Intn(12) {
	case 0:
		n.Kind = uint8(r.Intn(5))
	case 1:
		n.Count += r.Intn(3) - 1
	case 2:
		n.Head.Root = slot
	case 3:
		n.Head.Height = r.Intn(4)
	case 4:
		n.Head.Next -= uint32(r.Intn(3))
	case 5, 6:
		n.Rec.Uid += uint32(r.Intn(3)) - 1
	case 7, 8:
		i, j := r.Intn(16), r.Intn(16)
		n.Kids[i], n.Kids[j] = n.Kids[j], n.Kids[i]
	case 9:
		n.Kids[r.Intn(16)] = slot
	case 10:
		n.Kids[r.Intn(16)] = noNode
	case 11:
		n.Rec.Flags, n.Rec.Text, n.Head.Valid, n.Head.Number = flags.Set(r.Intn(99)), "y", r.Uint32(), r.Uint64()
	}
}

// anySpace is a space with any messages.
func anySpace(t *testing.T, r *rand.Rand) *txn.Space {
	t.Helper()
	c := txn.Config{Sessions: 1, Boxes: 1 + r.Intn(4), Slots: 200, Next: 1 + uint32(r.Intn(20)), Valid: 7}
	if r.Intn(4) == 0 {
		c.Next = math.MaxUint32 - uint32(20+r.Intn(20))
	}
	s := newSpace(t, c)
	for range 1 + r.Intn(6) {
		box := r.Intn(c.Boxes)
		switch r.Intn(4) {
		case 0:
			change(t, s, box, edit.Edit{Kind: edit.Flag, Uids: []uint32{c.Next, c.Next + 1, c.Next + uint32(r.Intn(8))}, Flags: flags.Deleted})
		case 1:
			change(t, s, box, edit.Edit{Kind: edit.Expunge})
		default:
			fill(t, s, box, 1+r.Intn(4))
		}
	}
	return s
}

// TestAnySpoilt alters a few nodes of any space anyhow, and holds it against what the document's words ask, one by one.
func TestAnySpoilt(t *testing.T) {
	r := rand.New(rand.NewSource(231))
	came := map[string]int{}
	for range 6000 {
		s := anySpace(t, r)
		for range r.Intn(5) {
			p := partsOf(s, r.Intn(len(s.Roots())))
			all := append(slotsOf(placesOf(s, headAt(s, p.head))), p.head)
			if slot := all[r.Intn(len(all))]; r.Intn(20) == 0 {
				s.Arena().Give(slot)
			} else {
				p.alter(slot, func(n *tree.Node) { anyAlteration(r, n, s.Arena().Len()) })
			}
		}
		want := judged(s)
		hold(t, s, want)
		came[fmt.Sprint(want.Wrong, " ", min(want.Box, 1))]++
	}
	for _, end := range []string{" -1", "box 0", "box 1", "shape 0", "shape 1", "number 0", "number 1"} {
		if came[end] < 100 {
			t.Errorf("%q came %d times: %v", end, came[end], came)
		}
	}
}

// TestReach holds the slots of trees.
func TestReach(t *testing.T) {
	r := rand.New(rand.NewSource(232))
	for range 500 {
		s := anySpace(t, r)
		for _, slot := range s.Roots() {
			h := headAt(s, slot)
			l := tree.Tree{Root: h.Root, Height: h.Height}
			time, want := s.Mem().Time(), slotsOf(placesOf(s, h))
			got := audit.Reach(s, l)
			if !slices.Equal(got, want) || s.Mem().Time() != time {
				t.Fatalf("P23.1: the tree %v reaches %v, not %v", l, got, want)
			}
			for i := range got {
				got[i]++
			}
			if again := audit.Reach(s, l); !slices.Equal(again, want) {
				t.Fatalf("R4: the tree %v reaches %v, not %v", l, again, want)
			}
		}
	}
}

// TestReachOfWrong: of trees that are not right an answer comes all the same.
func TestReachOfWrong(t *testing.T) {
	s := filled(t)
	root := headAt(s, s.Roots()[0]).Root
	n, _ := s.Arena().At(root)
	for i := range n.Kids {
		n.Kids[i] = root
	}
	s.Arena().Put(root, n)
	for _, height := range []int{math.MinInt, -1, 0, 1, 2, 8, 9, math.MaxInt} {
		for _, slot := range []int{math.MinInt, -1, root, s.Roots()[0], 199, 200, math.MaxInt} {
			audit.Reach(s, tree.Tree{Root: slot, Height: height})
		}
	}
	if got := audit.Reach(s, tree.Tree{Root: -1}); len(got) != 0 {
		t.Errorf("P23.1: an empty tree reaches %v", got)
	}
	holdWrong(t, s, "a root that stands below itself", "shape", 0)
}
