package edit_test

import (
	"maps"
	"math"
	"math/rand"
	"slices"
	"testing"

	"postchaise/api"
	"postchaise/edit"
	"postchaise/flags"
	"postchaise/tree"
	"postchaise/version"
)

// most is the greatest number.
const most = math.MaxUint32

// shelf is a store. Where nothing stands it tells something all the same, with a false.
type shelf map[int]tree.Node

func (s shelf) At(slot int) (tree.Node, bool) {
	n, ok := s[slot]
	if !ok {
		return tree.Node{Kind: tree.Branch, Count: 9, Rec: tree.Rec{Uid: 77, Flags: flags.Deleted}}, false
	}
	return n, true
}

// box is a box, and what it should have.
type box struct {
	s    shelf
	head tree.Head
	has  map[uint32]tree.Rec
	next int // new nodes stand from that slot on
}

// newBox is an empty box.
func newBox(next uint32) *box {
	return &box{s: shelf{}, head: tree.Head{Root: -1, Next: next, Valid: 7, Number: 3}, has: map[uint32]tree.Rec{}}
}

// boxOf is a box with messages that have these flags, one behind the other.
func boxOf(t *testing.T, next uint32, sets ...flags.Set) *box {
	t.Helper()
	b := newBox(next)
	var recs []tree.Rec
	for i, set := range sets {
		recs = append(recs, rec(0, set, string(rune('a'+i))))
	}
	b.do(t, edit.Edit{Kind: edit.Append, Recs: recs})
	return b
}

// rec is a message.
func rec(uid uint32, set flags.Set, text string) tree.Rec {
	return tree.Rec{Uid: uid, Flags: set, Text: text}
}

// recs are messages in the order of their numbers.
func recs(m map[uint32]tree.Rec) []tree.Rec {
	var l []tree.Rec
	for _, uid := range slices.Sorted(maps.Keys(m)) {
		l = append(l, m[uid])
	}
	return l
}

// treeOf is a head's tree.
func treeOf(h tree.Head) tree.Tree {
	return tree.Tree{Root: h.Root, Height: h.Height}
}

// slotsOf are the slots of a tree.
func slotsOf(s shelf, x tree.Tree) map[int]bool {
	slots := map[int]bool{}
	for slot := range x.Slots(s) {
		slots[slot] = true
	}
	return slots
}

// want is what a box should have behind an edit, and how that should be told.
func (b *box) want(e edit.Edit) (has map[uint32]tree.Rec, told []tree.Rec, next uint32) {
	has, next = maps.Clone(b.has), b.head.Next
	switch e.Kind {
	case edit.Append:
		for _, r := range e.Recs {
			r.Uid = next
			has[next] = r
			told = append(told, r)
			next++
		}
	case edit.Flag:
		for _, r := range recs(b.has) {
			if slices.Contains(e.Uids, r.Uid) {
				r.Flags = r.Flags.Change(e.How, e.Flags)
				has[r.Uid] = r
				told = append(told, r)
			}
		}
	case edit.Expunge:
		for _, r := range recs(b.has) {
			if r.Flags&flags.Deleted != 0 {
				delete(has, r.Uid)
				told = append(told, r)
			}
		}
	}
	return has, told, next
}

// look applies an edit, and holds what it tells against what it should: the store with the new nodes, and the head.
func (b *box) look(t *testing.T, e edit.Edit) (shelf, edit.Done, tree.Head) {
	t.Helper()
	has, told, next := b.want(e)
	p, done, err := edit.Apply(b.s, b.head, e)
	if err != api.OK {
		t.Fatalf("P9.1: %v: error %d", e, err)
	}
	head := b.head
	head.Next = next
	changed := !maps.Equal(has, b.has)
	if changed {
		head.Number++
	}
	if done.Head != head || done.Changed != changed || !slices.Equal(done.Recs, told) {
		t.Fatalf("P9.1: %v: done %v, want %v, %v, %v", e, done, head, told, changed)
	}
	if !changed && (len(p.Nodes) > 0 || len(p.Gone) > 0) {
		t.Fatalf("P9.1: %v: nothing is changed, and the plan is %v", e, p)
	}
	s, now := b.fill(t, p, done)
	if got := slices.Collect(treeOf(now).Walk(s)); !slices.Equal(got, recs(has)) {
		t.Fatalf("P9.1: %v: the box has %v, want %v", e, got, recs(has))
	}
	if got := slices.Collect(treeOf(b.head).Walk(s)); !slices.Equal(got, recs(b.has)) {
		t.Fatalf("P9.1: %v: the first tree has %v, want %v", e, got, recs(b.has))
	}
	left := slotsOf(s, treeOf(b.head))
	maps.DeleteFunc(left, func(slot int, _ bool) bool { return slotsOf(s, treeOf(now))[slot] })
	if !slices.Equal(p.Gone, slices.Sorted(maps.Keys(left))) {
		t.Fatalf("P9.1: %v: gone are %v, want %v", e, p.Gone, left)
	}
	return s, done, now
}

// fill puts new nodes into free slots, and holds what At tells against layer 8's Fill.
func (b *box) fill(t *testing.T, p version.Plan, done edit.Done) (shelf, tree.Head) {
	t.Helper()
	var slots []int
	for i := range p.Nodes {
		slots = append(slots, b.next+i)
	}
	nodes, head := done.At(p, slots)
	want, x := p.Fill(slots)
	wantHead := done.Head
	wantHead.Root, wantHead.Height = x.Root, x.Height
	if !slices.Equal(nodes, want) || head != wantHead {
		t.Fatalf("P9.2: At: %v, %v, want %v, %v", nodes, head, want, wantHead)
	}
	s := maps.Clone(b.s)
	for i, n := range nodes {
		s[slots[i]] = n
	}
	return s, head
}

// do applies an edit, and goes on with what the box has then.
func (b *box) do(t *testing.T, e edit.Edit) edit.Done {
	t.Helper()
	s, done, head := b.look(t, e)
	b.has, _, _ = b.want(e)
	b.next += len(s) - len(b.s)
	b.s, b.head = s, head
	return done
}

func TestExamples(t *testing.T) {
	b := newBox(5)
	done := b.do(t, edit.Edit{Kind: edit.Append, Recs: []tree.Rec{rec(90, flags.Seen, "x"), rec(90, 0, "")}})
	if want := []tree.Rec{rec(5, flags.Seen, "x"), rec(6, 0, "")}; !slices.Equal(done.Recs, want) || b.head.Next != 7 || !done.Changed || b.head.Number != 4 || b.head.Valid != 7 {
		t.Errorf("P9.1: %v", done)
	}
	if done.Head.Root != -1 || done.Head.Height != 0 {
		t.Errorf("P9.1: the head has the root %d and the height %d, want those that it had", done.Head.Root, done.Head.Height)
	}
	p, done, err := edit.Apply(shelf{}, tree.Head{Root: -1, Next: most}, edit.Edit{Recs: []tree.Rec{rec(1, 0, "x")}})
	checkError(t, "P9.1: Next 2^32 - 1", p, done, err, api.ErrUid)
}

// checkError holds an error, and what stands beside it, against what should.
func checkError(t *testing.T, what string, p version.Plan, done edit.Done, err, want api.Errno) {
	t.Helper()
	if err != want || len(p.Nodes) != 0 || p.Root != 0 || p.Height != 0 || len(p.Gone) != 0 {
		t.Errorf("%s: error %d, want %d; %v", what, err, want, p)
	}
	if done.Head != (tree.Head{}) || len(done.Recs) != 0 || done.Changed {
		t.Errorf("%s: beside the error %v", what, done)
	}
}

func TestNoSuchKind(t *testing.T) {
	b := boxOf(t, 1, flags.Deleted, 0)
	for _, kind := range []int{-1, 3, 4, 256, math.MinInt, math.MaxInt} {
		p, done, err := edit.Apply(b.s, b.head, edit.Edit{Kind: kind, Recs: []tree.Rec{{}}, Uids: []uint32{1}})
		checkError(t, "P9.1: no such kind", p, done, err, api.ErrArg)
		full := b.head
		full.Next = most
		p, done, err = edit.Apply(b.s, full, edit.Edit{Kind: kind, Recs: []tree.Rec{{}}})
		checkError(t, "R2: no such kind, and no number", p, done, err, api.ErrArg)
	}
}

// TestNumbersAtTheEnd: Next may come to 2^32 - 1, and not to more.
func TestNumbersAtTheEnd(t *testing.T) {
	for _, c := range []struct {
		next  uint32
		count int
		err   api.Errno
	}{
		{most, 0, api.OK}, {most, 1, api.ErrUid}, {most, 2, api.ErrUid},
		{most - 1, 1, api.OK}, {most - 1, 2, api.ErrUid}, {most - 1, 3, api.ErrUid},
		{most - 3, 3, api.OK}, {most - 3, 4, api.ErrUid}, {most - 3, 9, api.ErrUid},
		{1, 20, api.OK},
	} {
		b := newBox(c.next)
		e := edit.Edit{Kind: edit.Append, Recs: make([]tree.Rec, c.count)}
		if c.err == api.OK {
			if b.do(t, e); b.head.Next != c.next+uint32(c.count) {
				t.Errorf("P9.1: %d messages from %d on: Next %d", c.count, c.next, b.head.Next)
			}
			continue
		}
		p, done, err := edit.Apply(b.s, b.head, e)
		checkError(t, "P9.1: no number is left", p, done, err, c.err)
		for kind := edit.Flag; kind <= edit.Expunge; kind++ {
			if _, _, err := edit.Apply(b.s, b.head, edit.Edit{Kind: kind, Recs: e.Recs, Uids: []uint32{1}}); err != api.OK {
				t.Errorf("P9.1: the kind %d takes no number: error %d", kind, err)
			}
		}
	}
}

func TestAppend(t *testing.T) {
	b := newBox(15)
	b.do(t, edit.Edit{Kind: edit.Append})
	b.do(t, edit.Edit{Kind: edit.Append, Recs: []tree.Rec{}})
	if b.head.Number != 3 || b.head.Next != 15 {
		t.Errorf("P9.1: none is put behind: %v", b.head)
	}
	b.do(t, edit.Edit{Kind: edit.Append, Recs: []tree.Rec{rec(15, 31, "one"), rec(15, 31, "one"), rec(most, flags.Deleted, ""), {}}})
	b.do(t, edit.Edit{Kind: edit.Append, Recs: []tree.Rec{rec(1, 0, "\x00\n")}, Uids: []uint32{15}, How: 0, Flags: flags.Draft})
	if b.head.Number != 5 || b.head.Next != 20 {
		t.Errorf("P9.1: %v", b.head)
	}
}

func TestFlag(t *testing.T) {
	for how := -2; how < 5; how++ {
		for _, set := range []flags.Set{0, flags.Seen, flags.Seen | flags.Deleted, 31, 32, 255} {
			b := boxOf(t, 1, 0, flags.Seen, 31, flags.Deleted, flags.Draft)
			b.do(t, edit.Edit{Kind: edit.Flag, How: how, Flags: set, Uids: []uint32{4, 1, 4, 0, 3, 900, most, 1, 6}})
			b.do(t, edit.Edit{Kind: edit.Flag, How: how, Flags: set, Uids: []uint32{4, 2}, Recs: []tree.Rec{rec(1, 1, "no")}})
			b.do(t, edit.Edit{Kind: edit.Flag, How: how, Flags: set})
			b.do(t, edit.Edit{Kind: edit.Flag, How: how, Flags: set, Uids: []uint32{6, 7, 0}})
		}
	}
}

// TestFlagsToldOnce: also of messages whose flags stay as they are.
func TestFlagsToldOnce(t *testing.T) {
	b := boxOf(t, 1, flags.Seen, 0, flags.Seen)
	number := b.head.Number
	done := b.do(t, edit.Edit{Kind: edit.Flag, How: 1, Flags: flags.Seen, Uids: []uint32{3, 1, 3}})
	if want := []tree.Rec{rec(1, flags.Seen, "a"), rec(3, flags.Seen, "c")}; !slices.Equal(done.Recs, want) || done.Changed || b.head.Number != number {
		t.Errorf("P9.1: %v, want %v, which are not changed", done, want)
	}
	done = b.do(t, edit.Edit{Kind: edit.Flag, How: 1, Flags: flags.Seen, Uids: []uint32{3, 2, 3, 2}})
	if want := []tree.Rec{rec(2, flags.Seen, "b"), rec(3, flags.Seen, "c")}; !slices.Equal(done.Recs, want) || !done.Changed || b.head.Number != number+1 {
		t.Errorf("P9.1: %v, want %v, of which one is changed", done, want)
	}
}

func TestExpunge(t *testing.T) {
	b := boxOf(t, 10, flags.Deleted, 0, flags.Deleted|flags.Seen, 31&^flags.Deleted, 31)
	done := b.do(t, edit.Edit{Kind: edit.Expunge, Uids: []uint32{11}, Recs: []tree.Rec{rec(11, 4, "no")}, How: 1, Flags: flags.Deleted})
	if want := []tree.Rec{rec(10, flags.Deleted, "a"), rec(12, flags.Deleted|flags.Seen, "c"), rec(14, 31, "e")}; !slices.Equal(done.Recs, want) || b.head.Next != 15 {
		t.Errorf("P9.1: %v, want %v", done, want)
	}
	if done := b.do(t, edit.Edit{Kind: edit.Expunge}); done.Changed || len(done.Recs) != 0 {
		t.Errorf("P9.1: none has the flag: %v", done)
	}
	b.do(t, edit.Edit{Kind: edit.Flag, How: 0, Flags: flags.Deleted, Uids: []uint32{11, 13}})
	if b.do(t, edit.Edit{Kind: edit.Expunge}); b.head.Root != -1 || b.head.Height != 0 || b.head.Next != 15 {
		t.Errorf("P9.1: none is left: %v", b.head)
	}
	b.do(t, edit.Edit{Kind: edit.Expunge})
}

// TestFlagsPutAndTakenAway: they are as they were.
func TestFlagsPutAndTakenAway(t *testing.T) {
	for had := range flags.Set(32) {
		for set := range flags.Set(32) {
			b := boxOf(t, 1, had, 0)
			b.do(t, edit.Edit{Kind: edit.Flag, How: 1, Flags: set, Uids: []uint32{1}})
			b.do(t, edit.Edit{Kind: edit.Flag, How: 2, Flags: set, Uids: []uint32{1}})
			if got, ok := treeOf(b.head).Get(b.s, 1); had&set == 0 && (!ok || got != rec(1, had, "a")) {
				t.Fatalf("P9.3: of %v, %v put and taken away: %v", had, set, got)
			}
		}
	}
}

func TestAt(t *testing.T) {
	b := boxOf(t, 1, 0, 0)
	p, done, _ := edit.Apply(b.s, b.head, edit.Edit{Kind: edit.Append, Recs: []tree.Rec{rec(0, 0, "x"), rec(0, 0, "y")}})
	if len(p.Nodes) != 3 {
		t.Fatalf("P9.1: %d new nodes, want 3", len(p.Nodes))
	}
	slots := []int{70, 50, 60, 99}
	nodes, head := done.At(p, slots)
	want := tree.Head{Root: 60, Height: 1, Next: 5, Valid: 7, Number: 5}
	if len(nodes) != 3 || head != want || nodes[2].Kids[3] != 70 || nodes[2].Kids[4] != 50 {
		t.Errorf("P9.2: %v, %v, want %v", nodes, head, want)
	}
	if !slices.Equal(slots, []int{70, 50, 60, 99}) || p.Nodes[2].Kids[3] != -2 {
		t.Error("R4: what was handed in is changed")
	}
	want.Root, want.Height = -1, 0
	for n := range 3 {
		if nodes, head := done.At(p, slots[:n]); len(nodes) != 0 || head != want {
			t.Errorf("P9.2: of %d slots: %v, %v, want %v", n, nodes, head, want)
		}
	}
	if nodes, head := (edit.Done{}).At(version.Plan{Root: 4, Height: 2}, nil); len(nodes) != 0 || head != (tree.Head{Root: 4, Height: 2}) {
		t.Errorf("P9.2: of a done that is nothing: %v, %v", nodes, head)
	}
}

// TestSharesNothing: neither with what was handed in, nor with another answer.
func TestSharesNothing(t *testing.T) {
	b := boxOf(t, 1, 0, flags.Seen, flags.Deleted)
	before := maps.Clone(b.s)
	for _, e := range []edit.Edit{
		{Kind: edit.Append, Recs: []tree.Rec{rec(9, 1, "x"), rec(9, 2, "y")}},
		{Kind: edit.Flag, How: 1, Flags: 1, Uids: []uint32{3, 1, 2, 3}},
		{Kind: edit.Expunge},
	} {
		recs, uids := slices.Clone(e.Recs), slices.Clone(e.Uids)
		p, done, _ := edit.Apply(b.s, b.head, e)
		q, again, _ := edit.Apply(b.s, b.head, e)
		for i := range done.Recs {
			done.Recs[i] = tree.Rec{Text: "other"}
		}
		_ = append(done.Recs[:0], tree.Rec{Text: "other"})
		clear(p.Nodes)
		clear(p.Gone)
		if !slices.Equal(e.Recs, recs) || !slices.Equal(e.Uids, uids) || !maps.Equal(b.s, before) {
			t.Errorf("R4: what was handed in is changed: %v", e)
		}
		if slices.Equal(done.Recs, again.Recs) || slices.Equal(p.Nodes, q.Nodes) && len(p.Nodes) > 0 {
			t.Errorf("R4: two answers share memory: %v", e)
		}
		b.look(t, e)
	}
}

// TestAllSmallEdits: all boxes of some messages, and all edits of these.
func TestAllSmallEdits(t *testing.T) {
	sets := []flags.Set{0, flags.Seen, flags.Deleted, flags.Seen | flags.Deleted}
	for first := range 1 << 6 {
		b := boxOf(t, 15, sets[first&3], sets[first>>2&3], sets[first>>4])
		b.look(t, edit.Edit{Kind: edit.Expunge})
		b.look(t, edit.Edit{Kind: edit.Append, Recs: []tree.Rec{{}}})
		for which := range 1 << 4 {
			var uids []uint32
			for i := range 4 {
				if which>>i&1 == 1 {
					uids = append(uids, uint32(18-i))
				}
			}
			for how := range 4 {
				for _, set := range sets {
					b.look(t, edit.Edit{Kind: edit.Flag, How: how, Flags: set, Uids: uids})
				}
			}
		}
	}
}

// anyEdit is any edit of a box.
func (b *box) anyEdit(r *rand.Rand) edit.Edit {
	e := edit.Edit{Kind: r.Intn(3), How: r.Intn(4), Flags: flags.Set(r.Intn(32))}
	for range r.Intn(6) {
		e.Recs = append(e.Recs, rec(r.Uint32(), flags.Set(r.Intn(32))&^flags.Set(r.Intn(8)), string(rune('a'+r.Intn(3)))))
		e.Uids = append(e.Uids, b.head.Next-uint32(r.Intn(20))+2)
	}
	return e
}

// TestAnyEdits: one behind the other; each number is above all that were given out.
func TestAnyEdits(t *testing.T) {
	r := rand.New(rand.NewSource(20))
	for range 200 {
		b := newBox(1 + r.Uint32()>>(1+r.Intn(31)))
		given := b.head.Next - 1
		for range 40 {
			e := b.anyEdit(r)
			if uint64(b.head.Next)+uint64(len(e.Recs)) > most {
				continue
			}
			done := b.do(t, e)
			if e.Kind != edit.Append {
				continue
			}
			for _, rec := range done.Recs {
				if rec.Uid <= given {
					t.Fatalf("P9.3: the number %d behind %d", rec.Uid, given)
				}
				given = rec.Uid
			}
		}
	}
}

// ring is a store in each slot of which the same node stands.
type ring struct{ n tree.Node }

func (r ring) At(int) (tree.Node, bool) { return r.n, true }

// TestHeadsThatCantBe: nothing is promised of boxes whose trees are not right but that each call ends.
func TestHeadsThatCantBe(t *testing.T) {
	far := tree.Node{Kind: tree.Branch, Count: 3}
	for i := range far.Kids {
		far.Kids[i] = []int{math.MinInt, -2, math.MaxInt, 5}[i%4]
	}
	stores := []tree.Store{
		nil, shelf{}, shelf{0: far, 5: {Kind: tree.Leaf, Rec: rec(9, flags.Deleted, "x")}}, ring{far}, ring{}, ring{tree.Node{Kind: tree.Branch}},
		ring{tree.Node{Kind: tree.Leaf, Rec: rec(4, flags.Deleted, "x")}}, ring{tree.Node{Kind: tree.Box}},
	}
	for _, s := range stores {
		for _, height := range []int{math.MinInt, -1, 0, 1, 2, 8, 9, math.MaxInt} {
			for _, root := range []int{math.MinInt, -1, 0, 5, math.MaxInt} {
				for _, next := range []uint32{0, 1, most - 5} {
					for kind := -1; kind < 4; kind++ {
						h := tree.Head{Root: root, Height: height, Next: next, Number: math.MaxUint64}
						e := edit.Edit{Kind: kind, Recs: []tree.Rec{{}, {Text: "x"}}, Uids: []uint32{0, 1, 4, 9, most}, How: 1, Flags: 255}
						p, done, _ := edit.Apply(s, h, e)
						done.At(p, nil)
						done.At(p, make([]int, 100))
					}
				}
			}
		}
	}
}
