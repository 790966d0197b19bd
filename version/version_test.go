package version_test

import (
	"maps"
	"math"
	"math/rand"
	"reflect"
	"slices"
	"testing"

	"postchaise/flags"
	"postchaise/tree"
	"postchaise/version"
)

// most is the greatest number.
const most = math.MaxUint32

// shelf is a store. Where nothing stands it tells something all the same, with a false.
type shelf map[int]tree.Node

func (s shelf) At(slot int) (tree.Node, bool) {
	n, ok := s[slot]
	if !ok {
		return tree.Node{Kind: tree.Branch, Count: 9, Rec: tree.Rec{Uid: 77, Text: "not there"}}, false
	}
	return n, true
}

// messages are messages by their numbers: what a draft should have.
type messages map[uint32]tree.Rec

// recs are they in the order of their numbers.
func (m messages) recs() []tree.Rec {
	var recs []tree.Rec
	for _, uid := range slices.Sorted(maps.Keys(m)) {
		recs = append(recs, m[uid])
	}
	return recs
}

// rec is a message.
func rec(uid uint32, text string) tree.Rec {
	return tree.Rec{Uid: uid, Flags: flags.Seen, Text: text}
}

// room is how many numbers a tree of a height can have.
func room(height int) uint64 {
	n := uint64(1)
	for range height {
		n *= 16
	}
	return n
}

// level is how great a height a number needs, from 1 on, told without the packages.
func level(uid uint32) int {
	h := 1
	for uint64(uid) >= room(h) {
		h++
	}
	return h
}

// looker goes through a tree, and holds it against what a right one is.
type looker struct {
	t   *testing.T
	s   shelf
	met map[int]bool
}

// leaves is how many leaves stand below a node of a rank (-1: a leaf), whose messages have numbers from low on.
func (l looker) leaves(slot, rank int, low uint64) int {
	l.t.Helper()
	n, ok := l.s[slot]
	if !ok || l.met[slot] {
		l.t.Fatalf("P8.2: the slot %d: there %v, met %v", slot, ok, l.met[slot])
	}
	l.met[slot] = true
	if rank < 0 {
		if want := (tree.Node{Kind: tree.Leaf, Rec: n.Rec}); n != want || uint64(n.Rec.Uid) != low {
			l.t.Fatalf("P8.2: the slot %d: %v, want a leaf with the number %d", slot, n, low)
		}
		return 1
	}
	sum := 0
	for digit, kid := range n.Kids {
		if kid != -1 {
			sum += l.leaves(kid, rank-1, low+uint64(digit)*room(rank))
		}
	}
	if want := (tree.Node{Kind: tree.Branch, Count: sum, Kids: n.Kids}); n != want || sum == 0 {
		l.t.Fatalf("P8.2: the slot %d: %v, want a branch with %d below", slot, n, sum)
	}
	return sum
}

// slotsOf are the slots of a tree, which must be right.
func slotsOf(t *testing.T, s shelf, x tree.Tree) map[int]bool {
	t.Helper()
	l := looker{t, s, map[int]bool{}}
	switch {
	case x.Height == 0 && x.Root == -1:
	case x.Height < 1 || x.Height > 8:
		t.Fatalf("P8.2: a tree of the height %d with the root %d", x.Height, x.Root)
	default:
		l.leaves(x.Root, x.Height-1, 0)
	}
	return l.met
}

// world is a store with a tree, a draft of it, and what it should have.
type world struct {
	s            shelf
	first        tree.Tree
	had          messages // what the first tree has
	d            *version.Draft
	has          messages        // what the draft has
	touched      map[uint32]bool // the messages that were put in, or dropped
	next, spread int             // new nodes stand from that slot on, so far apart
	down         bool            // the last new node stands first, so that a root may stand in the slot 0
}

// newWorld is a world with an empty tree.
func newWorld() *world {
	w := &world{s: shelf{}, first: tree.Tree{Root: -1}, had: messages{}, spread: 1}
	w.open()
	return w
}

// worldOf is a world with a tree of those messages, whose height is raised to what one more number needs.
func worldOf(t *testing.T, raise uint32, recs ...tree.Rec) *world {
	t.Helper()
	w := newWorld()
	for _, r := range recs {
		w.put(r)
	}
	if raise > 0 {
		w.put(rec(raise, "raises"))
		w.turn(t)
		w.drop(t, raise)
	}
	w.turn(t)
	return w
}

// open opens a draft of the tree.
func (w *world) open() {
	w.d = version.Open(w.s, w.first)
	w.has = maps.Clone(w.had)
	w.touched = map[uint32]bool{}
}

// put puts a message in.
func (w *world) put(r tree.Rec) {
	w.d.Put(r)
	if r.Uid == 0 {
		return
	}
	if old, ok := w.has[r.Uid]; !ok || old != r {
		w.touched[r.Uid] = true
	}
	w.has[r.Uid] = r
}

// drop drops a message.
func (w *world) drop(t *testing.T, uid uint32) {
	t.Helper()
	_, want := w.has[uid]
	if got := w.d.Drop(uid); got != want {
		t.Fatalf("P8.1: Drop(%d): %v, want %v", uid, got, want)
	}
	if want {
		w.touched[uid] = true
	}
	delete(w.has, uid)
}

// checkDraft holds what a draft tells against what it should have.
func (w *world) checkDraft(t *testing.T, uids ...uint32) {
	t.Helper()
	if got := w.d.Len(); got != len(w.has) {
		t.Fatalf("P8.1: Len: %d, want %d", got, len(w.has))
	}
	uids = append(uids, 0, 1, most)
	for _, m := range []messages{w.had, w.has} {
		for uid := range m {
			uids = append(uids, uid, uid-1, uid+1, uid^16)
		}
	}
	for _, uid := range uids {
		want, there := w.has[uid]
		if got, ok := w.d.Get(uid); got != want || ok != there {
			t.Fatalf("P8.1: Get(%d): %v, %v, want %v, %v", uid, got, ok, want, there)
		}
	}
}

// plan holds the draft's plan against what it should be, and fills it: the store with all nodes, and the new tree.
func (w *world) plan(t *testing.T) (version.Plan, shelf, tree.Tree) {
	t.Helper()
	w.checkDraft(t)
	before := maps.Clone(w.s)
	p := w.d.Plan()
	if again := w.d.Plan(); !same(p, again) {
		t.Fatalf("P8.2: the same draft's plans: %v, and then %v", p, again)
	}
	var slots []int
	for i := range p.Nodes {
		slots = append(slots, w.next+i*w.spread)
	}
	if w.down {
		slices.Reverse(slots)
	}
	nodes, now := p.Fill(slots)
	if len(nodes) != len(p.Nodes) {
		t.Fatalf("P8.2: Fill: %d nodes, want %d", len(nodes), len(p.Nodes))
	}
	s := maps.Clone(w.s)
	for i, n := range nodes {
		if _, ok := s[slots[i]]; ok {
			t.Fatalf("the slot %d is used already", slots[i])
		}
		s[slots[i]] = n
	}
	if !maps.Equal(w.s, before) {
		t.Fatal("R4: the store was changed")
	}
	w.checkPlan(t, p, s, now)
	return p, s, now
}

// same: are two plans the same?
func same(a, b version.Plan) bool {
	return slices.Equal(a.Nodes, b.Nodes) && a.Root == b.Root && a.Height == b.Height && slices.Equal(a.Gone, b.Gone)
}

// checkPlan holds a plan, and what came of it in a store, against what it should be.
func (w *world) checkPlan(t *testing.T, p version.Plan, s shelf, now tree.Tree) {
	t.Helper()
	old, left := slotsOf(t, s, w.first), slotsOf(t, s, now)
	if got := slices.Collect(now.Walk(s)); !slices.Equal(got, w.has.recs()) {
		t.Fatalf("P8.3: the new tree has %v, want %v", got, w.has.recs())
	}
	if got := slices.Collect(w.first.Walk(s)); !slices.Equal(got, w.had.recs()) {
		t.Fatalf("P8.3: the first tree has %v, want %v", got, w.had.recs())
	}
	var gone []int
	for slot := range old {
		if !left[slot] {
			gone = append(gone, slot)
		}
	}
	slices.Sort(gone)
	if !slices.Equal(p.Gone, gone) {
		t.Fatalf("P8.2: gone %v, want %v", p.Gone, gone)
	}
	fresh := 0
	for slot := range left {
		if !old[slot] {
			fresh++
		}
	}
	if fresh != len(p.Nodes) {
		t.Fatalf("P8.2: %d new nodes, of which the tree has %d", len(p.Nodes), fresh)
	}
	if p.Height != now.Height {
		t.Fatalf("P8.2: the height %d, and %d", p.Height, now.Height)
	}
	w.checkThrift(t, p, s)
}

// checkThrift: is a plan thrifty?
func (w *world) checkThrift(t *testing.T, p version.Plan, s shelf) {
	t.Helper()
	height := 0
	if len(w.has) > 0 {
		height = w.first.Height
		for uid := range w.has {
			height = max(height, level(uid))
		}
	}
	if p.Height != height || height == 0 && p.Root != -1 {
		t.Fatalf("P8.2: the height %d with the root %d, want %d", p.Height, p.Root, height)
	}
	if limit := len(w.touched)*(height+1) + max(0, height-w.first.Height); len(p.Nodes) > limit {
		t.Fatalf("P8.2: %d new nodes, where %d may be", len(p.Nodes), limit)
	}
	if maps.Equal(w.has, w.had) && (len(p.Nodes) > 0 || len(p.Gone) > 0 || p.Root != w.first.Root || p.Height != w.first.Height) {
		t.Fatalf("P8.2: nothing was changed, and the plan is %v", p)
	}
	for slot := range slotsOf(t, s, w.first) {
		below := tree.Tree{Root: slot, Height: heightAt(s, slot)}
		if !w.touchedBelow(s, below) && slices.Contains(p.Gone, slot) {
			t.Fatalf("P8.2: the slot %d is gone, though nothing is changed below it", slot)
		}
	}
}

// heightAt is the height of the tree that stands from a slot on.
func heightAt(s shelf, slot int) int {
	n := s[slot]
	if n.Kind == tree.Leaf {
		return 0
	}
	for _, kid := range n.Kids {
		if kid >= 0 {
			return heightAt(s, kid) + 1
		}
	}
	return 0
}

// touchedBelow: was a message put in, or dropped, that stands from a slot on?
func (w *world) touchedBelow(s shelf, x tree.Tree) bool {
	n := s[x.Root]
	if n.Kind == tree.Leaf {
		return w.touched[n.Rec.Uid]
	}
	low := uint64(lowest(s, x.Root)) / room(x.Height) * room(x.Height)
	for uid := range w.touched {
		if low <= uint64(uid) && uint64(uid) < low+room(x.Height) {
			return true
		}
	}
	return false
}

// lowest is the least number that stands from a slot on.
func lowest(s shelf, slot int) uint32 {
	n := s[slot]
	if n.Kind == tree.Leaf {
		return n.Rec.Uid
	}
	for _, kid := range n.Kids {
		if kid >= 0 {
			return lowest(s, kid)
		}
	}
	return 0
}

// turn makes the draft the tree, and opens a new draft of it.
func (w *world) turn(t *testing.T) version.Plan {
	t.Helper()
	p, s, now := w.plan(t)
	w.s, w.first, w.had = s, now, w.has
	w.next += len(p.Nodes) * w.spread
	w.open()
	return p
}

func TestFields(t *testing.T) {
	var got []string
	of := reflect.TypeFor[version.Plan]()
	for i := range of.NumField() {
		got = append(got, of.Field(i).Name)
	}
	if want := []string{"Nodes", "Root", "Height", "Gone"}; !slices.Equal(got, want) {
		t.Errorf("R3: %v, want %v", got, want)
	}
}

// TestExamples are those of the chapter.
func TestExamples(t *testing.T) {
	w := newWorld()
	w.put(rec(5, "x"))
	p := w.turn(t)
	kinds := map[uint8]int{}
	for _, n := range p.Nodes {
		kinds[n.Kind]++
	}
	if len(p.Nodes) != 2 || kinds[tree.Branch] != 1 || kinds[tree.Leaf] != 1 || p.Height != 1 || len(p.Gone) != 0 {
		t.Errorf("P8.2: the first plan: %v", p)
	}
	r := rec(5, "x")
	r.Flags = flags.Draft
	w.put(r)
	p = w.turn(t)
	if len(p.Nodes) != 2 || !slices.Equal(p.Gone, []int{0, 1}) || p.Height != 1 {
		t.Errorf("P8.2: the second plan: %v", p)
	}
}

// TestSlotZero: it is a slot like any other, also of a root.
func TestSlotZero(t *testing.T) {
	for _, down := range []bool{false, true} {
		w := newWorld()
		w.down = down
		w.put(rec(5, "x"))
		w.put(rec(20, "x"))
		w.turn(t)
		if down != (w.first.Root == 0) {
			t.Fatalf("the root is %d", w.first.Root)
		}
		w.put(rec(6, "x"))
		w.turn(t)
	}
}

// TestPlanNumbers: in a plan's root, and in new branches, -2 less n is the new node n.
func TestPlanNumbers(t *testing.T) {
	w := worldOf(t, 0, rec(1, "a"), rec(17, "b"))
	kept := w.s[w.s[w.first.Root].Kids[1]]
	w.put(rec(2, "c"))
	p := w.d.Plan()
	if p.Root > -2 || -2-p.Root >= len(p.Nodes) {
		t.Fatalf("P8.2: the root %d of %d new nodes", p.Root, len(p.Nodes))
	}
	root := p.Nodes[-2-p.Root]
	if root.Kind != tree.Branch || root.Count != 3 || root.Kids[1] != w.s[w.first.Root].Kids[1] || w.s[root.Kids[1]] != kept {
		t.Fatalf("P8.2: the root: %v", root)
	}
	low := p.Nodes[-2-root.Kids[0]]
	if low.Kind != tree.Branch || low.Count != 2 || w.s[low.Kids[1]].Rec != rec(1, "a") || p.Nodes[-2-low.Kids[2]].Rec != rec(2, "c") || low.Kids[3] != -1 {
		t.Fatalf("P8.2: the branch below: %v", low)
	}
}

func TestPutAndDrop(t *testing.T) {
	w := worldOf(t, 0, rec(1, "a"), rec(2, "b"), rec(300, "c"))
	w.checkDraft(t)
	w.put(rec(2, "other"))
	w.put(rec(3, "new"))
	w.drop(t, 1)
	w.drop(t, 1)
	w.drop(t, 4)
	w.checkDraft(t)
	w.put(rec(1, "again"))
	w.drop(t, 3)
	w.drop(t, 3)
	w.drop(t, 0)
	w.drop(t, most)
	w.drop(t, 300+1<<12)
	w.checkDraft(t)
	w.turn(t)
	w.checkDraft(t)
}

func TestNoNumber(t *testing.T) {
	w := worldOf(t, 0, rec(1, "a"))
	w.put(rec(0, "none"))
	if r, ok := w.d.Get(0); ok || r != (tree.Rec{}) || w.d.Len() != 1 || w.d.Drop(0) {
		t.Errorf("P8.1: a message without a number was put in: %v", r)
	}
	w.turn(t)
	e := newWorld()
	e.put(rec(0, "none"))
	e.turn(t)
}

// TestNothingChanged: also where it was changed, and changed back.
func TestNothingChanged(t *testing.T) {
	for _, w := range []*world{newWorld(), worldOf(t, 0, rec(1, "a"), rec(20, "b")), worldOf(t, 5000, rec(1, "a"), rec(20, "b"))} {
		for _, do := range []func(){
			func() {},
			func() { w.d.Drop(7) },
			func() {
				for _, r := range w.had {
					w.put(r)
				}
			},
			func() {
				w.put(rec(7, "x"))
				w.put(rec(70000, "x"))
				w.drop(t, 7)
				w.drop(t, 70000)
			},
			func() {
				for uid, r := range w.had {
					w.drop(t, uid)
					w.put(r)
				}
			},
			func() {
				for _, r := range w.had {
					w.put(rec(r.Uid, r.Text+"!"))
					w.put(r)
				}
			},
		} {
			do()
			if p, _, _ := w.plan(t); len(p.Nodes) != 0 || len(p.Gone) != 0 {
				t.Errorf("P8.2: nothing was changed: %v", p)
			}
			w.turn(t)
		}
	}
}

// TestWhatCountsAsOther: a message is another one by its flags, as numbers, or by its text.
func TestWhatCountsAsOther(t *testing.T) {
	first := tree.Rec{Uid: 5, Flags: 8, Text: "x"}
	for _, other := range []tree.Rec{{Uid: 5, Flags: 9, Text: "x"}, {Uid: 5, Flags: 0, Text: "x"}, {Uid: 5, Flags: 8, Text: "X"}, {Uid: 5, Flags: 8}, {Uid: 5, Flags: 8 | 64, Text: "x"}} {
		w := worldOf(t, 0, first, rec(6, "y"))
		w.put(other)
		if got, ok := w.d.Get(5); !ok || got != other {
			t.Errorf("P8.1: Get: %v, %v, want %v", got, ok, other)
		}
		if p := w.turn(t); len(p.Nodes) != 2 || len(p.Gone) != 2 {
			t.Errorf("P8.2: %v: %v", other, p)
		}
	}
}

// TestGrowth: how many new nodes there are when a tree gets higher.
func TestGrowth(t *testing.T) {
	for _, c := range []struct {
		first, put, drop []uint32
		nodes, height    int
		gone             int
	}{
		{nil, []uint32{1}, nil, 2, 1, 0},
		{nil, []uint32{15, 16}, nil, 5, 2, 0},
		{nil, []uint32{most}, nil, 9, 8, 0},
		{[]uint32{1}, []uint32{16}, nil, 3, 2, 0},
		{[]uint32{1}, []uint32{256}, nil, 5, 3, 0},
		{[]uint32{1}, []uint32{most}, nil, 15, 8, 0},
		{[]uint32{1, 2}, []uint32{256}, []uint32{1}, 6, 3, 2},
		{[]uint32{1, 2}, []uint32{256}, []uint32{1, 2}, 4, 3, 3},
		{[]uint32{1, 2}, []uint32{16, 256}, []uint32{1, 2}, 7, 3, 3},
		{[]uint32{1, 17}, []uint32{18}, nil, 3, 2, 2},
		{[]uint32{1, 17}, []uint32{33}, nil, 3, 2, 1},
		{[]uint32{1, 17}, nil, []uint32{17}, 1, 2, 3},
		{[]uint32{1, 17}, nil, []uint32{1, 17}, 0, 0, 5},
		{[]uint32{1, 17}, []uint32{2}, []uint32{1, 17}, 3, 2, 5},
		{[]uint32{1 << 28}, []uint32{1}, []uint32{1 << 28}, 9, 8, 9},
	} {
		w := newWorld()
		for _, uid := range c.first {
			w.put(rec(uid, "first"))
		}
		w.turn(t)
		for _, uid := range c.drop {
			w.drop(t, uid)
		}
		for _, uid := range c.put {
			w.put(rec(uid, "put"))
		}
		p := w.turn(t)
		if len(p.Nodes) != c.nodes || p.Height != c.height || len(p.Gone) != c.gone {
			t.Errorf("P8.2: of %v, %v put, %v dropped: %d new nodes, the height %d, %d gone, want %d, %d, %d", c.first, c.put, c.drop, len(p.Nodes), p.Height, len(p.Gone), c.nodes, c.height, c.gone)
		}
	}
}

// TestHeightStays: as long as a message is left, a tree gets no lower.
func TestHeightStays(t *testing.T) {
	w := worldOf(t, 1<<20, rec(3, "low"))
	if w.first.Height != 6 {
		t.Fatalf("P8.2: the height %d, want 6", w.first.Height)
	}
	w.put(rec(4, "low"))
	w.drop(t, 3)
	if w.turn(t); w.first.Height != 6 {
		t.Errorf("P8.2: the height %d, want 6", w.first.Height)
	}
	w.drop(t, 4)
	if w.turn(t); w.first != (tree.Tree{Root: -1, Height: 0}) {
		t.Errorf("P8.2: %v, want an empty tree", w.first)
	}
	w.put(rec(4, "low"))
	if w.turn(t); w.first.Height != 1 {
		t.Errorf("P8.2: the height %d, want 1", w.first.Height)
	}
}

// TestAllSmallDrafts: all trees of some numbers, low and raised, and of each number all that may be done with it.
func TestAllSmallDrafts(t *testing.T) {
	uids := []uint32{1, 2, 17, 256}
	for has := range 1 << len(uids) {
		for _, raise := range []uint32{0, 3 << 8} {
			var recs []tree.Rec
			for i, uid := range uids {
				if has>>i&1 == 1 {
					recs = append(recs, rec(uid, "first"))
				}
			}
			base := worldOf(t, raise, recs...)
			for what := range 1 << (2 * len(uids)) {
				w := *base
				w.open()
				for i, uid := range uids {
					switch what >> (2 * i) & 3 {
					case 1:
						w.put(rec(uid, "first"))
					case 2:
						w.put(rec(uid, "other"))
					case 3:
						w.drop(t, uid)
					}
				}
				w.plan(t)
			}
		}
	}
}

// someUid is a number of any size, often one that was met.
func someUid(r *rand.Rand, met messages) uint32 {
	if l := slices.Sorted(maps.Keys(met)); len(l) > 0 && r.Intn(2) == 0 {
		return l[r.Intn(len(l))] + uint32(r.Intn(3)) - 1
	}
	return r.Uint32() >> r.Intn(32)
}

// TestAnyDrafts: one version behind the other, each looked at in its midst, too.
func TestAnyDrafts(t *testing.T) {
	r := rand.New(rand.NewSource(1))
	for range 150 {
		w := newWorld()
		w.next, w.spread, w.down = r.Intn(100), 1+r.Intn(3), r.Intn(2) == 0
		for range 12 {
			for range r.Intn(12) {
				uid := someUid(r, w.has)
				if r.Intn(5) < 2 {
					w.drop(t, uid)
				} else {
					w.put(tree.Rec{Uid: uid, Flags: flags.Set(r.Intn(3)), Text: string(rune('a' + r.Intn(2)))})
				}
				if r.Intn(8) == 0 {
					w.plan(t)
				}
			}
			if r.Intn(10) == 0 {
				for uid := range maps.Clone(w.has) {
					w.drop(t, uid)
				}
			}
			w.turn(t)
		}
	}
}

// TestGreatDraft: many messages at once.
func TestGreatDraft(t *testing.T) {
	w := newWorld()
	for n := range uint32(3000) {
		w.put(rec(1+n*n, "x"))
	}
	w.turn(t)
	for n := uint32(0); n < 3000; n += 7 {
		w.drop(t, 1+n*n)
		w.put(rec(2+n*n, "y"))
	}
	w.turn(t)
}

// TestPlansShareNothing: neither with one another, nor with the draft.
func TestPlansShareNothing(t *testing.T) {
	w := worldOf(t, 0, rec(1, "a"), rec(2, "b"), rec(30, "c"))
	w.put(rec(2, "other"))
	w.drop(t, 1)
	p, want := w.d.Plan(), w.d.Plan()
	for i := range p.Nodes {
		p.Nodes[i] = tree.Node{}
	}
	for i := range p.Gone {
		p.Gone[i] = -5
	}
	_ = append(p.Nodes, tree.Node{})
	if got := w.d.Plan(); !same(got, want) {
		t.Errorf("R4: %v, want %v", got, want)
	}
	w.turn(t)
}

// TestPlansStand: a draft that is changed behind it changes nothing of a plan.
func TestPlansStand(t *testing.T) {
	w := worldOf(t, 0, rec(1, "a"), rec(30, "c"))
	w.put(rec(2, "b"))
	p, want := w.d.Plan(), w.d.Plan()
	w.put(rec(3, "d"))
	w.put(rec(2, "other"))
	w.drop(t, 30)
	w.d.Plan()
	if !same(p, want) {
		t.Errorf("R4: %v, want %v", p, want)
	}
	w.turn(t)
}

func TestFill(t *testing.T) {
	kids := [16]int{-2, 7, -1, -3, 0}
	for i := 5; i < 16; i++ {
		kids[i] = -1
	}
	p := version.Plan{Nodes: []tree.Node{{Kind: tree.Leaf, Rec: rec(48, "x")}, {Kind: tree.Branch, Count: 1, Kids: kids}, {Kind: tree.Branch, Count: 4, Kids: kids}}, Root: -4, Height: 3, Gone: []int{9}}
	before := version.Plan{Nodes: slices.Clone(p.Nodes), Root: p.Root, Height: p.Height, Gone: slices.Clone(p.Gone)}
	slots := []int{40, 41, 42, 43}
	nodes, x := p.Fill(slots)
	want := slices.Clone(p.Nodes)
	for i := 1; i < 3; i++ {
		want[i].Kids[0], want[i].Kids[3] = 40, 41
	}
	if !slices.Equal(nodes, want) || x != (tree.Tree{Root: 42, Height: 3}) {
		t.Errorf("P8.2: Fill: %v, %v, want %v", nodes, x, want)
	}
	nodes[0] = tree.Node{}
	nodes[1].Kids[0] = 99
	if !same(p, before) || !slices.Equal(slots, []int{40, 41, 42, 43}) {
		t.Error("R4: what was handed in is changed")
	}
	if again, _ := p.Fill(slots[:3]); !slices.Equal(again, want) {
		t.Errorf("P8.2: Fill of just as many slots: %v, want %v", again, want)
	}
	for n := range 3 {
		if nodes, x := p.Fill(slots[:n]); len(nodes) != 0 || x != (tree.Tree{Root: -1, Height: 0}) {
			t.Errorf("P8.2: Fill of %d slots: %v, %v", n, nodes, x)
		}
	}
}

// TestFillOfNoNewNodes: the tree is that of the store, or an empty one.
func TestFillOfNoNewNodes(t *testing.T) {
	for _, want := range []tree.Tree{{Root: -1, Height: 0}, {Root: 5, Height: 2}, {Root: 0, Height: 8}} {
		p := version.Plan{Root: want.Root, Height: want.Height, Gone: []int{1}}
		for _, slots := range [][]int{nil, {}, {3, 4}} {
			if nodes, x := p.Fill(slots); len(nodes) != 0 || x != want {
				t.Errorf("P8.2: Fill of %v: %v, %v, want %v", slots, nodes, x, want)
			}
		}
	}
}

// TestAnyPlanIsFilled: nothing is promised of a plan that no draft made, but that the call ends.
func TestAnyPlanIsFilled(t *testing.T) {
	strange := []int{math.MinInt, math.MinInt + 1, -1 << 32, -5, -4, -3, -2, -1, 0, 9, math.MaxInt}
	for _, root := range strange {
		for _, height := range strange {
			n := tree.Node{Kind: tree.Branch}
			copy(n.Kids[:], strange)
			p := version.Plan{Nodes: []tree.Node{n, {Kind: tree.Leaf}, {Kind: 77}}, Root: root, Height: height}
			for _, slots := range [][]int{nil, {1}, {1, 2, 3}, {math.MinInt, math.MaxInt, -1, 0, 5, 6, 7}} {
				p.Fill(slots)
			}
			version.Plan{Root: root, Height: height}.Fill(nil)
		}
	}
}

// ring is a store in each slot of which the same node stands.
type ring struct{ n tree.Node }

func (r ring) At(int) (tree.Node, bool) { return r.n, true }

// TestTreesThatAreNotRight: nothing is promised of them but that each call ends, and soon.
func TestTreesThatAreNotRight(t *testing.T) {
	far := tree.Node{Kind: tree.Branch, Count: 3}
	for i := range far.Kids {
		far.Kids[i] = []int{math.MinInt, -2, math.MaxInt, -3}[i%4]
	}
	stores := []tree.Store{
		nil, shelf{}, shelf{0: far, 5: {Kind: tree.Leaf}}, ring{far}, ring{}, ring{tree.Node{Kind: tree.Branch, Count: 16}},
		ring{tree.Node{Kind: tree.Branch}}, ring{tree.Node{Kind: tree.Leaf, Rec: rec(4, "x")}}, ring{tree.Node{Kind: 99, Count: -4}},
	}
	for _, s := range stores {
		for _, height := range []int{math.MinInt, -9, -1, 0, 1, 2, 7, 8, 9, 64, math.MaxInt} {
			for _, root := range []int{math.MinInt, -2, -1, 0, 5, math.MaxInt} {
				d := version.Open(s, tree.Tree{Root: root, Height: height})
				for _, uid := range []uint32{0, 1, 4, 15, 16, 300, 1 << 31, most} {
					d.Get(uid)
					d.Put(rec(uid, "y"))
					d.Plan().Fill(make([]int, 100))
				}
				for _, uid := range []uint32{0, 1, 4, 7, 16, most} {
					d.Drop(uid)
					d.Len()
					d.Plan().Fill(nil)
				}
			}
		}
	}
}
