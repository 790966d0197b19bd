package tree_test

import (
	"maps"
	"math"
	"math/rand"
	"reflect"
	"slices"
	"strconv"
	"testing"

	"postchaise/flags"
	"postchaise/tree"
)

// most is the greatest number.
const most = math.MaxUint32

// shelf is a store. Where nothing stands it tells something all the same, with a false.
type shelf map[int]tree.Node

func (s shelf) At(slot int) (tree.Node, bool) {
	n, ok := s[slot]
	if !ok {
		return tree.Node{Kind: tree.Leaf, Count: 9, Rec: tree.Rec{Uid: 77, Text: "not there"}}, false
	}
	return n, true
}

// garden makes trees that are right, told without the package, in slots as they come.
type garden struct {
	s    shelf
	next int
	r    *rand.Rand
}

// newGarden is a garden without a tree.
func newGarden(seed int64) *garden {
	return &garden{s: shelf{}, r: rand.New(rand.NewSource(seed))}
}

// put puts a node into a slot, not far behind the last one.
func (g *garden) put(n tree.Node) int {
	slot := g.next + g.r.Intn(3)
	g.next = slot + 1
	g.s[slot] = n
	return slot
}

// branch makes a branch of a rank that has those messages, each of which has the same digits above.
func (g *garden) branch(rank int, recs []tree.Rec) int {
	if rank < 0 {
		return g.put(tree.Node{Kind: tree.Leaf, Rec: recs[0]})
	}
	n := tree.Node{Kind: tree.Branch, Count: len(recs)}
	for digit := range n.Kids {
		var below []tree.Rec
		for _, rec := range recs {
			if digitOf(rec.Uid, rank) == digit {
				below = append(below, rec)
			}
		}
		n.Kids[digit] = -1
		if len(below) > 0 {
			n.Kids[digit] = g.branch(rank-1, below)
		}
	}
	return g.put(n)
}

// tree makes a tree of a height that has those messages.
func (g *garden) tree(height int, recs []tree.Rec) tree.Tree {
	if len(recs) == 0 {
		return tree.Tree{Root: -1, Height: 0}
	}
	return tree.Tree{Root: g.branch(height-1, recs), Height: height}
}

// digitOf is a digit of a number to the base 16, from the lowest on.
func digitOf(uid uint32, at int) int {
	n := uint64(uid)
	for range at {
		n /= 16
	}
	return int(n % 16)
}

// room is how many numbers a tree of a height can have.
func room(height int) uint64 {
	n := uint64(1)
	for range height {
		n *= 16
	}
	return n
}

// rec is a message with something of its own.
func rec(uid uint32) tree.Rec {
	return tree.Rec{Uid: uid, Flags: flags.Set(uid*7) & 31, Text: "text " + strconv.FormatUint(uint64(uid), 10)}
}

// recsOf are messages of numbers, by these.
func recsOf(uids ...uint32) []tree.Rec {
	var recs []tree.Rec
	for _, uid := range slices.Compact(slices.Sorted(slices.Values(uids))) {
		recs = append(recs, rec(uid))
	}
	return recs
}

// lesser is how many of some messages have a lesser number.
func lesser(recs []tree.Rec, uid uint32) int {
	n := 0
	for _, r := range recs {
		if r.Uid < uid {
			n++
		}
	}
	return n
}

// checkNumber holds what is told of a number against what should be.
func checkNumber(t *testing.T, s tree.Store, x tree.Tree, recs []tree.Rec, uid uint32) {
	t.Helper()
	var want tree.Rec
	at := slices.IndexFunc(recs, func(r tree.Rec) bool { return r.Uid == uid })
	if at >= 0 {
		want = recs[at]
	}
	if got, ok := x.Get(s, uid); got != want || ok != (at >= 0) {
		t.Fatalf("P7.1: Get(%d) of the height %d: %v, %v, want %v, %v", uid, x.Height, got, ok, want, at >= 0)
	}
	if got, want := x.Rank(s, uid), lesser(recs, uid); got != want {
		t.Fatalf("P7.1: Rank(%d) of the height %d: %d, want %d", uid, x.Height, got, want)
	}
}

// checkPlace holds what is told of a place against what should be.
func checkPlace(t *testing.T, s tree.Store, x tree.Tree, recs []tree.Rec, k int) {
	t.Helper()
	var want tree.Rec
	there := 0 <= k && k < len(recs)
	if there {
		want = recs[k]
	}
	if got, ok := x.Select(s, k); got != want || ok != there {
		t.Fatalf("P7.1: Select(%d): %v, %v, want %v, %v", k, got, ok, want, there)
	}
}

// check holds all that a tree tells against the messages that it has.
func check(t *testing.T, s tree.Store, x tree.Tree, recs []tree.Rec) {
	t.Helper()
	if got := x.Len(s); got != len(recs) {
		t.Fatalf("P7.1: Len: %d, want %d", got, len(recs))
	}
	uids := []uint32{0, 1, 15, 16, 17, 255, 256, 1 << 31, most - 1, most}
	for _, r := range recs {
		// Neighbours, and numbers that differ by a digit alone.
		uids = append(uids, r.Uid, r.Uid-1, r.Uid+1, r.Uid^16, r.Uid^1<<20, r.Uid+uint32(room(x.Height)))
	}
	for _, uid := range uids {
		checkNumber(t, s, x, recs, uid)
	}
	for k := -2; k < len(recs)+2; k++ {
		checkPlace(t, s, x, recs, k)
	}
	for _, k := range []int{math.MinInt, math.MinInt + 1, -1 << 32, 1 << 32, math.MaxInt} {
		checkPlace(t, s, x, recs, k)
	}
	walk := x.Walk(s)
	for range 2 {
		if got := slices.Collect(walk); !slices.Equal(got, recs) {
			t.Fatalf("P7.2: Walk: %v, want %v", got, recs)
		}
	}
	checkSlots(t, s, x)
}

// visit is a slot, and its node.
type visit struct {
	slot int
	node tree.Node
}

// visits are the nodes from one on, as the walk should have them.
func visits(s tree.Store, slot int) []visit {
	n, _ := s.At(slot)
	l := []visit{{slot, n}}
	if n.Kind == tree.Branch {
		for _, kid := range n.Kids {
			if kid >= 0 {
				l = append(l, visits(s, kid)...)
			}
		}
	}
	return l
}

// checkSlots holds the walk through a tree's slots against what it should be.
func checkSlots(t *testing.T, s tree.Store, x tree.Tree) {
	t.Helper()
	var want []visit
	if x.Root >= 0 {
		want = visits(s, x.Root)
	}
	walk := x.Slots(s)
	for range 2 {
		var got []visit
		for slot, n := range walk {
			got = append(got, visit{slot, n})
		}
		if !slices.Equal(got, want) {
			t.Fatalf("P7.2: Slots: %v, want %v", got, want)
		}
	}
}

func TestKinds(t *testing.T) {
	if tree.Branch != 1 || tree.Leaf != 2 || tree.Box != 3 {
		t.Errorf("P7.1: kinds %d %d %d", tree.Branch, tree.Leaf, tree.Box)
	}
}

// TestFields: the structs have just the fields that the chapter gives.
func TestFields(t *testing.T) {
	for _, c := range []struct {
		of   reflect.Type
		want []string
	}{
		{reflect.TypeFor[tree.Rec](), []string{"Uid", "Flags", "Text"}},
		{reflect.TypeFor[tree.Head](), []string{"Root", "Height", "Next", "Valid", "Number"}},
		{reflect.TypeFor[tree.Node](), []string{"Kind", "Count", "Kids", "Rec", "Head"}},
		{reflect.TypeFor[tree.Tree](), []string{"Root", "Height"}},
	} {
		var got []string
		for i := range c.of.NumField() {
			got = append(got, c.of.Field(i).Name)
		}
		if !slices.Equal(got, c.want) {
			t.Errorf("R3: %s: %v, want %v", c.of, got, c.want)
		}
	}
}

func TestNeed(t *testing.T) {
	for uid, want := range map[uint32]int{
		0: 1, 1: 1, 2: 1, 7: 1, 8: 1, 15: 1, 16: 2, 17: 2, 255: 2, 256: 3, 300: 3, 4095: 3, 4096: 4, 65535: 4, 65536: 5,
		1<<20 - 1: 5, 1 << 20: 6, 1<<24 - 1: 6, 1 << 24: 7, 1<<28 - 1: 7, 1 << 28: 8, 1 << 31: 8, most: 8,
	} {
		if got := tree.Need(uid); got != want {
			t.Errorf("P7.2: Need(%d): %d, want %d", uid, got, want)
		}
	}
	r := rand.New(rand.NewSource(1))
	for range 10000 {
		uid := r.Uint32() >> r.Intn(32)
		h := tree.Need(uid)
		if h < 1 || uint64(uid) >= room(h) || h > 1 && uint64(uid) < room(h-1) {
			t.Fatalf("P7.2: Need(%d): %d", uid, h)
		}
	}
}

func TestExample(t *testing.T) {
	g := newGarden(2)
	recs := recsOf(1, 17, 300)
	x := g.tree(3, recs)
	if tree.Need(300) != 3 || x.Rank(g.s, 18) != 2 {
		t.Errorf("P7.1: the height %d, Rank(18) %d", tree.Need(300), x.Rank(g.s, 18))
	}
	if got, ok := x.Select(g.s, 2); got != rec(300) || !ok {
		t.Errorf("P7.1: Select(2): %v, %v", got, ok)
	}
	check(t, g.s, x, recs)
}

// TestSlotsExample tells the order of the walk by slots written out.
func TestSlotsExample(t *testing.T) {
	branch := func(count int, kids map[int]int) tree.Node {
		n := tree.Node{Kind: tree.Branch, Count: count}
		for i := range n.Kids {
			n.Kids[i] = -1
		}
		for digit, kid := range kids {
			n.Kids[digit] = kid
		}
		return n
	}
	leaf := func(uid uint32) tree.Node { return tree.Node{Kind: tree.Leaf, Rec: rec(uid)} }
	s := shelf{
		9: branch(3, map[int]int{0: 4, 15: 0}),
		4: branch(2, map[int]int{2: 7, 3: 1}),
		0: branch(1, map[int]int{0: 3}),
		7: leaf(2), 1: leaf(3), 3: leaf(240),
		5: leaf(8), 6: {Kind: tree.Box, Head: tree.Head{Root: 9, Height: 2}},
	}
	x := tree.Tree{Root: 9, Height: 2}
	var got []int
	for slot := range x.Slots(s) {
		got = append(got, slot)
	}
	if want := []int{9, 4, 7, 1, 0, 3}; !slices.Equal(got, want) {
		t.Errorf("P7.2: Slots: %v, want %v", got, want)
	}
	check(t, s, x, recsOf(2, 3, 240))
}

func TestEmptyTree(t *testing.T) {
	s := shelf{0: {Kind: tree.Leaf, Rec: rec(1)}, 1: {Kind: tree.Branch, Count: 1}}
	check(t, s, tree.Tree{Root: -1, Height: 0}, nil)
	check(t, shelf{}, tree.Tree{Root: -1, Height: 0}, nil)
}

// TestOneMessage: each number alone, in a tree of each height that can have it.
func TestOneMessage(t *testing.T) {
	for height := 1; height <= 8; height++ {
		for _, uid := range []uint32{1, 9, 15, 16, 31, 240, 255, 256, 4095, 4096, 65535, 65536, 1 << 20, 1 << 24, 1<<28 - 1, 1 << 28, most - 1, most} {
			if uint64(uid) >= room(height) {
				continue
			}
			g := newGarden(int64(height))
			check(t, g.s, g.tree(height, recsOf(uid)), recsOf(uid))
		}
	}
}

func TestDenseTree(t *testing.T) {
	var uids []uint32
	for uid := uint32(1); uid <= 300; uid++ {
		uids = append(uids, uid)
	}
	for height := 3; height <= 8; height++ {
		g := newGarden(3)
		check(t, g.s, g.tree(height, recsOf(uids...)), recsOf(uids...))
	}
}

func TestGreatestNumbers(t *testing.T) {
	var uids []uint32
	for n := range uint32(40) {
		uids = append(uids, most-n)
	}
	g := newGarden(4)
	check(t, g.s, g.tree(8, recsOf(uids...)), recsOf(uids...))
	uids = append(uids, 1, 1<<28, 1<<31)
	check(t, g.s, g.tree(8, recsOf(uids...)), recsOf(uids...))
}

// TestAnyTree: also several trees in one store.
func TestAnyTree(t *testing.T) {
	r := rand.New(rand.NewSource(5))
	for round := range 300 {
		g := newGarden(int64(round))
		var trees []tree.Tree
		var recs [][]tree.Rec
		for range 1 + r.Intn(3) {
			height := 1 + r.Intn(8)
			var uids []uint32
			for range 1 + r.Intn(30) {
				// Of any size, and some of them neighbours.
				uid := uint32(r.Uint64() % room(1+r.Intn(height)))
				uids = append(uids, max(1, uid), max(1, uid^uint32(r.Intn(3))))
			}
			recs = append(recs, recsOf(uids...))
			trees = append(trees, g.tree(height, recs[len(recs)-1]))
		}
		for i, x := range trees {
			check(t, g.s, x, recs[i])
		}
	}
}

// TestRankAndNumber: what is told by rank is got by number, and the other way round.
func TestRankAndNumber(t *testing.T) {
	r := rand.New(rand.NewSource(6))
	for round := range 100 {
		g := newGarden(int64(round))
		var uids []uint32
		for range 50 {
			uids = append(uids, max(1, r.Uint32()>>r.Intn(32)))
		}
		x := g.tree(8, recsOf(uids...))
		for k := range x.Len(g.s) {
			m, ok := x.Select(g.s, k)
			if !ok || x.Rank(g.s, m.Uid) != k {
				t.Fatalf("P7.3: Select(%d): %d, of which Rank is %d", k, m.Uid, x.Rank(g.s, m.Uid))
			}
			if got, ok := x.Get(g.s, m.Uid); !ok || got != m {
				t.Fatalf("P7.3: Get(%d): %v, %v, want %v", m.Uid, got, ok, m)
			}
		}
		for _, uid := range uids {
			if got, ok := x.Select(g.s, x.Rank(g.s, uid)); !ok || got != rec(uid) {
				t.Fatalf("P7.3: Select of Rank(%d): %v, %v", uid, got, ok)
			}
		}
	}
}

// TestAllKindsOfRec: a message is told as it stands, whatever is in it.
func TestAllKindsOfRec(t *testing.T) {
	g := newGarden(7)
	recs := []tree.Rec{{Uid: 1}, {Uid: 2, Flags: 255}, {Uid: 3, Text: "a\x00\r\n\xff"}, {Uid: 20, Flags: 32, Text: "b"}}
	check(t, g.s, g.tree(2, recs), recs)
}

func TestWalksStop(t *testing.T) {
	g := newGarden(8)
	recs := recsOf(1, 2, 15, 16, 17, 300, 4000)
	x := g.tree(4, recs)
	for stop := 1; stop <= len(recs); stop++ {
		var got []tree.Rec
		for m := range x.Walk(g.s) {
			if got = append(got, m); len(got) == stop {
				break
			}
		}
		if !slices.Equal(got, recs[:stop]) {
			t.Errorf("P7.2: Walk, stopped at %d: %v", stop, got)
		}
	}
	all := visits(g.s, x.Root)
	for stop := 1; stop <= len(all); stop++ {
		var got []visit
		for slot, n := range x.Slots(g.s) {
			if got = append(got, visit{slot, n}); len(got) == stop {
				break
			}
		}
		if !slices.Equal(got, all[:stop]) {
			t.Errorf("P7.2: Slots, stopped at %d: %v", stop, got)
		}
	}
}

func TestWalksWithinWalks(t *testing.T) {
	g := newGarden(9)
	recs := recsOf(3, 40, 500)
	x := g.tree(3, recs)
	walk, slots := x.Walk(g.s), x.Slots(g.s)
	var got []uint32
	for a := range walk {
		for b := range walk {
			got = append(got, a.Uid, b.Uid)
		}
	}
	if want := []uint32{3, 3, 3, 40, 3, 500, 40, 3, 40, 40, 40, 500, 500, 3, 500, 40, 500, 500}; !slices.Equal(got, want) {
		t.Errorf("R6: Walk: %v, want %v", got, want)
	}
	all := visits(g.s, x.Root)
	pairs := 0
	for a := range slots {
		for b := range slots {
			if a != all[pairs/len(all)].slot || b != all[pairs%len(all)].slot {
				t.Errorf("R6: Slots: %d, %d at %d", a, b, pairs)
			}
			pairs++
		}
	}
	if pairs != len(all)*len(all) {
		t.Errorf("R6: Slots: %d pairs, want %d", pairs, len(all)*len(all))
	}
}

// TestNodesAreHandedOutAlone: who changes a node that was handed out changes nothing of the store.
func TestNodesAreHandedOutAlone(t *testing.T) {
	g := newGarden(10)
	recs := recsOf(1, 2, 30)
	x := g.tree(2, recs)
	before := maps.Clone(g.s)
	for _, n := range x.Slots(g.s) {
		n.Kids[0], n.Rec.Uid = 99, 99
	}
	if !maps.Equal(g.s, before) {
		t.Error("R4: the store was changed")
	}
	check(t, g.s, x, recs)
}

// asked is a store that notes what it was asked for.
type asked struct {
	shelf
	slots map[int]int
}

func (a asked) At(slot int) (tree.Node, bool) {
	a.slots[slot]++
	return a.shelf.At(slot)
}

// TestJustSlotsAreAskedFor: a store is asked for no slot that a tree has not, so that it need know of no others; and what is asked of one message goes down to it alone.
func TestJustSlotsAreAskedFor(t *testing.T) {
	g := newGarden(11)
	var uids []uint32
	for n := range uint32(3000) {
		uids = append(uids, 1+n*11)
	}
	x := g.tree(8, recsOf(uids...))
	a := asked{g.s, map[int]int{}}
	calls := func(do func()) int {
		clear(a.slots)
		do()
		n := 0
		for slot, times := range a.slots {
			if _, ok := g.s[slot]; !ok {
				t.Errorf("the slot %d is asked for", slot)
			}
			n += times
		}
		return n
	}
	for _, uid := range []uint32{0, 1, 12, 13, 32990, 33000, most} {
		if n := calls(func() { x.Get(a, uid) }); n > 9 {
			t.Errorf("Get(%d): %d nodes are looked at", uid, n)
		}
		if n := calls(func() { x.Rank(a, uid) }); n > 9*17 {
			t.Errorf("Rank(%d): %d nodes are looked at", uid, n)
		}
	}
	for _, k := range []int{-1, 0, 1, 1500, 2999, 3000} {
		if n := calls(func() { x.Select(a, k) }); n > 9*17 {
			t.Errorf("Select(%d): %d nodes are looked at", k, n)
		}
	}
	if n := calls(func() { x.Len(a) }); n > 1 {
		t.Errorf("Len: %d nodes are looked at", n)
	}
	if n := calls(func() { walkAll(x, a) }); n > 2*len(g.s) {
		t.Errorf("two walks: %d nodes are looked at, of %d", n, len(g.s))
	}
	none := tree.Tree{Root: -1, Height: 0}
	if n := calls(func() { none.Get(a, 1); none.Len(a); none.Rank(a, most); none.Select(a, 0); walkAll(none, a) }); n != 0 {
		t.Errorf("an empty tree: %d nodes are looked at", n)
	}
}

// ring is a store in each slot of which the same node stands.
type ring struct{ n tree.Node }

func (r ring) At(int) (tree.Node, bool) { return r.n, true }

// askAll makes all calls of a tree, which must come to an end, and answer nothing beside a false.
func askAll(t *testing.T, s tree.Store, x tree.Tree) {
	t.Helper()
	for _, n := range []int{0, 1, 15, 16, 300, 1 << 31, most, -1, math.MaxInt, math.MinInt} {
		if m, ok := x.Get(s, uint32(n)); !ok && m != (tree.Rec{}) {
			t.Errorf("R2: Get(%d): %v", n, m)
		}
		if m, ok := x.Select(s, n); !ok && m != (tree.Rec{}) {
			t.Errorf("R2: Select(%d): %v", n, m)
		}
		x.Rank(s, uint32(n))
	}
	x.Len(s)
	walkAll(x, s)
}

// walkAll goes through both walks.
func walkAll(x tree.Tree, s tree.Store) {
	for range x.Walk(s) {
	}
	for range x.Slots(s) {
	}
}

// TestTreesThatAreNotRight: nothing is promised of them but that each call ends, and soon.
func TestTreesThatAreNotRight(t *testing.T) {
	loop := tree.Node{Kind: tree.Branch, Count: 16}
	far := tree.Node{Kind: tree.Branch, Count: -5}
	for i := range far.Kids {
		far.Kids[i] = []int{math.MinInt, -2, math.MaxInt, 1 << 32}[i%4]
	}
	// Each branch comes 16 times to the next one, and the last one to itself.
	ladder := shelf{}
	for slot := range 8 {
		n := tree.Node{Kind: tree.Branch, Count: 1}
		for i := range n.Kids {
			n.Kids[i] = min(slot+1, 7)
		}
		ladder[slot] = n
	}
	heights := []int{math.MinInt, -9, -1, 0, 1, 2, 7, 8, 9, 64, 1 << 32, math.MaxInt}
	stores := []tree.Store{
		nil, shelf{}, ladder, ring{loop}, ring{far}, ring{}, ring{tree.Node{Kind: tree.Leaf, Rec: rec(4)}}, ring{tree.Node{Kind: tree.Box}},
		ring{tree.Node{Kind: 200, Count: 3}}, shelf{0: loop}, shelf{0: loop, 5: {Kind: tree.Leaf}},
	}
	for _, s := range stores {
		for _, height := range heights {
			for _, root := range []int{math.MinInt, -2, -1, 0, 5, math.MaxInt} {
				askAll(t, s, tree.Tree{Root: root, Height: height})
			}
		}
	}
}
