package session_test

import (
	"cmp"
	"fmt"
	"math"
	"math/rand"
	"slices"
	"strconv"
	"strings"
	"testing"

	"postchaise/act"
	"postchaise/api"
	"postchaise/command"
	"postchaise/item"
	"postchaise/list"
	"postchaise/model"
	"postchaise/reply"
	"postchaise/session"
	"postchaise/tree"
	"postchaise/txn"
)

// names are those of a world's boxes.
var names = []string{"x", "y", "my box", "w"}

// seen is a slot that is reached from a view, as it was when the session looked.
type seen struct {
	slot int
	gen  uint32
	node tree.Node
}

// event is a command that was done.
type event struct {
	who              int
	command          command.Command
	begin, mark, end uint64
	limit            api.Errno
	told             string
}

// world is a space, its sessions, what they do, and what their clients know.
type world struct {
	c        txn.Config
	space    *txn.Space
	sessions []*session.Session
	under    []*session.Doing // of each session the command that is under way, or nil
	begun    []*event
	views    [][]seen
	clients  []list.List
	events   []*event // in the order in which they were over
}

// newWorld makes a world.
func newWorld(t *testing.T, c txn.Config) *world {
	t.Helper()
	space, err := txn.New(c)
	if err != api.OK {
		t.Fatalf("no space: error %d", err)
	}
	w := &world{c: c, space: space, under: make([]*session.Doing, c.Sessions), begun: make([]*event, c.Sessions), views: make([][]seen, c.Sessions), clients: make([]list.List, c.Sessions)}
	for who := range c.Sessions {
		s, err := session.New(space, who, names[:c.Boxes]...)
		if err != api.OK {
			t.Fatalf("P19.1: no session: error %d", err)
		}
		w.sessions = append(w.sessions, s)
	}
	return w
}

// looksFirst: is a command one by which a session is pinned anew?
func looksFirst(c command.Command) bool {
	switch c.Kind {
	case command.Select, command.Unselect, command.Noop:
		return true
	case command.Fetch, command.Search:
		return c.ByUid
	}
	return false
}

// begin begins a command.
func (w *world) begin(t *testing.T, who int, text string) {
	t.Helper()
	c := parse(t, text)
	w.begun[who] = &event{who: who, command: c, begin: w.space.Mem().Time()}
	w.under[who] = w.sessions[who].Do(c)
	if w.under[who] == nil || w.under[who].Over() {
		t.Fatalf("P19.1: %q is not done", text)
	}
	if looksFirst(c) {
		w.views[who] = nil
	}
}

// step makes a step of a session's command, and holds all that is promised of any moment: is the command over then?
func (w *world) step(t *testing.T, who int) bool {
	t.Helper()
	d, ev := w.under[who], w.begun[who]
	if len(d.Lines()) != 0 || d.Mark() != 0 || d.Limit() != api.OK {
		t.Fatalf("P19.2: %q is not over, but told %q, %d, %d", ev.command, reply.Print(d.Lines()...), d.Mark(), d.Limit())
	}
	time := w.space.Mem().Time()
	over := d.Step()
	if now := w.space.Mem().Time(); now > time+1 {
		t.Fatalf("P19.1: a step of %q has %d accesses", ev.command, now-time)
	}
	if over {
		ev.mark, ev.end, ev.limit, ev.told = d.Mark(), w.space.Mem().Time(), d.Limit(), reply.Print(d.Lines()...)
		if ev.mark < ev.begin || ev.mark > ev.end {
			t.Fatalf("P19.2: %q from %d to %d has the mark %d", ev.command, ev.begin, ev.end, ev.mark)
		}
		w.events = append(w.events, ev)
		w.under[who] = nil
		w.play(t, ev)
		w.see(t, who)
	}
	w.holdViews(t)
	w.holdUsed(t)
	return over
}

// steps makes so many steps, or as many as there are: is the command over then?
func (w *world) steps(t *testing.T, who, n int) bool {
	t.Helper()
	for range n {
		if w.step(t, who) {
			return true
		}
	}
	return false
}

// finish makes all steps of a session's command.
func (w *world) finish(t *testing.T, who int) {
	t.Helper()
	if !w.steps(t, who, 100000) {
		t.Fatalf("R1: %q does not end", w.begun[who].command)
	}
}

// play plays what was told to a session's client, and holds what is promised of that.
func (w *world) play(t *testing.T, ev *event) {
	t.Helper()
	lines, err := reply.Parse(ev.told)
	if err != api.OK || len(lines) == 0 || lines[len(lines)-1].Tag != ev.command.Tag {
		t.Fatalf("P19.2: %q is told %q", ev.command, ev.told)
	}
	quiet := !ev.command.ByUid && (ev.command.Kind == command.Fetch || ev.command.Kind == command.Store || ev.command.Kind == command.Search)
	client := w.clients[ev.who]
	for _, line := range lines {
		if line.Kind == reply.Info && strings.HasPrefix(line.Text, "FLAGS ") {
			client = nil
		}
		note, ok := line.Note()
		if !ok {
			continue
		}
		if note.Kind == list.Gone && quiet {
			t.Fatalf("P4: %q tells %q", ev.command, line)
		}
		if note.Kind == list.Fetch && note.Seq >= 1 && note.Seq <= len(client) {
			known := client[note.Seq-1]
			if line.Items&item.Uid == 0 {
				note.Entry.Uid = known.Uid
			}
			if line.Items&item.Flags == 0 {
				note.Entry.Flags = known.Flags
			}
		}
		// Play turns down an exists that tells fewer.
		if client, err = client.Play(note); err != api.OK {
			t.Fatalf("P4: %q tells %q", ev.command, line)
		}
	}
	w.clients[ev.who] = client
	if l, ok := w.sessions[ev.who].List(); ok && !slices.Equal(l, client) {
		t.Fatalf("P4: behind %q the client knows %v, not %v", ev.command, client, l)
	}
}

// see notes what stands in the slots of a session's view, and holds it against its list.
func (w *world) see(t *testing.T, who int) {
	t.Helper()
	w.views[who] = nil
	l, has := w.sessions[who].List()
	view, sees := w.sessions[who].View()
	if has != sees || has != w.space.Pinned(who) {
		t.Fatalf("P19.1: behind %q: the list %v, the view %v, pinned %v", w.begun[who].command, has, sees, w.space.Pinned(who))
	}
	if !has {
		holdNone(t, w.sessions[who])
		return
	}
	for slot, node := range view.Slots(w.space.Arena()) {
		w.views[who] = append(w.views[who], seen{slot, w.space.Arena().Gen(slot), node})
	}
	i := 0
	for rec := range view.Walk(w.space.Arena()) {
		if i >= len(l) || l[i].Uid != rec.Uid || rec.Uid == 0 || i > 0 && rec.Uid <= l[i-1].Uid {
			t.Fatalf("P19.1: behind %q the list %v has not the view's %d", w.begun[who].command, l, rec.Uid)
		}
		i++
	}
	if i != len(l) {
		t.Fatalf("P19.1: behind %q the list %v has more than the view", w.begun[who].command, l)
	}
}

// holdViews holds that all views stand.
func (w *world) holdViews(t *testing.T) {
	t.Helper()
	for who, view := range w.views {
		for _, v := range view {
			if node, ok := w.space.Arena().At(v.slot); !ok || node != v.node || w.space.Arena().Gen(v.slot) != v.gen {
				t.Fatalf("P19.3: the slot %d of the view of %d has %v, not %v", v.slot, who, node, v.node)
			}
		}
	}
}

// met is how many slots the boxes have.
func (w *world) met() int {
	n := 0
	for box := range w.c.Boxes {
		n++
		for range w.tree(box).Slots(w.space.Arena()) {
			n++
		}
	}
	return n
}

// head is a box's head.
func (w *world) head(box int) tree.Head {
	node, _ := w.space.Arena().At(w.space.Roots()[box])
	return node.Head
}

// tree is a box's tree.
func (w *world) tree(box int) tree.Tree {
	h := w.head(box)
	return tree.Tree{Root: h.Root, Height: h.Height}
}

// holdUsed holds how many slots are used against what is known of them.
func (w *world) holdUsed(t *testing.T) {
	t.Helper()
	under := slices.ContainsFunc(w.under, func(d *session.Doing) bool { return d != nil })
	met, kept, used := w.met(), w.space.Kept(), w.space.Arena().Used()
	if used < met+kept || !under && used != met+kept || used > w.c.Slots {
		t.Fatalf("P6: the boxes have %d slots, %d are kept, %d are used; under way: %v", met, kept, used, under)
	}
}

// all is all that is to be seen of a world, but what is under way.
func (w *world) all() string {
	var b strings.Builder
	for _, s := range w.sessions {
		l, ok := s.List()
		v, _ := s.View()
		fmt.Fprintln(&b, l, ok, v)
	}
	for box := range w.c.Boxes {
		fmt.Fprintln(&b, w.head(box), recs(w.space, w.tree(box)))
	}
	return b.String()
}

// settle makes a step of each session that does something, in turn, till all are over.
func (w *world) settle(t *testing.T) {
	t.Helper()
	for rounds := 0; ; rounds++ {
		going := false
		for who := range w.sessions {
			if w.under[who] != nil {
				w.step(t, who)
				going = true
			}
		}
		if !going {
			return
		}
		if rounds > 100000 {
			t.Fatal("R1: commands that do not end")
		}
	}
}

// collect lets a session collect.
func (w *world) collect(t *testing.T, who int) {
	t.Helper()
	act.Rest(100000, w.space.Collect(who))
}

// holdOrder holds all that was told against a model that does all commands in the order of their marks, one behind the other, and what there is now against what that has.
func (w *world) holdOrder(t *testing.T) {
	t.Helper()
	var boxes []model.Box
	for _, name := range names[:w.c.Boxes] {
		boxes = append(boxes, model.Box{Name: name, Next: w.c.Next, Valid: w.c.Valid})
	}
	m, _ := model.New(w.c.Sessions, boxes...)
	events := slices.Clone(w.events)
	slices.SortStableFunc(events, func(a, b *event) int { return cmp.Compare(a.mark, b.mark) })
	for _, ev := range events {
		lines, err := m.Do(ev.who, ev.command, ev.limit)
		if want := reply.Print(lines...); err != api.OK || ev.told != want {
			t.Fatalf("P19.3: %q of %d at %d, limit %d, is told\n%q\nnot\n%q", ev.command, ev.who, ev.mark, ev.limit, ev.told, want)
		}
	}
	for box := range w.c.Boxes {
		if got, want := recs(w.space, w.tree(box)), m.Recs(box); !slices.Equal(got, want) || w.head(box).Next != m.Next(box) {
			t.Fatalf("P19.3: the box %d has %v, Next %d, not %v, %d", box, got, w.head(box).Next, want, m.Next(box))
		}
	}
	for who, s := range w.sessions {
		got, has := s.List()
		if want, ok := m.List(who); has != ok || !slices.Equal(got, want) {
			t.Fatalf("P19.3: the list of %d: %v %v, not %v %v", who, got, has, want, ok)
		}
	}
}

// wind ends all that is under way, holds it against a model, and lets nobody have selected a box: just what the boxes have is used then.
func (w *world) wind(t *testing.T) {
	t.Helper()
	w.settle(t)
	w.holdOrder(t)
	for who := range w.sessions {
		w.do(t, who, "z UNSELECT")
	}
	for who := range w.sessions {
		for range 3 {
			w.collect(t, who)
		}
	}
	if met, used := w.met(), w.space.Arena().Used(); used != met || w.space.Kept() != 0 {
		t.Fatalf("P6: the boxes have %d slots, %d are used, %d are kept", met, used, w.space.Kept())
	}
}

// TestAllParts: two commands at once, of which each is broken off at any step.
func TestAllParts(t *testing.T) {
	all := []string{"a SELECT x", "a NOOP", "a APPEND x {0}\r\n", "a SELECT z", "a UNSELECT", "a STORE 1:2 +FLAGS (\\Deleted)", "a UID STORE 2:* FLAGS (\\Seen)", "a FETCH 1:* BODY.PEEK[]", "a UID FETCH 1:* (FLAGS BODY.PEEK[])", "a UID SEARCH DELETED", "a EXPUNGE", "a COPY 1:* x", "a UID STORE 9 FLAGS ()"}
	for _, first := range all {
		for _, other := range all {
			breakOff(t, first, other, "a SELECT x")
		}
	}
	for _, first := range all[:3] {
		for _, other := range all {
			breakOff(t, first, other)
		}
	}
}

// breakOff does two commands at once, the first one by a session that did some ahead: it is broken off at each of its steps, and so is the other one at some.
func breakOff(t *testing.T, first, other string, ahead ...string) {
	t.Helper()
	for a, over := 0, false; !over; a++ {
		for _, b := range []int{1, 4, 7, 11, 100} {
			w := newWorld(t, txn.Config{Sessions: 2, Boxes: 1, Slots: 50, Next: 1, Valid: 1})
			w.do(t, 1, "a APPEND x {3}\r\none", "a APPEND x (\\Deleted) {3}\r\ntwo", "a SELECT x")
			w.do(t, 0, ahead...)
			w.do(t, 1, "a STORE 1 FLAGS (\\Draft)", "a APPEND x {5}\r\nthree")
			w.begin(t, 0, first)
			w.begin(t, 1, other)
			over = w.steps(t, 0, a)
			w.steps(t, 1, b)
			if !over {
				w.finish(t, 0)
			}
			w.wind(t)
		}
	}
}

// anyOf is any one of some texts.
func anyOf(r *rand.Rand, texts ...string) string {
	return texts[r.Intn(len(texts))]
}

// anySet is the text of a set of numbers near one.
func anySet(r *rand.Rand, near int) string {
	n := func() string {
		if r.Intn(3) == 0 {
			return "*"
		}
		return strconv.Itoa(min(max(1, near-3+r.Intn(6)), math.MaxUint32))
	}
	switch r.Intn(4) {
	case 0:
		return "1:*"
	case 1:
		return n() + ":" + n()
	case 2:
		return n() + "," + n() + ":" + n()
	}
	return n()
}

// anyFlags is the text of any flags.
func anyFlags(r *rand.Rand) string {
	return anyOf(r, "()", "(\\Seen)", "(\\Deleted)", "(\\Deleted)", "(\\Deleted \\Draft)", "(\\Flagged \\Answered)")
}

// any is the text of any command of a session.
func (w *world) any(r *rand.Rand, who int) string {
	name := anyOf(r, "x", "x", `"my box"`, "y", "none")
	l, _ := w.sessions[who].List()
	byUid, set := "", anySet(r, len(l))
	if r.Intn(2) == 0 {
		byUid, set = "UID ", anySet(r, int(l.Last()))
	}
	tag := "t" + strconv.Itoa(len(w.events)) + " "
	switch r.Intn(20) {
	case 0, 1:
		return tag + "SELECT " + name
	case 2:
		return tag + anyOf(r, "UNSELECT", "NOOP")
	case 3, 4:
		return tag + "NOOP"
	case 5, 6, 7, 8:
		return tag + "APPEND " + name + " " + anyFlags(r) + " " + anyOf(r, "{0}\r\n", "{5}\r\nhello", "{3}\r\n\r\n)")
	case 9, 10, 11:
		return tag + byUid + "STORE " + set + " " + anyOf(r, "FLAGS", "+FLAGS", "-FLAGS", "FLAGS.SILENT", "+FLAGS.SILENT") + " " + anyFlags(r)
	case 12, 13:
		return tag + byUid + "FETCH " + set + " " + anyOf(r, "FLAGS", "(UID BODY.PEEK[])", "(FLAGS BODY.PEEK[])", "BODY.PEEK[]")
	case 14, 15:
		return tag + byUid + "SEARCH " + anyOf(r, "ALL", "DELETED", "NOT DELETED", set, "UID "+set, "BODY ell", "LARGER 2")
	case 16, 17:
		return tag + byUid + "COPY " + set + " " + name
	}
	return tag + "EXPUNGE"
}

// run makes so many steps, in any order; some sessions make more of them than others.
func (w *world) run(t *testing.T, r *rand.Rand, steps int) {
	t.Helper()
	often := make([]int, len(w.sessions))
	for i := range often {
		often[i] = 1 + r.Intn(20)
	}
	burst := 1 + r.Intn(30)
	for range steps {
		who := r.Intn(len(w.sessions))
		if r.Intn(20) >= often[who] {
			continue
		}
		for range 1 + r.Intn(burst) {
			if w.under[who] == nil {
				w.begin(t, who, w.any(r, who))
			}
			w.step(t, who)
		}
	}
}

// TestAnyOrder: many sessions do anything, in any order, in spaces with many slots, and with few.
func TestAnyOrder(t *testing.T) {
	r := rand.New(rand.NewSource(190))
	ends := map[string]int{}
	same := 0
	for i := range 250 {
		c := txn.Config{Sessions: 1 + r.Intn(8), Boxes: 1 + r.Intn(4), Slots: 4 + r.Intn(80), Next: 1 + uint32(r.Intn(20)), Valid: r.Uint32()}
		if i%2 == 0 {
			c.Slots = 4096
		}
		if i%7 == 0 {
			c.Next = math.MaxUint32 - uint32(r.Intn(20))
		}
		w := newWorld(t, c)
		w.run(t, r, 300)
		w.settle(t)
		marks := map[uint64]bool{}
		for _, ev := range w.events {
			last := ev.told[strings.LastIndex(ev.told[:len(ev.told)-2], lineEnd)+1:]
			parts := strings.Fields(last)
			ends[parts[1]+" "+strings.Trim(parts[2], "[]")]++
			if marks[ev.mark] {
				same++
			}
			marks[ev.mark] = true
		}
		w.wind(t)
	}
	for _, end := range []string{"OK done", "OK READ-WRITE", "OK APPENDUID", "OK COPYUID", "NO none", "NO full", "NO uid", "NO TRYCREATE", "BAD set", "BAD state"} {
		if ends[end] < 50 {
			t.Errorf("just %d commands ended with %q", ends[end], end)
		}
	}
	if same < 100 {
		t.Errorf("just %d commands have the mark of another one", same)
	}
}

// TestFresh: numbers only rise, whatever was expunged, and two sessions never get the same.
func TestFresh(t *testing.T) {
	w := newWorld(t, txn.Config{Sessions: 3, Boxes: 1, Slots: 500, Next: 1, Valid: 7})
	for range 10 {
		for who := range 3 {
			w.begin(t, who, "a APPEND x (\\Deleted) {0}\r\n")
		}
		w.settle(t)
		w.do(t, 1, "a SELECT x", "a EXPUNGE", "a UNSELECT")
	}
	met := map[string]bool{}
	for _, ev := range w.events {
		if ev.command.Kind == command.Append && met[ev.told] {
			t.Errorf("P4: %q was told twice", ev.told)
		}
		met[ev.told] = true
	}
	if next := w.head(0).Next; next != 31 {
		t.Errorf("P4: Next is %d", next)
	}
	w.wind(t)
}
