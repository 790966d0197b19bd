package model_test

import (
	"fmt"
	"math/rand"
	"slices"
	"strings"
	"testing"

	"postchaise/api"
	"postchaise/command"
	"postchaise/edit"
	"postchaise/flags"
	"postchaise/item"
	"postchaise/list"
	"postchaise/model"
	"postchaise/reply"
	"postchaise/search"
	"postchaise/seqset"
	"postchaise/token"
	"postchaise/tree"
)

// shelf is a store from which nothing is given back, so that what was looked at stands.
type shelf map[int]tree.Node

func (s shelf) At(slot int) (tree.Node, bool) {
	n, ok := s[slot]
	return n, ok
}

// keptBox is a box whose messages stand in trees, which are changed by the edits of layer 9.
type keptBox struct {
	name string
	head tree.Head
}

// keptSession is what a session has selected, knows, and looks at; its client is what plays all that it is told.
type keptSession struct {
	box    *keptBox
	list   list.List
	view   tree.Head
	client list.List
}

// other does what a model does, by other means: it tells texts, and keeps trees.
type other struct {
	shelf    shelf
	boxes    []*keptBox
	sessions []*keptSession
	lines    []string
}

// newOther is as a model of some sessions and boxes.
func newOther(sessions int, l []model.Box) *other {
	o := &other{shelf: shelf{}}
	for _, b := range l {
		o.boxes = append(o.boxes, &keptBox{b.Name, tree.Head{Root: -1, Next: b.Next, Valid: b.Valid}})
	}
	for range sessions {
		o.sessions = append(o.sessions, &keptSession{})
	}
	return o
}

// named is the box of a name, or nil.
func (o *other) named(name string) *keptBox {
	for _, b := range o.boxes {
		if b.name == name {
			return b
		}
	}
	return nil
}

// recs are the messages of a head's tree.
func (o *other) recs(h tree.Head) []tree.Rec {
	return slices.Collect(tree.Tree{Root: h.Root, Height: h.Height}.Walk(o.shelf))
}

// rec is the message of a number in a head's tree.
func (o *other) rec(h tree.Head, uid uint32) (tree.Rec, bool) {
	return tree.Tree{Root: h.Root, Height: h.Height}.Get(o.shelf, uid)
}

// tell tells a line.
func (o *other) tell(format string, a ...any) {
	o.lines = append(o.lines, fmt.Sprintf(format, a...))
}

// look tells what became of a session's box.
func (o *other) look(s *keptSession) {
	now := o.recs(s.box.head)
	known := map[uint32]flags.Set{}
	for _, e := range s.list {
		known[e.Uid] = e.Flags
	}
	left := len(s.list)
	for i := len(s.list) - 1; i >= 0; i-- {
		if _, ok := o.rec(s.box.head, s.list[i].Uid); !ok {
			o.tell("* %d EXPUNGE", i+1)
			left--
		}
	}
	if len(now) > left {
		o.tell("* %d EXISTS", len(now))
	}
	s.list = nil
	for i, rec := range now {
		if set, ok := known[rec.Uid]; !ok || set != rec.Flags {
			o.tell("* %d FETCH (UID %d FLAGS %s)", i+1, rec.Uid, rec.Flags)
		}
		s.list = append(s.list, list.Entry{Uid: rec.Uid, Flags: rec.Flags})
	}
	s.view = s.box.head
}

// change changes a box by an edit, or answers why it does not.
func (o *other) change(b *keptBox, e edit.Edit, limit api.Errno) (edit.Done, string) {
	plan, done, err := edit.Apply(o.shelf, b.head, e)
	switch {
	case err == api.ErrUid:
		return done, "NO uid"
	case !done.Changed:
		return done, ""
	case limit == api.ErrFull:
		return done, "NO full"
	case limit == api.ErrBusy:
		return done, "NO busy"
	}
	var slots []int
	for range plan.Nodes {
		slots = append(slots, len(o.shelf)+len(slots))
	}
	nodes, head := done.At(plan, slots)
	for i, slot := range slots {
		o.shelf[slot] = nodes[i]
	}
	b.head = head
	return done, ""
}

// meant are the sequence numbers of those that are meant, and whether the set may be.
func (s *keptSession) meant(c command.Command) ([]int, bool) {
	var seqs []int
	last := uint32(len(s.list))
	for i, e := range s.list {
		n := uint32(i + 1)
		if c.ByUid {
			n, last = e.Uid, s.list[len(s.list)-1].Uid
		}
		if has(c.Set, n, last) {
			seqs = append(seqs, i+1)
		}
	}
	if c.ByUid {
		return seqs, true
	}
	for _, r := range c.Set {
		if max(r.From, r.To) > last {
			return nil, false
		}
	}
	return seqs, last > 0
}

// do tells what is told of a session's command, and answers it as a text.
func (o *other) do(who int, c command.Command, limit api.Errno) string {
	o.lines = nil
	s := o.sessions[who]
	last := "BAD state"
	if s.box != nil || c.Kind == command.Select || c.Kind == command.Noop || c.Kind == command.Append {
		last = o.doKind(s, c, limit)
	}
	return strings.Join(append(o.lines, c.Tag+" "+last, ""), lineEnd)
}

// doKind does a command by its kind, and answers how it ends.
func (o *other) doKind(s *keptSession, c command.Command, limit api.Errno) string {
	switch c.Kind {
	case command.Select:
		*s = keptSession{client: s.client, box: o.named(c.Name)}
		if s.box == nil {
			return "NO none"
		}
		o.look(s)
		fetches := slices.DeleteFunc(o.lines, func(line string) bool { return strings.HasSuffix(line, "EXISTS") })
		o.lines = nil
		o.tell(`* FLAGS (\Answered \Flagged \Deleted \Seen \Draft)`)
		o.tell("* %d EXISTS", len(s.list))
		o.tell("* 0 RECENT")
		o.tell("* OK [UIDVALIDITY %d] valid", s.box.head.Valid)
		o.tell("* OK [UIDNEXT %d] next", s.box.head.Next)
		o.lines = append(o.lines, fetches...)
		return "OK [READ-WRITE] done"
	case command.Noop:
		if s.box != nil {
			o.look(s)
		}
	case command.Append:
		return o.doAppend(s, c, limit)
	case command.Store:
		return o.doStore(s, c, limit)
	case command.Fetch:
		return o.doFetch(s, c)
	case command.Search:
		o.doSearch(s, c)
	case command.Expunge:
		if _, why := o.change(s.box, edit.Edit{Kind: edit.Expunge}, limit); why != "" {
			return why
		}
		o.look(s)
	case command.Copy:
		return o.doCopy(s, c, limit)
	case command.Unselect:
		*s = keptSession{client: s.client}
	}
	return "OK done"
}

func (o *other) doAppend(s *keptSession, c command.Command, limit api.Errno) string {
	b := o.named(c.Name)
	if b == nil {
		return "NO [TRYCREATE] none"
	}
	done, why := o.change(b, edit.Edit{Recs: []tree.Rec{{Flags: c.Flags, Text: c.Text}}}, limit)
	if why != "" {
		return why
	}
	if s.box == b {
		o.look(s)
	}
	return fmt.Sprintf("OK [APPENDUID %d %d] done", b.head.Valid, done.Recs[0].Uid)
}

func (o *other) doStore(s *keptSession, c command.Command, limit api.Errno) string {
	seqs, ok := s.meant(c)
	if !ok {
		return "BAD set"
	}
	e := edit.Edit{Kind: edit.Flag, How: c.Order.How, Flags: c.Flags}
	for _, seq := range seqs {
		e.Uids = append(e.Uids, s.list[seq-1].Uid)
	}
	done, why := o.change(s.box, e, limit)
	if why != "" {
		return why
	}
	if c.Order.Silent {
		return "OK done"
	}
	for _, rec := range done.Recs {
		seq := slices.IndexFunc(s.list, func(e list.Entry) bool { return e.Uid == rec.Uid }) + 1
		if c.ByUid {
			o.tell("* %d FETCH (UID %d FLAGS %s)", seq, rec.Uid, rec.Flags)
		} else {
			o.tell("* %d FETCH (FLAGS %s)", seq, rec.Flags)
		}
		s.list[seq-1].Flags = rec.Flags
	}
	if c.ByUid {
		o.look(s)
	}
	return "OK done"
}

// known is a message as a session knows it.
func (o *other) known(s *keptSession, seq int) tree.Rec {
	rec, _ := o.rec(s.view, s.list[seq-1].Uid)
	rec.Flags = s.list[seq-1].Flags
	return rec
}

func (o *other) doFetch(s *keptSession, c command.Command) string {
	if c.ByUid {
		o.look(s)
		c.Items |= item.Uid
	}
	seqs, ok := s.meant(c)
	if !ok {
		return "BAD set"
	}
	for _, seq := range seqs {
		o.tell("* %d FETCH %s", seq, c.Items.Tell(o.known(s, seq)))
	}
	return "OK done"
}

func (o *other) doSearch(s *keptSession, c command.Command) {
	if c.ByUid {
		o.look(s)
	}
	line := "* SEARCH"
	for i := range s.list {
		rec := o.known(s, i+1)
		if c.Key.Match(rec, search.Place{Seq: uint32(i + 1), LastSeq: uint32(len(s.list)), LastUid: s.list[len(s.list)-1].Uid}) {
			if c.ByUid {
				line += fmt.Sprintf(" %d", rec.Uid)
			} else {
				line += fmt.Sprintf(" %d", i+1)
			}
		}
	}
	o.lines = append(o.lines, line)
}

func (o *other) doCopy(s *keptSession, c command.Command, limit api.Errno) string {
	seqs, ok := s.meant(c)
	if !ok {
		return "BAD set"
	}
	b := o.named(c.Name)
	if b == nil {
		return "NO [TRYCREATE] none"
	}
	var e edit.Edit
	var from, to []uint32
	for _, seq := range seqs {
		e.Recs = append(e.Recs, o.known(s, seq))
		from = append(from, s.list[seq-1].Uid)
	}
	done, why := o.change(b, e, limit)
	if why != "" {
		return why
	}
	for _, rec := range done.Recs {
		to = append(to, rec.Uid)
	}
	if s.box == b {
		o.look(s)
	}
	if len(from) == 0 {
		return "OK done"
	}
	return fmt.Sprintf("OK [COPYUID %d %s %s] done", b.head.Valid, seqset.Of(from...), seqset.Of(to...))
}

// play plays what is told to a session's client, and holds what P18.3 says of it.
func (s *keptSession) play(t *testing.T, c command.Command, text string) {
	t.Helper()
	lines, err := reply.Parse(text)
	// A size alone is read, but not printed again: the text that it is of is not known.
	if err != api.OK || reply.Print(lines...) != text && !strings.Contains(text, "RFC822.SIZE") {
		t.Fatalf("P18.3: %q is read as %#v", text, lines)
	}
	quiet := !c.ByUid && (c.Kind == command.Fetch || c.Kind == command.Store || c.Kind == command.Search)
	for _, line := range lines {
		if line.Kind == reply.Info && strings.HasPrefix(line.Text, "FLAGS ") {
			s.client = nil
		}
		note, ok := line.Note()
		if !ok {
			continue
		}
		if note.Kind == list.Gone && quiet {
			t.Fatalf("P18.3: %q tells %q", c, line)
		}
		if note.Kind == list.Fetch && note.Seq >= 1 && note.Seq <= len(s.client) {
			known := s.client[note.Seq-1]
			if line.Items&item.Uid == 0 {
				note.Entry.Uid = known.Uid
			}
			if line.Items&item.Flags == 0 {
				note.Entry.Flags = known.Flags
			}
		}
		// Play turns down an exists that tells fewer.
		now, err := s.client.Play(note)
		if err != api.OK {
			t.Fatalf("P18.3: %q tells %q to a client with %v", c, line, s.client)
		}
		s.client = now
	}
}

// anySet is a set of any ranges near what there is.
func anySet(random *rand.Rand, greatest int) seqset.Set {
	set := make(seqset.Set, 1+random.Intn(3))
	for i := range set {
		set[i] = seqset.Range{From: uint32(random.Intn(greatest + 1)), To: uint32(random.Intn(greatest + 1))}
		if random.Intn(2) == 0 {
			set[i].To = set[i].From
		}
	}
	return set
}

// anyFlags is a set of flags, often with \Deleted.
func anyFlags(random *rand.Rand) flags.Set {
	set := flags.Set(random.Intn(32))
	if random.Intn(2) == 0 {
		set |= flags.Deleted
	}
	return set
}

// anyCommand is a command that may be; its numbers are near those of a box that has given so many.
func anyCommand(random *rand.Rand, first, length int) command.Command {
	c := command.Command{Tag: "a" + fmt.Sprint(random.Intn(100)), Kind: random.Intn(command.Unselect + 1)}
	if c.Kind == command.Unselect && random.Intn(4) > 0 {
		c.Kind = command.Append
	}
	name := []string{"x", "x", "x", "y", "my box", "none"}[random.Intn(6)]
	c.ByUid = (c.Kind == command.Store || c.Kind == command.Fetch || c.Kind == command.Search || c.Kind == command.Copy) && random.Intn(2) == 0
	set := anySet(random, length+1)
	if c.ByUid {
		for i := range set {
			set[i].From += min(set[i].From, 1) * uint32(first)
			set[i].To += min(set[i].To, 1) * uint32(first)
		}
	}
	switch c.Kind {
	case command.Select:
		c.Name = name
	case command.Append:
		c.Name, c.Flags, c.Text = name, anyFlags(random), []string{"", "hello", "a\r\n)", "HELL"}[random.Intn(4)]
	case command.Store:
		c.Set, c.Order, c.Flags = set, item.Order{How: random.Intn(3), Silent: random.Intn(3) == 0}, anyFlags(random)
	case command.Fetch:
		c.Set, c.Items = set, item.Items(1+random.Intn(15))
	case command.Search:
		c.Key = []search.Key{
			{}, {Kind: search.Has, Flag: flags.Deleted}, {Kind: search.Lacks, Flag: flags.Seen}, {Kind: search.Seq, Set: set}, {Kind: search.Uid, Set: set}, {Kind: search.Body, S: "hell"}, {Kind: search.Not, Kids: []search.Key{{Kind: search.Larger, N: 3}}},
		}[random.Intn(7)]
	case command.Copy:
		c.Set, c.Name = set, name
	}
	return c
}

// TestAny does any commands of several sessions, and holds what is told, and what there is then, against the same by other means.
func TestAny(t *testing.T) {
	random := rand.New(rand.NewSource(18))
	ends := map[string]int{}
	for range 300 {
		l := []model.Box{{Name: "x", Next: 1, Valid: 7}, {Name: "y", Next: uint32(1 + random.Intn(5)), Valid: 8}, {Name: "my box", Next: 1<<32 - 5, Valid: 9}}
		sessions := 1 + random.Intn(4)
		m, o := made(t, sessions, l...), newOther(sessions, l)
		for range 200 {
			who := random.Intn(sessions)
			first, length := 0, 3
			if s := o.sessions[who]; len(s.list) > 0 {
				first, length = int(s.list[0].Uid)-1, len(s.list)
			}
			c := anyCommand(random, first, length)
			limit := []api.Errno{api.OK, api.OK, api.OK, api.OK, api.OK, api.ErrFull, api.ErrBusy}[random.Intn(7)]
			want := o.do(who, c, limit)
			lines, err := m.Do(who, c, limit)
			if got := reply.Print(lines...); err != api.OK || got != want {
				t.Fatalf("P18.1: %q, limit %d, error %d:\n%q\nnot\n%q", c, limit, err, got, want)
			}
			o.sessions[who].play(t, c, want)
			o.hold(t, m)
			parts := strings.Fields(want[strings.LastIndex(want[:len(want)-2], lineEnd)+1:])
			ends[parts[1]+" "+strings.Trim(parts[2], "[]")]++
		}
	}
	for _, end := range []string{"OK done", "OK READ-WRITE", "OK APPENDUID", "OK COPYUID", "NO none", "NO full", "NO busy", "NO uid", "NO TRYCREATE", "BAD set", "BAD state"} {
		if ends[end] < 20 {
			t.Errorf("P18.1: just %d commands ended with %q", ends[end], end)
		}
	}
}

// hold holds all that is to be seen of a model against what there is.
func (o *other) hold(t *testing.T, m *model.Model) {
	t.Helper()
	for i, b := range o.boxes {
		if !slices.Equal(m.Recs(i), o.recs(b.head)) || m.Next(i) != b.head.Next {
			t.Fatalf("P18.2: the box %d: %v, Next %d, not %v, %d", i, m.Recs(i), m.Next(i), o.recs(b.head), b.head.Next)
		}
	}
	for who, s := range o.sessions {
		l, ok := m.List(who)
		if ok != (s.box != nil) || ok && !slices.Equal(l, s.list) || !ok && len(l) != 0 {
			t.Fatalf("P18.1: the list of %d: %v %v, not %v", who, l, ok, s.list)
		}
		if !ok {
			continue
		}
		if !slices.Equal(l, s.client) {
			t.Fatalf("P18.3: the client of %d has %v, not %v", who, s.client, l)
		}
		for i, e := range l {
			if e.Uid == 0 || i > 0 && e.Uid <= l[i-1].Uid {
				t.Fatalf("P18.3: the numbers of %v do not rise", l)
			}
		}
	}
}

// What a command tells is the same, whether it was made or read.
func TestReadOrMade(t *testing.T) {
	random := rand.New(rand.NewSource(19))
	l := []model.Box{{Name: "x", Next: 1, Valid: 7}, {Name: token.Upper("x"), Next: 9}}
	one, two := made(t, 1, l...), made(t, 1, l...)
	for range 2000 {
		c := anyCommand(random, 0, 5)
		got, _ := one.Do(0, c, api.OK)
		want, _ := two.Do(0, parse(t, c.String()), api.OK)
		if !slices.EqualFunc(got, want, alike) {
			t.Fatalf("P18.1: %q: %q, not %q", c, reply.Print(got...), reply.Print(want...))
		}
	}
}
