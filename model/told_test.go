package model_test

import (
	"math"
	"slices"
	"strings"
	"testing"

	"postchaise/api"
	"postchaise/command"
	"postchaise/flags"
	"postchaise/item"
	"postchaise/list"
	"postchaise/model"
	"postchaise/reply"
	"postchaise/seqset"
	"postchaise/tree"
)

// A change that the limit keeps from coming off is told by that alone, and changes nothing; one that changes nothing comes off.
func TestLimit(t *testing.T) {
	m := small(t)
	put(t, m, 0, "x", "(\\Seen)", "one", "two")
	told(t, m, 0, "a SELECT x", api.OK)
	told(t, m, 1, "a SELECT x", api.OK)
	told(t, m, 1, "a STORE 2 +FLAGS (\\Deleted)", api.OK)
	put(t, m, 1, "x", "()", "three")
	for limit, text := range map[api.Errno]string{api.ErrFull: "full", api.ErrBusy: "busy"} {
		before := all(m)
		for _, s := range []string{"a APPEND x {0}\r\n", "a APPEND y (\\Seen) {2}\r\nhi", "a STORE 1 FLAGS ()", "a STORE 1:2 +FLAGS (\\Draft)", "a STORE 1 -FLAGS.SILENT (\\Seen)", "a UID STORE 1:* FLAGS (\\Draft)", "a UID STORE 1 FLAGS.SILENT ()", "a EXPUNGE", "a COPY 1 x", "a COPY 1:2 y", "a UID COPY 1 y"} {
			holdLimited(t, m, 0, s, limit, "a NO "+text)
			if now := all(m); now != before {
				t.Fatalf("P18.1: %q, limit %d changed it from\n%sto\n%s", s, limit, before, now)
			}
		}
		// What is wrong ahead of the change comes ahead of the limit.
		holdLimited(t, m, 0, "a STORE 3 FLAGS ()", limit, "a BAD set")
		holdLimited(t, m, 0, "a COPY 3 x", limit, "a BAD set")
		holdLimited(t, m, 0, "a COPY 1 z", limit, "a NO [TRYCREATE] none")
		holdLimited(t, m, 0, "a APPEND z {0}\r\n", limit, "a NO [TRYCREATE] none")
		// Nothing is changed by these.
		holdLimited(t, m, 0, "a STORE 1 FLAGS (\\Seen)", limit, "* 1 FETCH (FLAGS (\\Seen))", "a OK done")
		holdLimited(t, m, 0, "a STORE 1 +FLAGS.SILENT ()", limit, "a OK done")
		holdLimited(t, m, 0, "a UID STORE 99 FLAGS.SILENT (\\Seen)", limit, "a OK done")
		holdLimited(t, m, 0, "a UID COPY 99 y", limit, "a OK done")
		if now := all(m); now != before {
			t.Fatalf("P18.1: it was changed from\n%sto\n%s", before, now)
		}
	}
	holdLimited(t, m, 0, "a UID STORE 1 +FLAGS (\\Seen)", api.ErrFull, "* 1 FETCH (UID 1 FLAGS (\\Seen))", "* 3 EXISTS", "* 2 FETCH (UID 2 FLAGS (\\Deleted \\Seen))", "* 3 FETCH (UID 3 FLAGS ())", "a OK done")
	told(t, m, 1, "a STORE 2 -FLAGS (\\Deleted)", api.OK)
	holdLimited(t, m, 0, "a EXPUNGE", api.ErrBusy, "* 2 FETCH (UID 2 FLAGS (\\Seen))", "a OK done")
	put(t, m, 1, "x", "()", "four")
	holdLimited(t, m, 0, "a UID COPY 99 x", api.ErrFull, "* 4 EXISTS", "* 4 FETCH (UID 4 FLAGS ())", "a OK done")
}

// Numbers go up to the last but one that there is: the next one must be a number, too.
func TestNoNumber(t *testing.T) {
	m := made(t, 2, model.Box{Name: "x", Next: math.MaxUint32 - 2, Valid: 1}, model.Box{Name: "y", Next: math.MaxUint32, Valid: 2}, model.Box{Name: "z", Next: 1, Valid: 3})
	put(t, m, 0, "z", "()", "one", "two", "three")
	told(t, m, 0, "a SELECT z", api.OK)
	put(t, m, 1, "z", "()", "four")
	before := all(m)
	for _, limit := range []api.Errno{api.OK, api.ErrFull, api.ErrBusy} {
		// Such a change tries nothing that the limit would be about.
		holdLimited(t, m, 0, "a COPY 1:3 x", limit, "a NO uid")
		holdLimited(t, m, 0, "a COPY 1 y", limit, "a NO uid")
		holdLimited(t, m, 0, "a UID COPY 1:3 y", limit, "a NO uid")
		holdLimited(t, m, 0, "a APPEND y {1}\r\nx", limit, "a NO uid")
		holdLimited(t, m, 0, "a UID COPY 99 y", limit, "a OK done")
	}
	if now := all(m); now != before {
		t.Errorf("P18.1: it was changed from\n%sto\n%s", before, now)
	}
	hold(t, m, 0, "a COPY 1:2 x", "a OK [COPYUID 1 1:2 4294967293:4294967294] done")
	if m.Next(0) != math.MaxUint32 || m.Next(1) != math.MaxUint32 {
		t.Errorf("P18.2: Next is %d and %d", m.Next(0), m.Next(1))
	}
	hold(t, m, 0, "a APPEND x {1}\r\nx", "a NO uid")
	// If it is the selected one it does not look, either.
	told(t, m, 1, "a SELECT x", api.OK)
	told(t, m, 0, "a SELECT x", api.OK)
	told(t, m, 0, "a STORE 1 FLAGS (\\Deleted)", api.OK)
	told(t, m, 0, "a EXPUNGE", api.OK)
	hold(t, m, 1, "a APPEND x {1}\r\nx", "a NO uid")
	hold(t, m, 1, "a COPY 1 x", "a NO uid")
	hold(t, m, 1, "a NOOP", "* 1 EXPUNGE", "a OK done")
	hold(t, m, 1, "a SELECT y", append(greeted("0", "2", "4294967295"), "a OK [READ-WRITE] done")...)
}

// has: does a range of a set mean a number, by a last one? (Told without the package.)
func has(set seqset.Set, n, last uint32) bool {
	return slices.ContainsFunc(set, func(r seqset.Range) bool {
		if r.From == 0 {
			r.From = last
		}
		if r.To == 0 {
			r.To = last
		}
		return n != 0 && min(r.From, r.To) <= n && n <= max(r.From, r.To)
	})
}

// TestResolve holds all small sets against all small lists.
func TestResolve(t *testing.T) {
	ends := []uint32{0, 1, 2, 3, 4, 5, 6, 7, math.MaxUint32}
	var sets []seqset.Set
	for _, from := range ends {
		for _, to := range ends {
			sets = append(sets, seqset.Set{{From: from, To: to}})
		}
	}
	for i := range 81 {
		sets = append(sets, seqset.Set{sets[i][0], sets[i*7%81][0]}, seqset.Set{sets[i*5%81][0], sets[i*11%81][0], sets[i*2%81][0]})
	}
	for bits := range 1 << 6 {
		var l list.List
		for n := range 6 {
			if bits>>n&1 == 1 {
				l = append(l, list.Entry{Uid: uint32(n + 1), Flags: flags.Set(n)})
			}
		}
		for _, set := range sets {
			holdResolve(t, l, set)
		}
	}
	holdResolve(t, list.List{{Uid: math.MaxUint32}}, seqset.Set{{From: 0, To: 1}})
	holdResolve(t, list.List{{Uid: 1}, {Uid: math.MaxUint32}}, seqset.Set{{From: math.MaxUint32, To: math.MaxUint32}})
}

// holdResolve holds which of a list are meant by a set, both by numbers and not.
func holdResolve(t *testing.T, l list.List, set seqset.Set) {
	t.Helper()
	var bySeq, byUid []int
	last, within := uint32(0), len(l) > 0
	if len(l) > 0 {
		last = l[len(l)-1].Uid
	}
	for i, e := range l {
		if has(set, uint32(i+1), uint32(len(l))) {
			bySeq = append(bySeq, i)
		}
		if has(set, e.Uid, last) {
			byUid = append(byUid, i)
		}
	}
	for _, r := range set {
		within = within && r.From <= uint32(len(l)) && r.To <= uint32(len(l))
	}
	if !within {
		bySeq = nil
	}
	kept, keptSet := slices.Clone(l), slices.Clone(set)
	if got, ok := model.Resolve(l, command.Command{Set: set}); ok != within || !slices.Equal(got, bySeq) {
		t.Fatalf("P18.2: %v of %v: %v %v, not %v %v", set, l, got, ok, bySeq, within)
	}
	if got, ok := model.Resolve(l, command.Command{ByUid: true, Set: set}); !ok || !slices.Equal(got, byUid) {
		t.Fatalf("P18.2: %v of %v by numbers: %v %v, not %v", set, l, got, ok, byUid)
	}
	if !slices.Equal(l, kept) || !slices.Equal(set, keptSet) {
		t.Fatalf("P18.2: %v of %v was changed", keptSet, kept)
	}
}

func TestGreet(t *testing.T) {
	for _, c := range []struct {
		l           list.List
		next, valid uint32
		want        []string
	}{
		{nil, 1, 7, greeted("0", "7", "1")},
		{list.List{}, math.MaxUint32, 0, greeted("0", "0", "4294967295")},
		{list.List{{Uid: 5, Flags: 31}}, 0, math.MaxUint32, append(greeted("1", "4294967295", "0"), `* 1 FETCH (UID 5 FLAGS (\Answered \Flagged \Deleted \Seen \Draft))`)},
		{list.List{{Uid: 5}, {Uid: 9, Flags: flags.Seen}, {Uid: 12}}, 13, 2, append(greeted("3", "2", "13"), "* 1 FETCH (UID 5 FLAGS ())", "* 2 FETCH (UID 9 FLAGS (\\Seen))", "* 3 FETCH (UID 12 FLAGS ())")},
	} {
		lines := model.Greet(c.l, c.next, c.valid)
		if got := reply.Print(lines...); got != strings.Join(c.want, lineEnd)+lineEnd {
			t.Errorf("P18.2: %v, %d, %d: %q", c.l, c.next, c.valid, got)
		}
		kinds := []int{reply.Info, reply.Exists, reply.Info, reply.Done, reply.Done}
		for i, line := range lines {
			want := reply.Fetch
			if i < len(kinds) {
				want = kinds[i]
			}
			if line.Kind != want {
				t.Errorf("P18.2: the line %q is of the kind %d, not %d", line.String(), line.Kind, want)
			}
		}
		if got, err := reply.Parse(reply.Print(lines...)); err != api.OK || !slices.EqualFunc(got, lines, alike) {
			t.Errorf("P18.2: %#v is read as %#v", lines, got)
		}
	}
}

// alike: are two lines one?
func alike(a, b reply.Line) bool {
	return a.Kind == b.Kind && a.Seq == b.Seq && a.Items == b.Items && a.Rec == b.Rec && a.Size == b.Size &&
		slices.Equal(a.Nums, b.Nums) && a.Tag == b.Tag && a.Word == b.Word && a.Text == b.Text
}

func TestTold(t *testing.T) {
	for _, m := range []tree.Rec{{}, {Uid: 5, Flags: flags.Seen, Text: "hello"}, {Uid: math.MaxUint32, Flags: 31, Text: strings.Repeat("\n", 65536)}} {
		for _, seq := range []int{0, 1, math.MaxInt32} {
			for items := item.Items(0); items < 16; items++ {
				want := reply.Line{Kind: reply.Fetch, Seq: seq, Items: items}
				if items&item.Uid != 0 {
					want.Rec.Uid = m.Uid
				}
				if items&item.Flags != 0 {
					want.Rec.Flags = m.Flags
				}
				if items&item.Size != 0 {
					want.Rec.Text, want.Size = m.Text, len(m.Text)
				}
				if items&item.Body != 0 {
					want.Rec.Text = m.Text
				}
				if got := model.Told(items, seq, m); !alike(got, want) {
					t.Errorf("P18.2: items %d, %d: %.100q, not %.100q", items, seq, got.String(), want.String())
				}
			}
		}
	}
	// Bits that count for nothing are not told.
	got := model.Told(0xf2, 1, tree.Rec{Uid: 5, Flags: 255, Text: "x"})
	if want := (reply.Line{Kind: reply.Fetch, Seq: 1, Items: item.Flags, Rec: tree.Rec{Flags: 31}}); !alike(got, want) {
		t.Errorf("P18.2: %#v, not %#v", got, want)
	}
}

func TestCopied(t *testing.T) {
	for _, c := range []struct {
		valid    uint32
		from, to []uint32
		want     string
	}{
		{7, []uint32{1}, []uint32{5}, "[COPYUID 7 1 5] done"},
		{0, []uint32{1, 2, 3}, []uint32{5, 6, 7}, "[COPYUID 0 1:3 5:7] done"},
		{math.MaxUint32, []uint32{1, 3, 4, math.MaxUint32 - 1}, []uint32{7, 8, 9, 10}, "[COPYUID 4294967295 1,3:4,4294967294 7:10] done"},
		{7, nil, nil, "done"},
		{7, []uint32{}, []uint32{}, "done"},
	} {
		from, to := slices.Clone(c.from), slices.Clone(c.to)
		if got := model.Copied(c.valid, from, to); got != c.want || !slices.Equal(from, c.from) || !slices.Equal(to, c.to) {
			t.Errorf("P18.2: %d, %v, %v: %q, not %q", c.valid, c.from, c.to, got, c.want)
		}
	}
	// Also of more ranges than a set of a command may have.
	var from, to []uint32
	for i := range uint32(500) {
		from, to = append(from, 2*i+1), append(to, i+1)
	}
	if got := model.Copied(7, from, to); got != "[COPYUID 7 "+seqset.Of(from...).String()+" 1:500] done" {
		t.Errorf("P18.2: %q", got)
	}
}

// What is answered has nothing in common with what is kept, nor with other answers.
func TestApart(t *testing.T) {
	m := small(t)
	put(t, m, 0, "x", "(\\Seen)", "one", "two", "three")
	told(t, m, 0, "a SELECT x", api.OK)
	told(t, m, 1, "a SELECT x", api.OK)
	before := all(m)
	spoil := func() {
		for who := range 2 {
			l, _ := m.List(who)
			clear(l)
			_ = append(l[:0], list.Entry{Uid: 9})
			clear(m.Recs(who))
		}
		for _, text := range []string{"a NOOP", "a SEARCH ALL", "a UID SEARCH ALL", "a FETCH 1:3 (FLAGS BODY.PEEK[])", "a SELECT x", "a COPY 1 z"} {
			c := parse(t, text)
			lines, _ := m.Do(0, c, api.OK)
			for _, line := range lines {
				clear(line.Nums)
			}
			clear(lines)
			clear(c.Set)
		}
		l, _ := m.List(0)
		clear(model.Greet(l, 1, 2))
	}
	spoil()
	if now := all(m); now != before {
		t.Errorf("P18.2: it was changed from\n%sto\n%s", before, now)
	}
	hold(t, m, 0, "a SEARCH ALL", "* SEARCH 1 2 3", "a OK done")
	hold(t, m, 0, "a FETCH 2 BODY.PEEK[]", "* 2 FETCH (BODY[] {3}\r\ntwo)", "a OK done")
	// Two sessions that looked at the same have nothing in common, nor have they with the box.
	told(t, m, 0, "a STORE 2 FLAGS (\\Deleted)", api.OK)
	holdList(t, m, 1, list.Entry{Uid: 1, Flags: flags.Seen}, list.Entry{Uid: 2, Flags: flags.Seen}, list.Entry{Uid: 3, Flags: flags.Seen})
	told(t, m, 0, "a EXPUNGE", api.OK)
	put(t, m, 0, "x", "()", "four")
	hold(t, m, 1, "a FETCH 1:* (UID FLAGS BODY.PEEK[])", "* 1 FETCH (UID 1 FLAGS (\\Seen) BODY[] {3}\r\none)", "* 2 FETCH (UID 2 FLAGS (\\Seen) BODY[] {3}\r\ntwo)", "* 3 FETCH (UID 3 FLAGS (\\Seen) BODY[] {5}\r\nthree)", "a OK done")
}
