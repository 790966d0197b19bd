package list_test

import (
	"math"
	"math/rand"
	"slices"
	"testing"

	"postchaise/api"
	"postchaise/flags"
	"postchaise/list"
	"postchaise/tree"
)

// mostNew is how many new entries one note may tell.
const mostNew = 65536

// of is the list of these numbers, without flags.
func of(uids ...uint32) list.List {
	var l list.List
	for _, uid := range uids {
		l = append(l, list.Entry{Uid: uid})
	}
	return l
}

// gone, exists and fetch are notes.
func gone(seq int) list.Note { return list.Note{Kind: list.Gone, Seq: seq} }

func exists(n int) list.Note { return list.Note{Kind: list.Exists, Seq: n} }

func fetch(seq int, uid uint32, set flags.Set) list.Note {
	return list.Note{Kind: list.Fetch, Seq: seq, Entry: list.Entry{Uid: uid, Flags: set}}
}

// smallLists are all lists of the numbers from 1 to most, each without flags, with \Seen, or with a bit that is no flag.
func smallLists(most uint32) []list.List {
	lists := []list.List{nil}
	for uid := uint32(1); uid <= most; uid++ {
		for _, l := range slices.Clone(lists) {
			for _, set := range []flags.Set{0, flags.Seen, 128} {
				lists = append(lists, append(slices.Clone(l), list.Entry{Uid: uid, Flags: set}))
			}
		}
	}
	return lists
}

// promised: does each number of now stand in l, or above all of l's?
func promised(l, now list.List) bool {
	for _, e := range now {
		if l.Last() >= e.Uid && l.Seq(e.Uid) == 0 {
			return false
		}
	}
	return true
}

// wanted are the notes that should be told, by maps in place of the lists' order.
func wanted(l, now list.List) []list.Note {
	before, behind := map[uint32]flags.Set{}, map[uint32]flags.Set{}
	greatest := uint32(0)
	for _, e := range l {
		before[e.Uid] = e.Flags
		greatest = max(greatest, e.Uid)
	}
	above := false
	for _, e := range now {
		behind[e.Uid] = e.Flags
		above = above || e.Uid > greatest
	}
	var notes []list.Note
	for seq := len(l); seq > 0; seq-- {
		if _, ok := behind[l[seq-1].Uid]; !ok {
			notes = append(notes, gone(seq))
		}
	}
	if above {
		notes = append(notes, exists(len(now)))
	}
	for i, e := range now {
		if set, ok := before[e.Uid]; !ok || set != e.Flags {
			notes = append(notes, fetch(i+1, e.Uid, e.Flags))
		}
	}
	return notes
}

// holdDiff holds the notes from one list to another against what they should be, and what is played against that list.
func holdDiff(t *testing.T, l, now list.List) {
	t.Helper()
	notes := l.Diff(now)
	if want := wanted(l, now); !slices.Equal(notes, want) {
		t.Fatalf("P11.2: from %v to %v: %v, not %v", l, now, notes, want)
	}
	for i := range notes {
		part, err := l.Play(notes[:i]...)
		if err != api.OK {
			t.Fatalf("P11.4: from %v to %v: %v can't be played: %v", l, now, notes[:i], err)
		}
		if notes[i].Kind == list.Exists && notes[i].Seq < len(part) {
			t.Fatalf("P11.4: from %v to %v: exists %d of %d entries", l, now, notes[i].Seq, len(part))
		}
	}
	if got, err := l.Play(notes...); err != api.OK || !slices.Equal(got, now) {
		t.Fatalf("P11.4: from %v, played %v: %v, %v, not %v", l, notes, got, err, now)
	}
}

func TestOf(t *testing.T) {
	recs := []tree.Rec{{Uid: 3, Flags: flags.Seen, Text: "a"}, {Uid: 1, Text: "b"}, {Uid: math.MaxUint32, Flags: 255}}
	want := list.List{{Uid: 3, Flags: flags.Seen}, {Uid: 1}, {Uid: math.MaxUint32, Flags: 255}}
	l := list.Of(recs...)
	if !slices.Equal(l, want) {
		t.Errorf("P11.1: Of: %v, not %v", l, want)
	}
	recs[0].Uid = 9
	if !slices.Equal(l, want) {
		t.Errorf("P1, R4: the list changes with what was handed in: %v", l)
	}
	if l := list.Of(); len(l) != 0 {
		t.Errorf("P11.1: Of of none: %v", l)
	}
}

func TestSeq(t *testing.T) {
	l := of(2, 5, 0, 5, 4, math.MaxUint32, 0)
	for uid, want := range map[uint32]int{2: 1, 5: 2, 0: 3, 4: 5, math.MaxUint32: 6, 1: 0, 3: 0, 6: 0} {
		if got := l.Seq(uid); got != want {
			t.Errorf("P11.1: Seq(%d): %d, not %d", uid, got, want)
		}
	}
	if got := list.List(nil).Seq(0); got != 0 {
		t.Errorf("P11.1: Seq(0) of no entry: %d", got)
	}
}

func TestLast(t *testing.T) {
	for _, c := range []struct {
		l    list.List
		want uint32
	}{{nil, 0}, {list.List{}, 0}, {of(7), 7}, {of(7, 9), 9}, {of(9, 7), 7}, {of(9, 0), 0}, {of(math.MaxUint32), math.MaxUint32}} {
		if got := c.l.Last(); got != c.want {
			t.Errorf("P11.1: Last of %v: %d, not %d", c.l, got, c.want)
		}
	}
}

func TestDiffExample(t *testing.T) {
	now := list.List{{Uid: 3, Flags: flags.Seen}, {Uid: 5}, {Uid: 8}}
	got := of(1, 3, 5).Diff(now)
	want := []list.Note{gone(1), exists(3), fetch(1, 3, flags.Seen), fetch(3, 8, 0)}
	if !slices.Equal(got, want) {
		t.Errorf("P11.2: %v, not %v", got, want)
	}
	now = list.List{{Uid: 3}, {Uid: 5, Flags: flags.Seen}, {Uid: 8}}
	want = []list.Note{gone(1), exists(3), fetch(2, 5, flags.Seen), fetch(3, 8, 0)}
	if got := of(1, 3, 5).Diff(now); !slices.Equal(got, want) {
		t.Errorf("P11.2: the chapter's example: %v, not %v", got, want)
	}
}

func TestDiffEdges(t *testing.T) {
	for _, c := range []struct {
		l, now list.List
		want   []list.Note
	}{
		{nil, nil, nil},
		{of(4), of(4), nil},
		{of(1, 2, 3), nil, []list.Note{gone(3), gone(2), gone(1)}},
		{nil, of(9), []list.Note{exists(1), fetch(1, 9, 0)}},
		{of(5), of(6), []list.Note{gone(1), exists(1), fetch(1, 6, 0)}},
		{of(1, math.MaxUint32-1), of(1, math.MaxUint32), []list.Note{gone(2), exists(2), fetch(2, math.MaxUint32, 0)}},
		{list.List{{Uid: 1, Flags: 32}}, of(1), []list.Note{fetch(1, 1, 0)}},
		{of(1, 2, 3, 4), of(1, 4), []list.Note{gone(3), gone(2)}},
	} {
		if got := c.l.Diff(c.now); !slices.Equal(got, c.want) {
			t.Errorf("P11.2: from %v to %v: %v, not %v", c.l, c.now, got, c.want)
		}
	}
}

func TestDiffAllSmall(t *testing.T) {
	lists := smallLists(4)
	held := 0
	for _, l := range lists {
		for _, now := range lists {
			if promised(l, now) {
				holdDiff(t, l, now)
				held++
			}
		}
	}
	if held < 1000 {
		t.Errorf("just %d pairs were held", held)
	}
}

func TestDiffAny(t *testing.T) {
	random := rand.New(rand.NewSource(11))
	for range 300 {
		var l, now list.List
		for uid := uint32(1); uid < 200; uid++ {
			old := list.Entry{Uid: uid, Flags: flags.Set(random.Intn(4))}
			if uid < 120 && random.Intn(2) == 0 {
				l = append(l, old)
			}
			if random.Intn(3) > 0 && (len(l) > 0 && l.Last() == uid || uid >= 120) {
				if random.Intn(3) == 0 {
					old.Flags ^= flags.Set(random.Intn(256))
				}
				now = append(now, old)
			}
		}
		holdDiff(t, l, now)
	}
}

// Of lists that do not rise nothing is told, but that the call ends.
func TestDiffEnds(t *testing.T) {
	var lists []list.List
	for n := range uint32(256) {
		lists = append(lists, of(n&3, n>>2&3, n>>4&3, n>>6)[:n%5])
	}
	for _, l := range lists {
		for _, now := range lists {
			kept, keptNow := slices.Clone(l), slices.Clone(now)
			l.Diff(now)
			if !slices.Equal(l, kept) || !slices.Equal(now, keptNow) {
				t.Fatalf("P1, R4: Diff from %v to %v changes what it was handed", kept, keptNow)
			}
		}
	}
}

func TestPlay(t *testing.T) {
	l := of(1, 2, 3)
	for _, c := range []struct {
		notes []list.Note
		want  list.List
	}{
		{nil, of(1, 2, 3)},
		{[]list.Note{gone(1)}, of(2, 3)},
		{[]list.Note{gone(3)}, of(1, 2)},
		{[]list.Note{gone(1), gone(1), gone(1)}, nil},
		{[]list.Note{gone(2), gone(2)}, of(1)},
		{[]list.Note{exists(3)}, of(1, 2, 3)},
		{[]list.Note{exists(5)}, of(1, 2, 3, 0, 0)},
		{[]list.Note{exists(4), fetch(4, 9, flags.Seen)}, list.List{{Uid: 1}, {Uid: 2}, {Uid: 3}, {Uid: 9, Flags: flags.Seen}}},
		{[]list.Note{fetch(1, 0, 255)}, list.List{{Flags: 255}, {Uid: 2}, {Uid: 3}}},
		{[]list.Note{fetch(3, 1, 1), fetch(3, 8, 2)}, list.List{{Uid: 1}, {Uid: 2}, {Uid: 8, Flags: 2}}},
		{[]list.Note{gone(1), exists(2), exists(3), gone(1), fetch(2, 7, 0)}, of(3, 7)},
	} {
		got, err := l.Play(c.notes...)
		if err != api.OK || !slices.Equal(got, c.want) {
			t.Errorf("P11.3: %v: %v, %v, not %v", c.notes, got, err, c.want)
		}
		if !slices.Equal(l, of(1, 2, 3)) {
			t.Fatalf("P1, R4: Play of %v changes the list", c.notes)
		}
	}
}

// What a gone, or an exists, tells beside its number counts for nothing, and new entries are bare also where others stood.
func TestPlayBare(t *testing.T) {
	entry := list.Entry{Uid: 5, Flags: flags.Seen}
	got, err := of(1, 2, 3).Play(
		list.Note{Kind: list.Gone, Seq: 3, Entry: entry}, list.Note{Kind: list.Gone, Seq: 2, Entry: entry}, list.Note{Kind: list.Exists, Seq: 3, Entry: entry})
	if err != api.OK || !slices.Equal(got, of(1, 0, 0)) {
		t.Errorf("P11.3: %v, %v", got, err)
	}
}

func TestPlayWrong(t *testing.T) {
	l := of(1, 2, 3)
	for _, n := range []list.Note{
		gone(0), gone(-1), gone(4), gone(math.MaxInt), gone(math.MinInt),
		exists(2), exists(0), exists(-1), exists(math.MinInt), exists(3 + mostNew + 1), exists(math.MaxInt),
		fetch(0, 1, 0), fetch(-1, 1, 0), fetch(4, 1, 0), fetch(math.MaxInt, 1, 0), fetch(math.MinInt, 1, 0),
		{Kind: -1, Seq: 3}, {Kind: 3, Seq: 3}, {Kind: math.MaxInt, Seq: 3}, {Kind: math.MinInt, Seq: 3},
	} {
		for _, notes := range [][]list.Note{{n}, {exists(3), n}, {n, gone(1)}, {fetch(1, 9, 9), n, exists(3)}} {
			got, err := l.Play(notes...)
			if err != api.ErrRange || len(got) != 0 {
				t.Errorf("P11.3: %v: %v, %v, not nothing and ErrRange", notes, got, err)
			}
			if !slices.Equal(l, of(1, 2, 3)) {
				t.Fatalf("P1, R4: Play of %v changes the list", notes)
			}
		}
	}
	for _, n := range []list.Note{gone(1), fetch(1, 1, 0), exists(-1)} {
		if got, err := list.List(nil).Play(n); err != api.ErrRange || len(got) != 0 {
			t.Errorf("P11.3: %v of no entry: %v, %v", n, got, err)
		}
	}
}

func TestPlayManyNew(t *testing.T) {
	got, err := of(7).Play(exists(1+mostNew), exists(1+2*mostNew))
	if err != api.OK || len(got) != 1+2*mostNew || got[0].Uid != 7 || got[1] != (list.Entry{}) || got.Last() != 0 {
		t.Errorf("P11.3: 65536 new entries, twice: %d entries, %v", len(got), err)
	}
	if got, err := of(7).Play(gone(1), exists(1+mostNew)); err != api.ErrRange || len(got) != 0 {
		t.Errorf("P11.3: 65537 new entries: %d entries, %v", len(got), err)
	}
}

func TestPlayShares(t *testing.T) {
	long := append(make(list.List, 0, 8), of(1, 2, 3)...)
	notes := []list.Note{exists(5), fetch(1, 9, 0)}
	a, _ := long.Play(notes...)
	b, _ := long.Play()
	c, _ := long.Play(notes...)
	a[0], b[1] = list.Entry{Uid: 77}, list.Entry{Uid: 78}
	if !slices.Equal(long, of(1, 2, 3)) || !slices.Equal(long[:5], of(1, 2, 3, 0, 0)) || !slices.Equal(c, of(9, 2, 3, 0, 0)) {
		t.Errorf("P1, R4: lists share memory: %v, %v", long[:5], c)
	}
	if !slices.Equal(notes, []list.Note{exists(5), fetch(1, 9, 0)}) {
		t.Errorf("P1, R4: Play changes the notes: %v", notes)
	}
}

func TestKinds(t *testing.T) {
	if list.Gone != 0 || list.Exists != 1 || list.Fetch != 2 {
		t.Errorf("P11.3: the kinds are %d, %d, %d", list.Gone, list.Exists, list.Fetch)
	}
}
