package act_test

import (
	"iter"
	"math"
	"math/rand"
	"slices"
	"testing"

	"postchaise/act"
)

// diary is what was done, in order.
type diary []string

// note makes a step that writes a word down, and answers what comes next.
func (d *diary) note(word string, next act.Step) act.Step {
	return func() act.Step {
		*d = append(*d, word)
		return next
	}
}

// steps is the first of so many steps, each of which writes a word down.
func (d *diary) steps(word string, n int) act.Step {
	if n == 0 {
		return nil
	}
	return d.note(word, d.steps(word, n-1))
}

// act is an act of so many steps, each of which writes a word down.
func (d *diary) act(word string, n int) *act.Act {
	return act.New(d.steps(word, n))
}

// want holds what was done against a list of words, and forgets it.
func (d *diary) want(t *testing.T, promise string, words ...string) {
	t.Helper()
	if !slices.Equal(*d, words) {
		t.Errorf("%s: done was %q, want %q", promise, *d, words)
	}
	*d = nil
}

// endless makes a step that comes again for ever, and counts.
func endless(count *int) act.Step {
	return func() act.Step {
		*count++
		return endless(count)
	}
}

// check holds what an act tells of itself against what it should tell.
func check(t *testing.T, promise string, a *act.Act, over bool, count int) {
	t.Helper()
	if a.Over() != over || a.Count() != count {
		t.Errorf("%s: Over %v, Count %d, want %v and %d", promise, a.Over(), a.Count(), over, count)
	}
}

func TestExample(t *testing.T) {
	var d diary
	a := act.New(d.note("a", d.note("b", d.note("c", nil))))
	check(t, "P4.1", a, false, 0)
	d.want(t, "P4.1")
	for i, word := range []string{"a", "b", "c"} {
		if over := a.Step(); over != (i == 2) {
			t.Errorf("P4.1: step %d: %v", i, over)
		}
		check(t, "P4.1", a, i == 2, i+1)
		d.want(t, "P4.1", word)
	}
}

func TestStepOfWhatIsOver(t *testing.T) {
	var d diary
	a := d.act("a", 1)
	for range 3 {
		if !a.Step() {
			t.Error("P4.1: Step: false")
		}
		check(t, "P4.1", a, true, 1)
	}
	d.want(t, "P4.1", "a")
}

func TestNewOfNothing(t *testing.T) {
	a := act.New(nil)
	check(t, "P4.1", a, true, 0)
	if !a.Step() {
		t.Error("P4.1: Step: false")
	}
	check(t, "P4.1", a, true, 0)
}

func TestNil(t *testing.T) {
	var a *act.Act
	if !a.Step() {
		t.Error("P4.1: Step of a nil act: false")
	}
	check(t, "P4.1", a, true, 0)
}

func TestManySteps(t *testing.T) {
	count := 0
	a := act.New(endless(&count))
	for range 100000 {
		if a.Step() {
			t.Fatal("P4.1: over")
		}
	}
	check(t, "P4.1", a, false, 100000)
	if count != 100000 {
		t.Errorf("P4.1: %d steps were done", count)
	}
}

// TestActsOfOneStep: two acts of the same first step are two.
func TestActsOfOneStep(t *testing.T) {
	var d diary
	first := d.steps("a", 2)
	a, b := act.New(first), act.New(first)
	a.Step()
	check(t, "R6", a, false, 1)
	check(t, "R6", b, false, 0)
	b.Step()
	b.Step()
	check(t, "R6", b, true, 2)
	check(t, "R6", a, false, 1)
	d.want(t, "P4.1", "a", "a", "a")
}

// TestActThatComesToItself: a step that asks its own act to go on still ends.
func TestActThatComesToItself(t *testing.T) {
	for name, again := range map[string]func(a *act.Act){
		"Step": func(a *act.Act) { a.Step() },
		"Turn": func(a *act.Act) { act.Turn([]int{0, 0}, a) },
		"Rest": func(a *act.Act) { act.Rest(1000, a) },
		"Run":  func(a *act.Act) { act.Run(a, func() act.Step { return nil }) },
	} {
		var a *act.Act
		done := 0
		a = act.New(func() act.Step {
			again(a)
			done++
			return func() act.Step {
				again(a)
				done++
				return nil
			}
		})
		a.Step()
		check(t, "R1: "+name, a, false, 1)
		a.Step()
		check(t, "R1: "+name, a, true, 2)
		if done != 2 {
			t.Errorf("R1: %s: %d steps were done", name, done)
		}
	}
}

// TestActsThatRunEachOther: two acts of which each runs the other one still end.
func TestActsThatRunEachOther(t *testing.T) {
	var a, b *act.Act
	var d diary
	a = act.New(func() act.Step { return act.Run(b, func() act.Step { return d.steps("a", 1) }) })
	b = act.New(func() act.Step { return act.Run(a, func() act.Step { return d.steps("b", 1) }) })
	act.Rest(1000, a, b)
	if !a.Over() || !b.Over() {
		t.Errorf("R1: over: %v and %v", a.Over(), b.Over())
	}
}

func TestRun(t *testing.T) {
	for n := 1; n <= 5; n++ {
		var d diary
		sub := d.act("sub", n)
		a := act.New(act.Run(sub, func() act.Step {
			check(t, "P4.2: in then", sub, true, n)
			d = append(d, "then")
			return d.steps("behind", 2)
		}))
		check(t, "P4.2", sub, false, 0)
		d.want(t, "P4.2: Run does no step")
		for i := 1; i < n; i++ {
			a.Step()
			check(t, "P4.2", a, false, i)
			check(t, "P4.2", sub, false, i)
			d.want(t, "P4.2", "sub")
		}
		a.Step()
		check(t, "P4.2", a, false, n)
		d.want(t, "P4.2: then is called by the last step", "sub", "then")
		act.Rest(10, a)
		check(t, "P4.2", a, true, n+2)
		d.want(t, "P4.2", "behind", "behind")
	}
}

func TestRunAndThenNothing(t *testing.T) {
	var d diary
	a := act.New(act.Run(d.act("sub", 2), func() act.Step { return d.steps("", 0) }))
	if a.Step() || !a.Step() {
		t.Error("P4.2: Step")
	}
	check(t, "P4.2", a, true, 2)
	d.want(t, "P4.2", "sub", "sub")
}

func TestRunOfWhatIsOver(t *testing.T) {
	for name, sub := range map[string]*act.Act{"nil": nil, "of nothing": act.New(nil), "stepped": stepped()} {
		var d diary
		step := act.Run(sub, func() act.Step {
			d = append(d, "then")
			return d.steps("behind", 1)
		})
		d.want(t, "P4.2: then is called at once: "+name, "then")
		a := act.New(step)
		if !a.Step() {
			t.Errorf("P4.2: %s: it is not over", name)
		}
		d.want(t, "P4.2: "+name, "behind")
		if act.Run(sub, func() act.Step { return nil }) != nil {
			t.Errorf("P4.2: %s: a step, want what then answers", name)
		}
	}
}

// stepped is an act of two steps that is over.
func stepped() *act.Act {
	var d diary
	a := d.act("", 2)
	act.Rest(2, a)
	return a
}

// TestRunOfWhatGetsOverMeanwhile: somebody else may step what is run.
func TestRunOfWhatGetsOverMeanwhile(t *testing.T) {
	var d diary
	sub := d.act("sub", 3)
	a := act.New(act.Run(sub, func() act.Step { return d.note("then", nil)() }))
	a.Step()
	sub.Step()
	sub.Step()
	check(t, "P4.2", a, false, 1)
	d.want(t, "P4.2", "sub", "sub", "sub")
	a.Step()
	check(t, "P4.2", a, true, 2)
	check(t, "P4.2", sub, true, 3)
	d.want(t, "P4.2", "then")
}

// TestThenIsCalledOnce: also if the step is done again behind the end.
func TestThenIsCalledOnce(t *testing.T) {
	var d diary
	step := act.Run(d.act("sub", 2), func() act.Step { return d.note("then", nil)() })
	for range 5 {
		step()
	}
	d.want(t, "P4.2", "sub", "sub", "then")
}

func TestRunWithinRun(t *testing.T) {
	var d diary
	inner := d.act("inner", 2)
	outer := act.New(act.Run(inner, func() act.Step { return d.steps("outer", 2) }))
	a := act.New(act.Run(outer, func() act.Step {
		return act.Run(d.act("next", 1), func() act.Step { return nil })
	}))
	if got := act.Rest(100, a); got != 5 {
		t.Errorf("P4.2: %d rounds, want 5", got)
	}
	check(t, "P4.2", inner, true, 2)
	check(t, "P4.2", outer, true, 4)
	check(t, "P4.2", a, true, 5)
	d.want(t, "P4.2", "inner", "inner", "outer", "outer", "next")
}

func TestTurn(t *testing.T) {
	for _, c := range []struct {
		picks []int
		want  []string
	}{
		{nil, nil},
		{[]int{0, 1, 2}, []string{"a", "b", "c"}},
		{[]int{3, 4, 5, 6}, []string{"a", "b", "c", "a"}},
		{[]int{-1, -2, -3, -4}, []string{"c", "b", "a", "c"}},
		{[]int{1, 1, 1, 1, 0}, []string{"b", "b", "a"}},
		{[]int{math.MaxInt, math.MinInt, math.MaxInt - 1}, []string{"b", "b", "a"}},
	} {
		var d diary
		l := []*act.Act{d.act("a", 3), d.act("b", 2), d.act("c", 5)}
		kept, acts := slices.Clone(c.picks), slices.Clone(l)
		if got := act.Turn(c.picks, l...); got != len(c.want) {
			t.Errorf("P4.3: %v: %d steps, want %d", c.picks, got, len(c.want))
		}
		d.want(t, "P4.3", c.want...)
		if !slices.Equal(c.picks, kept) || !slices.Equal(l, acts) {
			t.Errorf("R4: %v was changed", kept)
		}
	}
}

// TestTurnOfAnyPick holds the act that is stepped against its number, told without %.
func TestTurnOfAnyPick(t *testing.T) {
	for n := 1; n <= 8; n++ {
		for pick := -3 * n; pick <= 3*n; pick++ {
			counts := make([]int, n)
			var l []*act.Act
			for i := range n {
				l = append(l, act.New(endless(&counts[i])))
			}
			if got := act.Turn([]int{pick}, l...); got != 1 {
				t.Errorf("P4.3: %d of %d: %d steps", pick, n, got)
			}
			want := pick
			for want < 0 {
				want += n
			}
			for want >= n {
				want -= n
			}
			if counts[want] != 1 {
				t.Errorf("P4.3: %d of %d: %v", pick, n, counts)
			}
		}
	}
}

func TestTurnOfWhatIsOver(t *testing.T) {
	var d diary
	if got := act.Turn([]int{0, 1, 2, -1, -3, 2}, act.New(nil), nil, d.act("c", 2)); got != 2 {
		t.Errorf("P4.3: %d steps, want 2", got)
	}
	d.want(t, "P4.3", "c", "c")
	for _, picks := range [][]int{nil, {0}, {1, -1, math.MinInt, math.MaxInt}} {
		if got := act.Turn(picks); got != 0 {
			t.Errorf("P4.3: of no acts: %d steps", got)
		}
	}
}

// TestListsChangedByAStep: what was handed in counts, as it was then.
func TestListsChangedByAStep(t *testing.T) {
	var d diary
	for name, run := range map[string]func(picks []int, l []*act.Act){
		"Turn": func(picks []int, l []*act.Act) { act.Turn(picks, l...) },
		"Rest": func(picks []int, l []*act.Act) { act.Rest(1, l...) },
	} {
		picks, l := []int{0, 1}, make([]*act.Act, 2)
		l[0] = act.New(func() act.Step {
			picks[1], l[1] = 0, nil
			return nil
		})
		l[1] = d.act("b", 1)
		run(picks, l)
		d.want(t, "R6: "+name, "b")
	}
}

func TestRest(t *testing.T) {
	for _, c := range []struct {
		limit, rounds int
		want          []string
	}{
		{math.MinInt, 0, nil}, {-1, 0, nil}, {0, 0, nil},
		{1, 1, []string{"a", "b", "c"}},
		{2, 2, []string{"a", "b", "c", "a", "c"}},
		{3, 3, []string{"a", "b", "c", "a", "c", "c"}},
		{4, 3, []string{"a", "b", "c", "a", "c", "c"}},
		{math.MaxInt, 3, []string{"a", "b", "c", "a", "c", "c"}},
	} {
		var d diary
		l := []*act.Act{d.act("a", 2), nil, d.act("b", 1), act.New(nil), d.act("c", 3)}
		acts := slices.Clone(l)
		if got := act.Rest(c.limit, l...); got != c.rounds {
			t.Errorf("P4.3: limit %d: %d rounds, want %d", c.limit, got, c.rounds)
		}
		d.want(t, "P4.3", c.want...)
		if !slices.Equal(l, acts) {
			t.Errorf("R4: limit %d: the list was changed", c.limit)
		}
	}
}

func TestRestOfNothing(t *testing.T) {
	for _, limit := range []int{-5, 0, 1, math.MaxInt} {
		if got := act.Rest(limit); got != 0 {
			t.Errorf("P4.3: of no acts, limit %d: %d", limit, got)
		}
		if got := act.Rest(limit, nil, act.New(nil), stepped()); got != 0 {
			t.Errorf("P4.3: of acts that are over, limit %d: %d", limit, got)
		}
	}
}

func TestRestOfWhatNeverEnds(t *testing.T) {
	var d diary
	count := 0
	a, b := act.New(endless(&count)), d.act("b", 2)
	if got := act.Rest(1000, a, b); got != 1000 || count != 1000 {
		t.Errorf("P4.3: %d rounds, %d steps", got, count)
	}
	check(t, "P4.3", a, false, 1000)
	check(t, "P4.3", b, true, 2)
}

// TestRestGoesOn: rounds behind rounds go on where these ended.
func TestRestGoesOn(t *testing.T) {
	var d diary
	a, b := d.act("a", 3), d.act("b", 1)
	if x, y, z := act.Rest(1, a, b), act.Rest(5, a, b), act.Rest(5, a, b); x != 1 || y != 2 || z != 0 {
		t.Errorf("P4.3: %d, %d, %d rounds", x, y, z)
	}
	d.want(t, "P4.3", "a", "b", "a", "a")
}

// TestRestWhenOneEndsAnother: whether an act is over is looked at when its turn comes.
func TestRestWhenOneEndsAnother(t *testing.T) {
	var d diary
	b := d.act("b", 1)
	a := act.New(func() act.Step {
		b.Step()
		return d.steps("a", 1)
	})
	if got := act.Rest(9, a, b); got != 2 {
		t.Errorf("P4.3: %d rounds, want 2", got)
	}
	check(t, "P4.3", b, true, 1)
	d.want(t, "P4.3", "b", "a")
}

// places are the places that a walk hands out; each act is held against the one of the list at its place.
func places(t *testing.T, walk iter.Seq2[int, *act.Act], l []*act.Act) []int {
	t.Helper()
	var got []int
	for i, a := range walk {
		if i < 0 || i >= len(l) || l[i] != a || a.Over() {
			t.Errorf("P4.3: at %d another act, or one that is over", i)
		}
		got = append(got, i)
	}
	return got
}

func TestGoing(t *testing.T) {
	var d diary
	l := []*act.Act{nil, d.act("a", 2), act.New(nil), d.act("b", 1), stepped(), d.act("c", 1), nil}
	walk := act.Going(l...)
	for range 2 {
		if got := places(t, walk, l); !slices.Equal(got, []int{1, 3, 5}) {
			t.Errorf("P4.3: %v", got)
		}
	}
	d.want(t, "P4.3: a walk does no step")
	act.Rest(1, l...)
	if got := places(t, walk, l); !slices.Equal(got, []int{1}) {
		t.Errorf("P4.3: behind a round: %v", got)
	}
	act.Rest(1, l...)
	if got := places(t, walk, l); got != nil {
		t.Errorf("P4.3: behind the end: %v", got)
	}
	if got := places(t, act.Going(), nil); got != nil {
		t.Errorf("P4.3: of no acts: %v", got)
	}
}

func TestGoingStops(t *testing.T) {
	var d diary
	l := []*act.Act{d.act("a", 1), nil, d.act("b", 1), d.act("c", 1)}
	for stop, want := range [][]int{{0}, {0, 2}, {0, 2, 3}} {
		var got []int
		for i := range act.Going(l...) {
			if got = append(got, i); len(got) == stop+1 {
				break
			}
		}
		if !slices.Equal(got, want) {
			t.Errorf("P4.3: stopped: %v, want %v", got, want)
		}
	}
}

func TestGoingWhenItsTurnComes(t *testing.T) {
	var d diary
	l := []*act.Act{d.act("a", 1), d.act("b", 1), d.act("c", 2), d.act("d", 1)}
	var got []int
	for i, a := range act.Going(l...) {
		got = append(got, i)
		act.Turn([]int{1, 2}, l...)
		a.Step()
	}
	if !slices.Equal(got, []int{0, 2, 3}) {
		t.Errorf("P4.3: %v", got)
	}
}

func TestGoingKeepsNoList(t *testing.T) {
	var d diary
	l := []*act.Act{d.act("a", 1), d.act("b", 1)}
	kept := slices.Clone(l)
	walk := act.Going(l...)
	l[0] = nil
	if got := places(t, walk, kept); !slices.Equal(got, []int{0, 1}) {
		t.Errorf("R4: changed ahead of the walk: %v", got)
	}
	var got []int
	for i := range walk {
		l[1] = nil
		got = append(got, i)
	}
	if !slices.Equal(got, []int{0, 1}) {
		t.Errorf("R4: changed in the walk: %v", got)
	}
}

// counter is an act that comes to a number by steps, some of which run others.
type counter struct {
	*act.Act
	sum int
}

// newCounter makes an act that hangs on a seed alone.
func newCounter(seed int64) *counter {
	r := rand.New(rand.NewSource(seed))
	c := &counter{}
	c.Act = act.New(c.next(r, 1+r.Intn(20)))
	return c
}

// next is a step behind which so many are left.
func (c *counter) next(r *rand.Rand, left int) act.Step {
	if left == 0 {
		return nil
	}
	return func() act.Step {
		c.sum = c.sum*31 + r.Intn(1000)
		if r.Intn(3) == 0 {
			return act.Run(act.New(c.next(r, left/2)), func() act.Step { return c.next(r, left-1-left/2) })
		}
		return c.next(r, left-1)
	}
}

func TestOrderDoesNotMatter(t *testing.T) {
	r := rand.New(rand.NewSource(44))
	for seed := range int64(100) {
		var alone, mixed []*counter
		var l []*act.Act
		for i := range int64(4) {
			c, m := newCounter(seed*4+i), newCounter(seed*4+i)
			act.Rest(math.MaxInt, c.Act)
			alone, mixed, l = append(alone, c), append(mixed, m), append(l, m.Act)
		}
		for range 3 {
			act.Turn([]int{r.Intn(99) - 50, r.Intn(4), r.Intn(4), r.Intn(99)}, l...)
			act.Rest(r.Intn(3), l[r.Intn(4):]...)
		}
		act.Rest(math.MaxInt, l...)
		for i, m := range mixed {
			check(t, "P4.4", m.Act, true, alone[i].Count())
			if m.sum != alone[i].sum {
				t.Errorf("P4.4: %d comes to %d, alone to %d", i, m.sum, alone[i].sum)
			}
		}
	}
}
