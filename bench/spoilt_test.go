package bench

import (
	"testing"

	"postchaise/api"
	"postchaise/command"
	"postchaise/tree"
)

// filled is a bench, whose session 0 has selected a box with one message.
func filled(t *testing.T) *Bench {
	t.Helper()
	b := New()
	for _, line := range []string{"server 2 20 1 x", "part 0 a APPEND x {1}\r\nx\r\na SELECT x\r\n", "rest"} {
		b.Line(line)
	}
	hold(t, b, "list 0", "1 ()\n")
	hold(t, b, "audit", "slots 20 4 3 1\n")
	return b
}

// hold holds what a line tells.
func hold(t *testing.T, b *Bench, line, want string) {
	t.Helper()
	if got := b.Line(line); got != want {
		t.Errorf("P24.1: %q tells %q, not %q", line, got, want)
	}
}

// TestNotWhole: what is wrong with a space is told behind the numbers.
func TestNotWhole(t *testing.T) {
	for want, do := range map[string]func(n *tree.Node){
		"slots 20 4 0 1 box\n":    func(n *tree.Node) { n.Kind = tree.Leaf },
		"slots 20 4 0 1 shape\n":  func(n *tree.Node) { n.Head.Height = 7 },
		"slots 20 4 0 1 number\n": func(n *tree.Node) { n.Head.Next = 1 },
	} {
		b := filled(t)
		space := b.server.Space()
		root := space.Roots()[0]
		n, _ := space.Arena().At(root)
		do(&n)
		space.Arena().Put(root, n)
		hold(t, b, "audit", want)
	}
}

// past lets a session do a command of which no client is told, and no log tells.
func past(t *testing.T, b *Bench, who int, text string) {
	t.Helper()
	c, err := command.Parse(text)
	if err != api.OK {
		t.Fatalf("P15.2: error %d", err)
	}
	d := b.server.Session(who).Do(c)
	for !d.Step() {
	}
}

// TestNotSame: a client that was not told of what its session's list came to has another one.
func TestNotSame(t *testing.T) {
	b := filled(t)
	hold(t, b, "same 0", "yes\n")
	past(t, b, 1, "a APPEND x {1}\r\nx")
	hold(t, b, "same 0", "yes\n")
	past(t, b, 0, "a NOOP")
	hold(t, b, "list 0", "1 ()\n2 ()\n")
	hold(t, b, "same 0", "no\n")
	hold(t, b, "same 1", "none\n")
}

// TestNotTakeable: a client that can't take what it is told has not its session's list, also if that is empty.
func TestNotTakeable(t *testing.T) {
	b := New()
	b.Line("server 1 20 1 x")
	past(t, b, 0, "a SELECT x")
	hold(t, b, "list 0", "empty\n")
	hold(t, b, "same 0", "yes\n")
	past(t, b, 0, "a APPEND x {1}\r\nx")
	b.Line("feed 0 a FETCH 1 UID")
	b.Line("rest")
	past(t, b, 0, "a STORE 1 FLAGS (\\Deleted)")
	past(t, b, 0, "a EXPUNGE")
	hold(t, b, "list 0", "empty\n")
	hold(t, b, "same 0", "no\n")
}

// TestOtherwise: the place of an entry that was answered otherwise is told.
func TestOtherwise(t *testing.T) {
	b := filled(t)
	hold(t, b, "check", "check -1\n")
	past(t, b, 1, "a APPEND x {1}\r\nx")
	b.Line("feed 0 b NOOP")
	b.Line("rest")
	hold(t, b, "check", "check 2\n")
}

// TestPlain: each byte 13 is left out, and a text ends with a 10, if it has bytes.
func TestPlain(t *testing.T) {
	for output, want := range map[string]string{"": "", "\r\n": "\n", "a\r\n": "a\n", "a\r\r\n\r": "a\n", "a\rb\r\nc\n": "ab\nc\n", "a": "a\n", "a\r": "a\n", "a\n\nb": "a\n\nb\n"} {
		if got := plain(output); got != want {
			t.Errorf("P24.1: of %q it is told %q, not %q", output, got, want)
		}
	}
}

// TestNotALinesFault: a panic that is no line's fault is not hidden.
func TestNotALinesFault(t *testing.T) {
	b := filled(t)
	b.told = []int{1 << 30, 0}
	defer func() {
		if given := recover(); given == nil {
			t.Error("it is hidden")
		}
	}()
	b.Line("out 0")
}
