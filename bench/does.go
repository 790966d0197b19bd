package bench

import (
	"slices"
	"strconv"
	"strings"

	"postchaise/api"
	"postchaise/audit"
	"postchaise/client"
	"postchaise/hist"
	"postchaise/server"
)

// How much a line may ask for at once.
const (
	mostNames  = 9
	mostSteps  = 1000
	mostRounds = 100000
)

// valid is that of all boxes.
const valid = 7

// does are what lines do, by their first words. Each asks for all its words first, so that nothing happens by a line that is wrong.
func (b *Bench) does() map[string]func(*row) string {
	return map[string]func(*row) string{
		"server": b.makeServer,
		"feed":   b.feed,
		"part":   b.part,
		"step":   b.step,
		"rest":   b.rest,
		"out":    b.out,
		"list":   b.list,
		"same":   b.same,
		"check":  b.check,
		"audit":  b.audit,
	}
}

// running is the server, when all words of the line were asked for.
func (b *Bench) running(line *row) *server.Server {
	line.end()
	if b.server == nil {
		giveUp(api.ErrState)
	}
	return b.server
}

// makeServer makes a server, in place of the one that there may be.
func (b *Bench) makeServer(line *row) string {
	c := server.Config{Valid: valid}
	c.Sessions = line.number()
	c.Slots = line.number()
	c.Next = uint32(line.number())
	c.Names = line.words(mostNames)
	s, err := server.New(c)
	if err != api.OK {
		// The old one is gone all the same.
		*b = Bench{}
		giveUp(err)
	}
	*b = Bench{server: s, config: c, told: make([]int, c.Sessions)}
	return ended("ok")
}

// feed lets a client send a line.
func (b *Bench) feed(line *row) string {
	who := line.number()
	return b.send(who, line.text()+"\r\n", line)
}

// part lets a client send bytes.
func (b *Bench) part(line *row) string {
	who := line.number()
	return b.send(who, line.text(), line)
}

// send lets a client send a text.
func (b *Bench) send(who int, text string, line *row) string {
	if err := b.running(line).Feed(who, []byte(text)); err != api.OK {
		giveUp(err)
	}
	return ended("ok")
}

// step lets a session make steps.
func (b *Bench) step(line *row) string {
	who := line.number()
	most := min(line.number(), mostSteps)
	s := b.running(line)
	made := 0
	for made < most && s.Step(who) {
		made++
	}
	return ended(numbered("steps", made))
}

// rest lets all sessions make steps, till all are idle.
func (b *Bench) rest(line *row) string {
	return ended(numbered("rounds", b.running(line).Rest(mostRounds)))
}

// out tells what is new of a session's output.
func (b *Bench) out(line *row) string {
	who := line.number()
	output := b.running(line).Output(who)
	if who >= len(b.told) {
		return ""
	}
	from := b.told[who]
	b.told[who] = len(output)
	return plain(output[from:])
}

// list tells a session's list.
func (b *Bench) list(line *row) string {
	who := line.number()
	s := b.running(line)
	if !selects(s, who) {
		return ended("none")
	}
	l, _ := s.Session(who).List()
	if len(l) == 0 {
		return ended("empty")
	}
	var told strings.Builder
	for _, e := range l {
		told.WriteString(ended(strconv.FormatUint(uint64(e.Uid), 10) + blank + e.Flags.String()))
	}
	return told.String()
}

// same tells whether a client that took all its output has its session's list.
func (b *Bench) same(line *row) string {
	who := line.number()
	s := b.running(line)
	if !selects(s, who) {
		return ended("none")
	}
	l, _ := s.Session(who).List()
	c := client.New()
	if c.Take(s.Output(who)) == api.OK && slices.Equal(c.List(), l) {
		return ended("yes")
	}
	return ended("no")
}

// selects: is there such a session, and has it selected a box?
func selects(s *server.Server, who int) bool {
	session := s.Session(who)
	if session == nil {
		return false
	}
	_, ok := session.View()
	return ok
}

// check tells whether all was answered in one order.
func (b *Bench) check(line *row) string {
	return ended(numbered("check", hist.Check(b.config, b.running(line).Log())))
}

// audit tells what the server's space comes to.
func (b *Bench) audit(line *row) string {
	r := audit.Of(b.running(line).Space())
	told := numbered("slots", r.Slots, r.Used, r.Met, r.Kept)
	if r.Wrong != "" {
		told += blank + r.Wrong
	}
	return ended(told)
}
