package server

import (
	"postchaise/api"
	"postchaise/command"
	"postchaise/reply"
)

// The kinds of pieces that are not commands' texts (layer 16).
const (
	goOn    = 1
	tooBig  = 2
	tooLong = 3
)

// time is the memory's.
func (s *Server) time() uint64 {
	return s.space.Mem().Time()
}

// begin begins the next piece that came from a client: could it? If the piece is no command, it is over by that.
func (s *Server) begin(who int) bool {
	c := s.clients[who]
	piece := c.came[0]
	c.entry = Entry{Who: who, Begin: s.time(), Piece: piece}
	switch piece.Kind {
	case goOn:
		c.output.WriteString(reply.Print(reply.Line{Kind: reply.GoOn, Text: "go"}))
	case tooBig:
		s.refuse(c, "literal")
	case tooLong:
		s.refuse(c, "long")
	default:
		asked, err := command.Parse(piece.Text)
		if err != api.OK {
			s.refuse(c, "form")
			break
		}
		if c.doing = c.session.Do(asked); c.doing == nil {
			// Somebody else, who was handed the session, does a command by it: this one waits till that is over.
			return false
		}
	}
	c.came = c.came[1:]
	return true
}

// refuse ends a piece that is no command.
func (s *Server) refuse(c *client, why string) {
	tag := command.Tag(c.entry.Piece.Text)
	if tag == "" {
		tag = "*"
	}
	c.entry.Mark = s.time()
	s.end(c, reply.Line{Kind: reply.Done, Tag: tag, Word: "BAD", Text: why})
}

// advance makes a step of the command that is under way, if there is one.
func (s *Server) advance(c *client) {
	if c.doing == nil || !c.doing.Step() {
		return
	}
	c.entry.Mark, c.entry.Limit = c.doing.Mark(), c.doing.Limit()
	s.end(c, c.doing.Lines()...)
	c.doing = nil
}

// end ends a piece: the lines are told, and noted in the log.
func (s *Server) end(c *client, lines ...reply.Line) {
	c.entry.End, c.entry.Reply = s.time(), reply.Print(lines...)
	c.output.WriteString(c.entry.Reply)
	s.log = append(s.log, c.entry)
}
