package bench

import (
	"strings"

	"postchaise/api"
)

// blank parts the words of a line.
const blank = " "

// mostDigits is how many digits a number may have.
const mostDigits = 9

// row is what is left of a line's words. As soon as one is asked for that is not there, or is none, the line is given up.
type row struct {
	left string
	more bool // is something left, if also without a byte?
}

// word is the next word.
func (r *row) word() string {
	if !r.more {
		giveUp(api.ErrForm)
	}
	var word string
	word, r.left, r.more = strings.Cut(r.left, blank)
	if word == "" {
		giveUp(api.ErrForm)
	}
	return word
}

// words are all that are left: one or more, but no more than so many.
func (r *row) words(most int) []string {
	words := []string{r.word()}
	for r.more {
		words = append(words, r.word())
	}
	if len(words) > most {
		giveUp(api.ErrForm)
	}
	return words
}

// number is the number that the next word is.
func (r *row) number() int {
	word := r.word()
	if len(word) > mostDigits || len(word) > 1 && word[0] == '0' {
		giveUp(api.ErrForm)
	}
	n := 0
	for _, c := range []byte(word) {
		if c < '0' || c > '9' {
			giveUp(api.ErrForm)
		}
		n = 10*n + int(c-'0')
	}
	return n
}

// text is all that is left, whatever it is.
func (r *row) text() string {
	if !r.more {
		giveUp(api.ErrForm)
	}
	r.more = false
	return r.left
}

// end asks that nothing is left.
func (r *row) end() {
	if r.more {
		giveUp(api.ErrForm)
	}
}
