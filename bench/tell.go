package bench

import (
	"strconv"
	"strings"
)

// ended is a line that is told, with its end.
func ended(line string) string {
	return line + lineEnd
}

// numbered is a word, and numbers behind it.
func numbered(word string, numbers ...int) string {
	for _, n := range numbers {
		word += blank + strconv.Itoa(n)
	}
	return word
}

// plain is what was told to a client, as lines of a bench: each ended by a line feed alone.
func plain(output string) string {
	text := strings.ReplaceAll(output, "\r", "")
	if text != "" && !strings.HasSuffix(text, lineEnd) {
		text += lineEnd
	}
	return text
}
