// Package feeds cuts a text into lines, each of which has a feed behind; the last one may do without.
package feeds

import (
	"iter"
	"strings"
)

// Count of lines.
func Count(s string) int {
	n := strings.Count(s, "\n")
	if s != "" && !strings.HasSuffix(s, "\n") {
		n++
	}
	return n
}

// Lines of a text, without their feeds, with their numbers from 1 on.
func Lines(s string) iter.Seq2[int, string] {
	return func(yield func(int, string) bool) {
		left := s
		for n := 1; left != ""; n++ {
			line, behind, _ := strings.Cut(left, "\n")
			if !yield(n, line) {
				return
			}
			left = behind
		}
	}
}
