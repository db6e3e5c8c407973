package feeds_test

import (
	"slices"
	"testing"

	"gleanings/feeds"
)

func TestLines(t *testing.T) {
	for s, want := range map[string][]string{"": nil, "\n": {""}, "a": {"a"}, "a\n": {"a"}, "a\n\n": {"a", ""}, "\na\nb": {"", "a", "b"}} {
		seq := feeds.Lines(s)
		for range 2 {
			var got []string
			for n, line := range seq {
				if got = append(got, line); n != len(got) {
					t.Error(n)
				}
			}
			if !slices.Equal(got, want) || feeds.Count(s) != len(want) {
				t.Errorf("%q: %q, %d", s, got, feeds.Count(s))
			}
		}
	}
	for n := range feeds.Lines("a\nb") {
		if n != 1 {
			t.Error("goes on")
		}
		break
	}
}
