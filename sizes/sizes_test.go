package sizes_test

import (
	"math"
	"slices"
	"testing"

	"gleanings/iblt"
	"gleanings/sizes"
)

// P14.1: what guesses need, and next sizes.
func TestCells(t *testing.T) {
	for guess, want := range map[int]int{0: 12, 1: 12, 2: 15, 7: 21, 8: 27, 16: 42, 812: 1533, 813: 1533, 814: 1536, 816: 1536, 4096: 1536, 9999: 1536, -1: 12, math.MinInt: 12, math.MaxInt: 1536} {
		if got := sizes.Cells(guess); got != want {
			t.Error(guess, got, want)
		}
	}
	for size, want := range map[int]int{3: 6, 12: 24, 768: 1536, 771: 1536, 1536: 1536, 0: 0, 4: 0, -3: 0, 1539: 0, math.MaxInt: 0} {
		if got := sizes.Next(size); got != want {
			t.Error(size, got, want)
		}
	}
	for guess, want := range map[int][]int{0: {12, 24, 48, 96}, -7: {12, 24, 48, 96}, 1000: {1536, 1536, 1536, 1536}, 500: {948, 1536, 1536, 1536}} {
		seq := sizes.Rounds(guess)
		for range 2 {
			var got []int
			for i, size := range seq {
				if i != len(got) {
					t.Error("round", i)
				}
				got = append(got, size)
			}
			if !slices.Equal(got, want) {
				t.Error(guess, got)
			}
		}
		for i := range seq {
			if i == 2 {
				break
			}
		}
	}
}

// P14.2: parts, ranges, bytes.
func TestParts(t *testing.T) {
	for size, want := range map[int]int{3: 1, 48: 1, 51: 2, 96: 2, 99: 3, 1536: 32, 0: 0, 47: 0, -48: 0, 1584: 0} {
		if got := sizes.Parts(size); got != want {
			t.Error(size, got)
		}
	}
	for _, c := range []struct {
		size, part, from, to int
		ok                   bool
	}{{51, 0, 0, 48, true}, {51, 1, 48, 51, true}, {51, 2, 0, 0, false}, {51, -1, 0, 0, false}, {50, 0, 0, 0, false}, {1536, 31, 1488, 1536, true}, {1536, math.MaxInt, 0, 0, false}} {
		if from, to, ok := sizes.Range(c.size, c.part); from != c.from || to != c.to || ok != c.ok {
			t.Error(c, from, to, ok)
		}
	}
	if sizes.CellBytes(12) != 336 || sizes.CellBytes(1536) != 43008 || sizes.CellBytes(13) != 0 || sizes.CellBytes(0) != 0 {
		t.Error("bytes")
	}
}

// P14.3: sizes may be, don't fall, and are great enough; parts are all cells, each once.
func TestSizes(t *testing.T) {
	for guess := -3; guess < 4200; guess++ {
		before := 0
		for _, size := range sizes.Rounds(guess) {
			if !iblt.Fits(size) || size < before || 2*size < min(3*guess, 2*1536) {
				t.Fatal(guess, size)
			}
			before = size
		}
	}
	for size := 3; size <= 1536; size += 3 {
		next := 0
		for part := range sizes.Parts(size) {
			from, to, ok := sizes.Range(size, part)
			if !ok || from != next || to <= from || to-from > 48 {
				t.Fatal(size, part, from, to)
			}
			next = to
		}
		if next != size {
			t.Fatal(size, next)
		}
	}
}
