package strata_test

import (
	"math/rand"
	"slices"
	"testing"

	"gleanings/api"
	"gleanings/iblt"
	"gleanings/peel"
	"gleanings/strata"
)

func some(r *rand.Rand, n int) []api.Mark {
	l := make([]api.Mark, n)
	for i := range l {
		r.Read(l[i][:])
	}
	return l
}

// P13.1: levels, parts, other cells at a level, clones, nil.
func TestStrata(t *testing.T) {
	for last, want := range map[byte]int{1: 0, 2: 1, 8: 3, 0x18: 3, 64: 6, 128: 7, 0: 7, 255: 0} {
		if got := strata.Level(api.Mark{0: 1, 15: last}); got != want {
			t.Error(last, got)
		}
	}
	a, b := api.Mark{1, 15: 8}, api.Mark{2, 15: 1}
	s := strata.Of(a, a)
	s.Add(b)
	third, _ := iblt.Of(12, a, a)
	for i, c := range third.Cells() {
		if s.Part(3)[i] != c {
			t.Error("part 3", i)
		}
	}
	empty := make([]api.Cell, 12)
	if !slices.Equal(s.Part(2), empty) || slices.Equal(s.Part(0), empty) || s.Part(-1) != nil || s.Part(8) != nil {
		t.Error("parts")
	}
	for i := range 8 {
		if !slices.Equal(strata.New().Part(i), empty) {
			t.Error("new", i)
		}
	}
	for _, c := range []struct {
		i, n int
		want api.Errno
	}{{-1, 12, api.ErrArg}, {8, 12, api.ErrArg}, {0, 11, api.ErrArg}, {0, 0, api.ErrArg}, {0, 15, api.ErrArg}} {
		before := s.Part(0)
		if err := s.With(c.i, make([]api.Cell, c.n)); err != c.want || !slices.Equal(s.Part(0), before) {
			t.Error(c, err)
		}
	}
	c := s.Clone()
	l := s.Part(3)
	if err := c.With(0, l); err != api.OK || !slices.Equal(c.Part(0), l) || slices.Equal(s.Part(0), l) {
		t.Error("with", err)
	}
	kept := slices.Clone(l)
	l[0].Count = 99
	if !slices.Equal(c.Part(0), kept) || !slices.Equal(s.Part(3), kept) {
		t.Error("cells are shared")
	}
	s.Add(api.Mark{5, 15: 8})
	if slices.Equal(s.Part(3), kept) || !slices.Equal(c.Part(3), kept) {
		t.Error("clone isn't apart")
	}
	var none *strata.Strata
	none.Add(a)
	if none.Part(0) != nil || none.With(0, empty) != api.ErrNil || none.Clone() != nil {
		t.Error("nil")
	}
}

// guess as the chapter tells it, from the parts.
func guess(a, b *strata.Strata) int {
	n := 0
	for i := 7; i >= 0; i-- {
		x, _ := iblt.From(a.Part(i)...)
		y, _ := iblt.From(b.Part(i)...)
		d, _ := x.Sub(y)
		off, err := peel.Whole(d, 24)
		if err != api.OK {
			g := n + 6
			for range i + 1 {
				g *= 2
			}
			return g
		}
		n += len(off.Plus) + len(off.Minus)
	}
	return n
}

// P13.2, P13.3: guesses.
func TestGuess(t *testing.T) {
	for _, p := range [][2]*strata.Strata{{nil, strata.New()}, {strata.New(), nil}, {nil, nil}} {
		if g, err := strata.Guess(p[0], p[1]); g != 0 || err != api.ErrNil {
			t.Error(g, err)
		}
	}
	r := rand.New(rand.NewSource(18))
	for round := range 120 {
		l, more, fewer := some(r, r.Intn(200)), some(r, r.Intn(1+4*round)), some(r, r.Intn(9))
		a, b := strata.Of(l...), strata.Of(append(fewer, more...)...)
		r.Shuffle(len(l), func(i, j int) { l[i], l[j] = l[j], l[i] })
		other := strata.Of(l...)
		if g, err := strata.Guess(a, other); g != 0 || err != api.OK {
			t.Fatal("the same marks", g, err)
		}
		one := append(some(r, 1), l...)
		if g, _ := strata.Guess(a, strata.Of(one...)); g != 1 {
			t.Fatal("one more", g)
		}
		if g, _ := strata.Guess(strata.Of(one...), a); g != 1 {
			t.Fatal("one more", g)
		}
		for _, m := range l {
			b.Add(m)
		}
		got, err := strata.Guess(a, b)
		if got != guess(a, b) || err != api.OK {
			t.Fatal("guess", got, guess(a, b))
		}
		handed := strata.New()
		for i := range 8 {
			handed.With(i, b.Part(i))
		}
		if g, _ := strata.Guess(a, handed); g != got {
			t.Fatal("handed over", g, got)
		}
	}
	// A level that isn't peeled whole ends the guess.
	stuck := strata.New()
	stuck.Add(api.Mark{1, 15: 4})
	stuck.Add(api.Mark{1, 15: 4})
	stuck.Add(api.Mark{1, 15: 8})
	if g, err := strata.Guess(stuck, strata.New()); g != (1+6)*8 || err != api.OK {
		t.Error(g, err)
	}
	high := strata.Of(api.Mark{1}, api.Mark{1})
	if g, _ := strata.Guess(high, strata.New()); g != 6*256 {
		t.Error(g)
	}
}
