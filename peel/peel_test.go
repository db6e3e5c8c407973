package peel_test

import (
	"math"
	"math/rand"
	"testing"

	"gleanings/api"
	"gleanings/cell"
	"gleanings/iblt"
	"gleanings/marks"
	"gleanings/peel"
)

func some(r *rand.Rand, n int) []api.Mark {
	l := make([]api.Mark, n)
	for i := range l {
		r.Read(l[i][:])
	}
	return marks.Of(l...)
}

func same(a, b *iblt.Sketch) bool {
	d, err := a.Sub(b)
	return err == api.OK && d.Empty()
}

// off one by one, as the chapter tells it.
func off(s *iblt.Sketch) ([]api.Mark, []int) {
	s = s.Clone()
	var l []api.Mark
	var signs []int
next:
	for len(l) < 2*s.Size() {
		for _, c := range s.Cells() {
			sign := cell.Pure(c)
			if sign == 0 {
				continue
			}
			if sign == 1 {
				s.Remove(c.Mark)
			} else {
				s.Add(c.Mark)
			}
			l, signs = append(l, c.Mark), append(signs, sign)
			continue next
		}
		break
	}
	return l, signs
}

// P12.1, P12.2, P12.3: differences are peeled in the chapter's order, and put together again.
func TestDifferences(t *testing.T) {
	r := rand.New(rand.NewSource(14))
	wholes := 0
	for range 600 {
		size := 3 * (1 + r.Intn(20))
		d := api.Diff{Plus: some(r, r.Intn(12)), Minus: some(r, r.Intn(12))}
		s, err := peel.Again(size, d)
		if err != api.OK {
			t.Fatal(err)
		}
		want, signs := off(s)
		i := 0
		for m, sign := range peel.Off(s) {
			if i >= len(want) || m != want[i] || sign != signs[i] {
				t.Fatal("another order at", i)
			}
			i++
		}
		if i != len(want) {
			t.Fatal("ends at", i, len(want))
		}
		got, err := peel.Whole(s, 99)
		switch err {
		case api.OK:
			wholes++
			back, _ := peel.Again(size, got)
			if !same(back, s) || !marks.Same(got.Plus, d.Plus) || !marks.Same(got.Minus, d.Minus) {
				t.Fatal("isn't the difference", got, d)
			}
		case api.ErrStuck:
			if len(want) == len(d.Plus)+len(d.Minus) || len(got.Plus)+len(got.Minus) > 0 {
				t.Fatal("stuck")
			}
		default:
			t.Fatal(err)
		}
	}
	if wholes < 200 {
		t.Error("too few were peeled whole:", wholes)
	}
}

// P12.1: as it was, asked again, left off.
func TestOff(t *testing.T) {
	r := rand.New(rand.NewSource(15))
	l := some(r, 8)
	s, _ := iblt.Of(96, l...)
	seq := peel.Off(s)
	s.Add(api.Mark{1})
	for range 2 {
		var got []api.Mark
		for m, sign := range seq {
			if got = append(got, m); sign != 1 || !marks.Has(l, m) {
				t.Error(m, sign)
			}
		}
		if !marks.Same(marks.Of(got...), l) {
			t.Error(got)
		}
	}
	n := 0
	for range seq {
		if n++; n == 3 {
			break
		}
	}
	if n != 3 {
		t.Error("left off at", n)
	}
	for range peel.Off(nil) {
		t.Error("off nothing")
	}
	if _, ok := s.Cell(0); !ok || s.Empty() {
		t.Error("the sketch changed")
	}
}

// P12.2: errors, in their order.
func TestWholeErrors(t *testing.T) {
	r := rand.New(rand.NewSource(16))
	l := some(r, 5)
	s, _ := iblt.Of(96, l...)
	for most, want := range map[int]api.Errno{5: api.OK, math.MaxInt: api.OK, 4: api.ErrLong, 0: api.ErrLong, -1: api.ErrLong, math.MinInt: api.ErrLong} {
		if d, err := peel.Whole(s, most); err != want || (len(d.Plus) == 5) != (want == api.OK) || len(d.Minus) > 0 {
			t.Error(most, err, d)
		}
	}
	empty, _ := iblt.New(12)
	for _, most := range []int{0, -5} {
		if d, err := peel.Whole(empty, most); err != api.OK || len(d.Plus)+len(d.Minus) > 0 {
			t.Error("empty", err)
		}
	}
	if d, err := peel.Whole(nil, 9); err != api.ErrNil || d.Plus != nil || d.Minus != nil {
		t.Error("nil", err)
	}
	twice, _ := iblt.Of(12, l[0], l[0])
	if _, err := peel.Whole(twice, 9); err != api.ErrStuck {
		t.Error("a mark twice", err)
	}
	// A pure cell at a place that isn't its mark's comes off without an end.
	var bogus []api.Cell
	places := iblt.Places(12, l[1])
	for i := range 12 {
		c := api.Cell{}
		if i == (places[0]+1)%4 {
			c = cell.Of(l[1])
		}
		bogus = append(bogus, c)
	}
	b, _ := iblt.From(bogus...)
	n := 0
	for range peel.Off(b) {
		n++
	}
	if n != 24 {
		t.Error("came off:", n)
	}
	if _, err := peel.Whole(b, 24); err != api.ErrStuck {
		t.Error("bogus", err)
	}
	if _, err := peel.Whole(b, 23); err != api.ErrLong {
		t.Error("bogus", err)
	}
	// A mark that comes off twice, though all cells are zero at the end.
	again := make([]api.Cell, 12)
	for _, i := range places {
		again[i] = cell.Of(l[1])
	}
	again[(places[0]+1)%4] = cell.Of(l[1])
	g, _ := iblt.From(again...)
	if _, err := peel.Whole(g, 24); err != api.ErrStuck {
		t.Error("twice off", err)
	}
}

// P12.2, P12.3: sketches again, of any lists; one mark is always peeled whole.
func TestAgain(t *testing.T) {
	for _, size := range []int{0, 4, 1539, -3} {
		if s, err := peel.Again(size, api.Diff{}); s != nil || err != api.ErrArg {
			t.Error(size, err)
		}
	}
	r := rand.New(rand.NewSource(17))
	for range 50 {
		m := some(r, 1)
		for _, size := range []int{3, 12, 1536} {
			for _, d := range []api.Diff{{Plus: m}, {Minus: m}} {
				s, err := peel.Again(size, d)
				got, errWhole := peel.Whole(s, 1)
				if err != api.OK || errWhole != api.OK || !marks.Same(got.Plus, d.Plus) || !marks.Same(got.Minus, d.Minus) {
					t.Fatal(size, d, got, errWhole)
				}
			}
		}
	}
	m := some(r, 3)
	s, _ := peel.Again(12, api.Diff{Plus: []api.Mark{m[2], m[0], m[2]}, Minus: []api.Mark{m[2], m[0]}})
	if got, err := peel.Whole(s, 9); err != api.OK || !marks.Same(got.Plus, m[2:]) || len(got.Minus) > 0 {
		t.Error("lists that are no sets", got, err)
	}
}
