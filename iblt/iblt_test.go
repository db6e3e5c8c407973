package iblt_test

import (
	"math/rand"
	"testing"

	"gleanings/api"
	"gleanings/cell"
	"gleanings/iblt"
	"gleanings/sip"
)

func some(r *rand.Rand, n int) []api.Mark {
	l := make([]api.Mark, n)
	for i := range l {
		r.Read(l[i][:])
	}
	return l
}

func of(t *testing.T, size int, l ...api.Mark) *iblt.Sketch {
	s, err := iblt.Of(size, l...)
	if err != api.OK {
		t.Fatal(err)
	}
	return s
}

func same(a, b *iblt.Sketch) bool {
	d, err := a.Sub(b)
	return err == api.OK && d.Empty()
}

// P11.1: sizes, places, and how sketches are made.
func TestMakers(t *testing.T) {
	for size, want := range map[int]bool{-3: false, 0: false, 3: true, 4: false, 5: false, 6: true, 1536: true, 1539: false} {
		s, err := iblt.New(size)
		if iblt.Fits(size) != want || (err == api.OK) != want || (s != nil) != want || !want && err != api.ErrArg {
			t.Error(size, err)
		}
		o, err := iblt.Of(size, api.Mark{1})
		f, errFrom := iblt.From(make([]api.Cell, max(size, 0))...)
		if (err == api.OK) != want || (o != nil) != want || errFrom != err || (f != nil) != want {
			t.Error(size, err, errFrom)
		}
		if want && (s.Size() != size || !s.Empty() || o.Empty() || f.Size() != size) {
			t.Error("made:", size)
		}
		if !want && iblt.Places(size, api.Mark{1}) != [3]int{} {
			t.Error("places:", size)
		}
	}
	r := rand.New(rand.NewSource(12))
	for _, m := range some(r, 200) {
		h := sip.Hash(sip.Seed(4), m[:])
		for _, size := range []int{3, 6, 15, 96, 300, 1536} {
			third := uint64(size / 3)
			want := [3]int{int(h & 0x1fffff % third), int(third + h>>21&0x1fffff%third), int(2*third + h>>42&0x1fffff%third)}
			if got := iblt.Places(size, m); got != want {
				t.Fatal(size, got, want)
			}
		}
		if iblt.Places(3, m) != [3]int{0, 1, 2} {
			t.Fatal("size 3")
		}
	}
	l := []api.Cell{{Count: 5}, {Check: 6}, {Mark: api.Mark{7}}}
	s, _ := iblt.From(l...)
	l[0].Count = 9
	if c, ok := s.Cell(0); !ok || c.Count != 5 {
		t.Error("what was handed in is kept")
	}
	m := api.Mark{3}
	twice := of(t, 3, m, m)
	if c, _ := twice.Cell(1); c.Count != 2 || c.Mark != (api.Mark{}) || c.Check != 0 {
		t.Error("a mark that stands there twice", c)
	}
}

// P11.2: adding, removing, cells, differences, clones.
func TestSketch(t *testing.T) {
	m, o := api.Mark{1}, api.Mark{2}
	s := of(t, 12)
	s.Add(m)
	places := iblt.Places(12, m)
	for i, c := range s.Cells() {
		want := api.Cell{}
		if i == places[0] || i == places[1] || i == places[2] {
			want = cell.Of(m)
		}
		if got, ok := s.Cell(i); c != want || got != want || !ok {
			t.Error(i, c)
		}
	}
	for _, i := range []int{-1, 12} {
		if c, ok := s.Cell(i); ok || c != (api.Cell{}) {
			t.Error(i)
		}
	}
	c, seq := s.Clone(), s.Cells()
	s.Remove(m)
	s.Remove(o)
	if c.Empty() || s.Empty() || !same(c, of(t, 12, m)) {
		t.Error("clone isn't apart")
	}
	for range 2 {
		n := 0
		for i, c := range seq {
			if i != n || c != (api.Cell{}) && c != cell.Of(m) {
				t.Error("who goes through sees it", i)
			}
			if n++; n == 7 {
				break
			}
		}
	}
	d, err := s.Sub(c)
	if x, _ := d.Cell(iblt.Places(12, m)[0]); err != api.OK || d.Size() != 12 || x.Count >= 0 {
		t.Error("sub", err)
	}
	if d, err := s.Sub(of(t, 15)); d != nil || err != api.ErrArg {
		t.Error("unlike sizes", err)
	}
	s.Add(o)
	if !s.Empty() {
		t.Error("all was taken again")
	}
	var none *iblt.Sketch
	none.Add(m)
	none.Remove(m)
	if _, ok := none.Cell(0); ok || none.Size() != 0 || !none.Empty() || none.Clone() != nil {
		t.Error("nil")
	}
	for range none.Cells() {
		t.Error("nil has cells")
	}
	for _, p := range [][2]*iblt.Sketch{{none, s}, {s, none}, {none, none}} {
		if d, err := p[0].Sub(p[1]); d != nil || err != api.ErrNil {
			t.Error("nil less", err)
		}
	}
}

// P11.3: the order says nothing, and a difference is that of what each has alone.
func TestDifference(t *testing.T) {
	r := rand.New(rand.NewSource(13))
	for range 100 {
		both, a, b := some(r, r.Intn(20)), some(r, r.Intn(5)), some(r, r.Intn(5))
		first, second := of(t, 48), of(t, 48)
		for _, m := range both {
			first.Add(m)
			second.Add(m)
		}
		for _, m := range a {
			first.Add(m)
		}
		for _, m := range b {
			second.Add(m)
		}
		d, _ := first.Sub(second)
		alone, _ := of(t, 48, a...).Sub(of(t, 48, b...))
		if !same(d, alone) {
			t.Fatal("difference")
		}
		mixed := append(append([]api.Mark{}, a...), both...)
		r.Shuffle(len(mixed), func(i, j int) { mixed[i], mixed[j] = mixed[j], mixed[i] })
		other := of(t, 48)
		for i := range b {
			other.Remove(b[i])
		}
		for _, m := range mixed {
			other.Add(m)
		}
		for i := range b {
			other.Add(b[len(b)-1-i])
		}
		if !same(other, first) {
			t.Fatal("order")
		}
	}
}
