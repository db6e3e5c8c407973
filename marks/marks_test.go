package marks_test

import (
	"math"
	"math/rand"
	"slices"
	"testing"

	"gleanings/api"
	"gleanings/marks"
	"gleanings/pen"
)

// at makes marks that are in the order of their numbers.
func at(n ...int) []api.Mark {
	var l []api.Mark
	for _, x := range n {
		l = append(l, api.Mark{0: byte(x >> 8), 15: byte(x)})
	}
	return l
}

func some(r *rand.Rand) ([]api.Mark, map[api.Mark]bool) {
	in := map[api.Mark]bool{}
	var l []api.Mark
	for range r.Intn(9) {
		m := at(r.Intn(12) * 100)[0]
		in[m] = true
		l = append(l, m)
	}
	return marks.Of(l...), in
}

// wrong are lists that are no sets.
func wrong() [][]api.Mark { return [][]api.Mark{at(1, 1), at(2, 1), at(1, 2, 2), at(1, 3, 2)} }

// P9.1: orders, sets, folds.
func TestSets(t *testing.T) {
	a, b := api.Mark{1}, api.Mark{15: 9}
	if marks.Compare(a, b) != 1 || marks.Compare(b, a) != -1 || marks.Compare(a, a) != 0 {
		t.Error("compare")
	}
	l := at(3, 1, 3, 2, 1)
	if got := marks.Of(l...); !marks.Same(got, at(1, 2, 3)) || !marks.Same(l, at(3, 1, 3, 2, 1)) || len(marks.Of()) > 0 {
		t.Error(got, l)
	}
	if !marks.Right(nil) || !marks.Right(at(1, 2, 256)) || !marks.Has(at(1, 2), at(2)[0]) || marks.Has(at(1, 3), at(2)[0]) {
		t.Error("right, has")
	}
	for _, w := range wrong() {
		if marks.Right(w) || marks.Has(w, w[0]) || len(marks.Union(w, l[:1]))+len(marks.Union(nil, w))+len(marks.Minus(w, nil))+len(marks.Minus(l[:1], w))+len(marks.Meet(w, w)) > 0 {
			t.Error("no set:", w)
		}
		for range marks.Beside(w, nil) {
			t.Error("beside", w)
		}
		for range marks.Beside(nil, w) {
			t.Error("beside", w)
		}
		var p pen.Pen
		if marks.Put(&p, w) || len(p.Bytes()) > 0 || !marks.Same(w, slices.Clone(w)) {
			t.Error("put", w)
		}
	}
	if marks.Fold(at(3, 5, 5)) != at(3)[0] || marks.Fold(nil) != (api.Mark{}) || marks.Fold(at(0x103, 6)) != at(0x105)[0] {
		t.Error("fold")
	}
	if marks.Same(at(1), at(2)) || marks.Same(at(1, 2), at(2, 1)) || !marks.Same(nil, []api.Mark{}) {
		t.Error("same")
	}
}

// P9.1, P9.2, P9.4: against maps.
func TestAgainstMaps(t *testing.T) {
	r := rand.New(rand.NewSource(10))
	for range 3000 {
		a, inA := some(r)
		b, inB := some(r)
		union, minus, meet := marks.Union(a, b), marks.Minus(a, b), marks.Meet(a, b)
		for n := range 12 {
			m := at(n * 100)[0]
			if slices.Contains(union, m) != (inA[m] || inB[m]) || slices.Contains(minus, m) != (inA[m] && !inB[m]) || slices.Contains(meet, m) != (inA[m] && inB[m]) || marks.Has(a, m) != inA[m] {
				t.Fatal(a, b, m)
			}
		}
		if !marks.Right(union) || !marks.Right(minus) || !marks.Right(meet) {
			t.Fatal("no sets", a, b)
		}
		var seen []api.Mark
		for m, whose := range marks.Beside(a, b) {
			want := 0
			if inA[m] {
				want++
			}
			if inB[m] {
				want += 2
			}
			if seen = append(seen, m); whose != want {
				t.Fatal("beside", m, whose, want)
			}
		}
		if !marks.Same(seen, union) {
			t.Fatal("beside", seen, union)
		}
		alone := marks.Union(minus, marks.Minus(b, a))
		if !marks.Same(marks.Union(alone, meet), union) || marks.Fold(alone) != marks.Fold([]api.Mark{marks.Fold(a), marks.Fold(b)}) {
			t.Fatal("parts", a, b)
		}
	}
}

// P9.2: iterators: left off, asked again, as they were, in new memory.
func TestIterators(t *testing.T) {
	a, b := at(1, 2, 5), at(2, 3)
	seq := marks.Beside(a, b)
	pieces := marks.Pieces(a, 2)
	a[0], b[0] = api.Mark{9}, api.Mark{9}
	for range 2 {
		var l []api.Mark
		var whose []int
		for m, w := range seq {
			l, whose = append(l, m), append(whose, w)
			if len(l) == 3 {
				break
			}
		}
		if !marks.Same(l, at(1, 2, 3)) || !slices.Equal(whose, []int{1, 3, 2}) {
			t.Error(l, whose)
		}
		var cut [][]api.Mark
		for p := range pieces {
			cut = append(cut, slices.Clone(p))
			p[0] = api.Mark{7}
			_ = append(p, api.Mark{8})
		}
		if len(cut) != 2 || !marks.Same(cut[0], at(1, 2)) || !marks.Same(cut[1], at(5)) {
			t.Error(cut)
		}
	}
	for p := range pieces {
		if p[0] != at(1)[0] {
			t.Error("goes on")
		}
		break
	}
	for n, want := range map[int]int{1: 3, 2: 2, 3: 1, 4: 1, math.MaxInt: 1, 0: 0, -1: 0, math.MinInt: 0} {
		got := 0
		for range marks.Pieces(at(2, 1, 1), n) {
			got++
		}
		if got != want {
			t.Error(n, got)
		}
	}
	for range marks.Pieces(nil, 3) {
		t.Error("a piece of nothing")
	}
}

// P9.3: bytes and their errors.
func TestBytes(t *testing.T) {
	var many []api.Mark
	for i := range 4097 {
		many = append(many, at(i)[0])
	}
	many = marks.Of(many...)
	for _, l := range [][]api.Mark{nil, at(1), at(1, 2, 300), many[:4096]} {
		var p pen.Pen
		if !marks.Put(&p, l) || len(p.Bytes()) != pen.Size(uint64(len(l)))+16*len(l) {
			t.Error("put", len(l))
		}
		e := pen.Read(p.Bytes())
		if got := marks.Get(e); !marks.Same(got, l) || e.End() != api.OK {
			t.Error("get", len(l))
		}
	}
	var p pen.Pen
	if marks.Put(&p, many) || len(p.Bytes()) > 0 {
		t.Error("put of 4097")
	}
	p.Number(4097)
	zeros := make([]byte, 32)
	for _, c := range []struct {
		b    []byte
		want api.Errno
	}{{nil, api.ErrEnd}, {p.Bytes(), api.ErrLong}, {append([]byte{2}, zeros...), api.ErrForm}, {append([]byte{3}, zeros...), api.ErrEnd}, {append([]byte{1}, zeros[:15]...), api.ErrEnd}, {[]byte{248, 0}, api.ErrForm}} {
		e := pen.Read(c.b)
		if got := marks.Get(e); len(got) > 0 || e.Err() != c.want {
			t.Error(c.b, e.Err())
		}
	}
	if len(marks.Get(nil)) > 0 {
		t.Error("nil eye")
	}
}
