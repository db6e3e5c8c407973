package dot_test

import (
	"math"
	"math/rand"
	"slices"
	"testing"

	"gleanings/api"
	"gleanings/dot"
	"gleanings/pen"
)

const top = api.MostCount

// wrong are clocks that aren't right.
func wrong() []api.Clock {
	return []api.Clock{
		{{Node: -1, From: 1, To: 1}}, {{Node: 8, From: 1, To: 1}}, {{Node: 0, From: 0, To: 1}}, {{Node: 0, From: 2, To: 1}},
		{{Node: 0, From: 1, To: top + 1}}, {{Node: 1, From: 1, To: 1}, {Node: 0, From: 1, To: 1}},
		{{Node: 0, From: 1, To: 1}, {Node: 0, From: 2, To: 2}}, {{Node: 0, From: 3, To: 3}, {Node: 0, From: 1, To: 1}},
		{{Node: 0, From: 1, To: 3}, {Node: 0, From: 2, To: 5}}, {{Node: 0, From: math.MinInt, To: math.MaxInt}},
	}
}

// model of a clock: its dots.
type model map[api.Dot]bool

func (m model) clock() api.Clock {
	var c api.Clock
	for node := range 8 {
		for n := 1; n < 12; n++ {
			if !m[api.Dot{Node: node, N: n}] {
				continue
			}
			if m[api.Dot{Node: node, N: n - 1}] {
				c[len(c)-1].To = n
			} else {
				c = append(c, api.Run{Node: node, From: n, To: n})
			}
		}
	}
	return c
}

func some(r *rand.Rand) model {
	m := model{}
	for range r.Intn(14) {
		m[api.Dot{Node: r.Intn(3), N: 1 + r.Intn(9)}] = true
	}
	return m
}

func clock(t *testing.T, s string) api.Clock {
	c, ok := dot.Parse(s)
	if !ok {
		t.Fatal("no clock:", s)
	}
	return c
}

// P3.1: what is right, and what is told of what isn't.
func TestRight(t *testing.T) {
	for d, want := range map[api.Dot]bool{
		{Node: 0, N: 1}: true, {Node: 7, N: top}: true, {Node: 8, N: 1}: false, {Node: -1, N: 1}: false, {Node: 0, N: 0}: false, {Node: 0, N: top + 1}: false,
	} {
		if dot.Good(d) != want {
			t.Error(d)
		}
	}
	fine := api.Clock{{Node: 0, From: 1, To: 1}, {Node: 0, From: 3, To: top}, {Node: 7, From: top, To: top}}
	if !dot.Right(fine) || !dot.Right(nil) || !dot.Right(api.Clock{}) {
		t.Error("right ones")
	}
	d := api.Dot{Node: 0, N: 1}
	for _, c := range wrong() {
		if dot.Right(c) || dot.Top(c, 0) != 0 || dot.Has(c, d) || len(dot.With(c, d)) > 0 || len(dot.Join(c, fine)) > 0 || len(dot.Join(fine, c)) > 0 ||
			len(dot.Of(c, 0)) > 0 || dot.Compare(c, c) != 2 || dot.Compare(fine, c) != 2 || dot.Count(c) != 0 || dot.Text(c) != "" {
			t.Error("isn't right:", c)
		}
		for range dot.Missing(c, fine) {
			t.Error("missing", c)
		}
		for range dot.Missing(fine, c) {
			t.Error("missing", c)
		}
		if !dot.Same(c, slices.Clone(c)) {
			t.Error("same lists", c)
		}
	}
	if len(dot.With(fine, api.Dot{})) > 0 || dot.Has(fine, api.Dot{}) || dot.Top(fine, 3) != 0 || dot.Top(fine, -1) != 0 || dot.Top(fine, 7) != top {
		t.Error("dots that aren't right")
	}
	if dot.Count(fine) != top || !dot.Same(nil, api.Clock{}) || dot.Same(fine, fine[:2]) {
		t.Error("count, same")
	}
	if n := dot.Count(api.Clock{{Node: 0, From: 1, To: top}, {Node: 7, From: 1, To: top}}); n != 2*top {
		t.Error("count", n)
	}
}

// P3.1, P3.2, P3.4: all calls against sets of dots.
func TestAgainstSets(t *testing.T) {
	r := rand.New(rand.NewSource(3))
	for range 3000 {
		a, b := some(r), some(r)
		x, y := a.clock(), b.clock()
		both := model{}
		below, above := true, true
		for d := range a {
			both[d] = true
			below = below && b[d]
		}
		for d := range b {
			both[d] = true
			above = above && a[d]
		}
		join := dot.Join(x, y)
		if !dot.Right(join) || !dot.Same(join, both.clock()) || !dot.Same(dot.Join(y, x), join) || dot.Count(join) != len(both) {
			t.Fatal("join", x, y, join)
		}
		want := 2
		switch {
		case below && above:
			want = 0
		case below:
			want = -1
		case above:
			want = 1
		}
		if got := dot.Compare(x, y); got != want {
			t.Fatal("compare", x, y, got, want)
		}
		node := r.Intn(4)
		own, greatest := model{}, 0
		for d := range a {
			if d.Node == node {
				own[d] = true
				greatest = max(greatest, d.N)
			}
		}
		if !dot.Same(dot.Of(x, node), own.clock()) || dot.Top(x, node) != greatest {
			t.Fatal("of, top", x, node)
		}
		d := api.Dot{Node: r.Intn(3), N: 1 + r.Intn(10)}
		if dot.Has(x, d) != a[d] {
			t.Fatal("has", x, d)
		}
		a[d] = true
		if !dot.Same(dot.With(x, d), a.clock()) {
			t.Fatal("with", x, d)
		}
		delete(both, d)
		missing := model{}
		before := api.Dot{Node: -1}
		for d := range dot.Missing(x, y) {
			missing[d] = true
			if d.Node < before.Node || d.Node == before.Node && d.N <= before.N || dot.Has(x, d) || !b[d] {
				t.Fatal("missing", x, y, d)
			}
			before = d
		}
		if len(missing) != dot.Count(join)-dot.Count(x) {
			t.Fatal("missing", x, y, missing)
		}
	}
}

// P3.2: who asks may leave off; the lists may change behind the call.
func TestMissing(t *testing.T) {
	all := api.Clock{{Node: 1, From: 5, To: top}}
	have := api.Clock{{Node: 1, From: 6, To: 7}}
	seq := dot.Missing(have, all)
	all[0], have[0] = api.Run{}, api.Run{}
	for range 2 {
		var got []api.Dot
		for d := range seq {
			if got = append(got, d); len(got) == 3 {
				break
			}
		}
		if !slices.Equal(got, []api.Dot{{Node: 1, N: 5}, {Node: 1, N: 8}, {Node: 1, N: 9}}) {
			t.Error(got)
		}
	}
}

// P3.3: bytes, and their errors.
func TestBytes(t *testing.T) {
	var p pen.Pen
	if !dot.Put(&p, clock(t, "0:1-3 2:1")) || !slices.Equal(p.Bytes(), []byte{2, 0, 1, 2, 2, 1, 0}) {
		t.Error("put", p.Bytes())
	}
	var long api.Clock
	for i := range 1025 {
		long = append(long, api.Run{Node: 0, From: 2*i + 1, To: 2*i + 1})
	}
	before := len(p.Bytes())
	for _, c := range append(wrong(), long) {
		if dot.Put(&p, c) || len(p.Bytes()) != before {
			t.Error("put of", len(c))
		}
	}
	var q pen.Pen
	if !dot.Put(&q, long[:1024]) || !dot.Same(dot.Get(pen.Read(q.Bytes())), long[:1024]) {
		t.Error("1024 runs")
	}
	far := func(numbers ...uint64) []byte {
		var p pen.Pen
		for _, u := range numbers {
			p.Number(u)
		}
		return p.Bytes()
	}
	for _, c := range []struct {
		b    []byte
		want api.Errno
	}{
		{far(0), api.OK}, {far(1, 7, top, 0), api.OK}, {nil, api.ErrEnd}, {far(1, 0, 1), api.ErrEnd}, {far(1025), api.ErrLong}, {far(1, 8), api.ErrLong},
		{far(1, 0, top+1), api.ErrLong}, {far(1, 0, 1, top+1), api.ErrLong}, {far(1, 0, 0, 1), api.ErrForm}, {far(1, 0, 2, top), api.ErrForm},
		{far(2, 0, 1, 0, 0, 2, 0), api.ErrForm}, {far(2, 1, 1, 0, 0, 1, 0), api.ErrForm}, {far(2, 0, 0, 0, 9), api.ErrLong}, {[]byte{1, 248, 0}, api.ErrForm},
	} {
		e := pen.Read(c.b)
		got := dot.Get(e)
		if e.Err() != c.want || c.want != api.OK && len(got) > 0 {
			t.Error(c.b, e.Err(), c.want, got)
		}
	}
	if len(dot.Get(nil)) > 0 {
		t.Error("nil eye")
	}
	dot.Put(nil, nil)
}

// P3.3: texts, and what is none.
func TestTexts(t *testing.T) {
	for _, s := range []string{"-", "0:1", "0:1-3 2:1", "0:1 0:3-4 7:1-1099511627776"} {
		if dot.Text(clock(t, s)) != s {
			t.Error(s, dot.Text(clock(t, s)))
		}
	}
	for _, s := range []string{"", " ", "- ", "0:1 ", " 0:1", "0:1  1:1", "0", "0:", ":1", "0:1-", "0:1-1", "0:2-1", "0:01", "+0:1", "-0:1", "0:1-2-3", "0:1 0:2", "1:1 0:1", "8:1", "0:0", "0:1099511627777", "0:99999999999999999999", "0:1,1:1", "-,-", "0:1\n", "x:1", "0:1-0x2"} {
		if c, ok := dot.Parse(s); ok || len(c) > 0 {
			t.Errorf("%q: %v", s, c)
		}
	}
}

// P3.4: join is the least clock above both, in any order, and what is put is got.
func TestJoinIsLeast(t *testing.T) {
	if got := dot.Text(dot.Join(clock(t, "0:1-3 2:1"), clock(t, "0:4 1:5"))); got != "0:1-4 1:5 2:1" {
		t.Error(got)
	}
	r := rand.New(rand.NewSource(4))
	for range 500 {
		x, y, z := some(r).clock(), some(r).clock(), some(r).clock()
		join := dot.Join(x, y)
		if c := dot.Compare(x, join); c > 0 {
			t.Fatal("isn't above", x, y)
		}
		if dot.Compare(x, z) < 1 && dot.Compare(y, z) < 1 && dot.Compare(join, z) > 0 {
			t.Fatal("isn't the least", x, y, z)
		}
		if !dot.Same(dot.Join(join, z), dot.Join(x, dot.Join(z, y))) || !dot.Same(dot.Join(x, x), x) {
			t.Fatal("asks for the order", x, y, z)
		}
		var p pen.Pen
		dot.Put(&p, x)
		if e := pen.Read(p.Bytes()); !dot.Same(dot.Get(e), x) || e.End() != api.OK {
			t.Fatal("isn't got", x)
		}
		if back, ok := dot.Parse(dot.Text(x)); !ok || !dot.Same(back, x) {
			t.Fatal("isn't parsed", x)
		}
	}
	a, b := clock(t, "0:1-2"), clock(t, "1:1")
	room := append(make(api.Clock, 0, 8), a...)
	join := dot.Join(room, b)
	join[0].To = 9
	if room[0].To != 2 || room[:2][1] != (api.Run{}) {
		t.Error("what is handed in is changed")
	}
}
