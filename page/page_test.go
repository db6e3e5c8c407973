package page_test

import (
	"math/rand"
	"slices"
	"testing"

	"gleanings/api"
	"gleanings/mst"
	"gleanings/page"
	"gleanings/pen"
)

// low makes rising marks of tier 0.
func low(n int) []api.Mark {
	var l []api.Mark
	for i := range n {
		l = append(l, api.Mark{0: byte(i + 1), 1: 0xab, 8: 0x80})
	}
	return l
}

func of(n int) api.Page { return api.Page{Marks: low(n), Kids: make([]api.Mark, n+1)} }

// wrong are pages that aren't right.
func wrong() []api.Page {
	short, twice, falling, tier := of(3), of(3), of(3), of(3)
	short.Kids = short.Kids[1:]
	twice.Marks[1] = twice.Marks[0]
	falling.Marks[0], falling.Marks[1] = falling.Marks[1], falling.Marks[0]
	tier.Marks[2][8] = 0x10
	over, under, other := of(1), of(1), of(1)
	over.Tier, under.Tier, other.Tier = 65, -1, 1
	return []api.Page{{}, {Kids: make([]api.Mark, 1)}, of(61), short, twice, falling, tier, over, under, other}
}

// P17.1: what is right, the same, sizes, kids and texts.
func TestPages(t *testing.T) {
	for i, p := range wrong() {
		var w pen.Pen
		if page.Right(p) || page.Size(p) != 0 || page.Text(p) != "" || page.Put(&w, p) || len(w.Bytes()) > 0 || !page.Same(p, p) {
			t.Error(i, "isn't right")
		}
		for range page.Kids(p) {
			t.Error(i, "has kids")
		}
	}
	last := api.Page{Tier: 64, Marks: []api.Mark{{}}, Kids: make([]api.Mark, 2)}
	if !page.Right(last) || page.Size(last) != 50 || page.Size(of(60)) != 1938 || page.Text(last) != "64: 0000" {
		t.Error("right ones", page.Text(last))
	}
	p := of(2)
	p.Kids[0], p.Kids[2] = api.Mark{0x12, 0x3f}, api.Mark{15: 1}
	if got := page.Text(p); got != "0: [123f] 01ab 02ab [0000]" {
		t.Error(got)
	}
	if got := page.Text(api.Page{Marks: []api.Mark{{0: 0x80, 8: 0x80}}, Kids: make([]api.Mark, 2)}); got != "0: 8000" {
		t.Error(got)
	}
	seq := page.Kids(p)
	kids := slices.Clone(p.Kids)
	p.Kids[1] = api.Mark{9}
	for range 2 {
		var got []int
		for i, hash := range seq {
			if got = append(got, i); hash != kids[i] {
				t.Error("kid", i)
			}
		}
		if !slices.Equal(got, []int{0, 2}) {
			t.Error(got)
		}
	}
	for i := range seq {
		if i != 0 {
			t.Error("goes on")
		}
		break
	}
	q := of(2)
	if page.Same(p, q) || page.Same(q, of(3)) || !page.Same(q, of(2)) || page.Same(q, api.Page{Tier: 1, Marks: q.Marks, Kids: q.Kids}) || !page.Same(api.Page{}, api.Page{Marks: []api.Mark{}}) {
		t.Error("same")
	}
}

// P17.2: bytes and their errors.
func TestBytes(t *testing.T) {
	bytesOf := func(tier, n uint64, l ...api.Mark) []byte {
		var w pen.Pen
		w.Number(tier)
		w.Number(n)
		for _, m := range l {
			w.Fixed(m[:])
		}
		return w.Bytes()
	}
	three := append(low(1), make([]api.Mark, 2)...)
	var w pen.Pen
	if p := of(1); !page.Put(&w, p) || !slices.Equal(w.Bytes(), bytesOf(0, 1, three...)) || page.Size(p) != len(w.Bytes()) {
		t.Error("put", w.Bytes())
	}
	for i, c := range []struct {
		b    []byte
		want api.Errno
	}{
		{nil, api.ErrEnd}, {bytesOf(65, 1, three...), api.ErrLong}, {bytesOf(0, 61, make([]api.Mark, 123)...), api.ErrLong}, {bytesOf(0, 1, three[:2]...), api.ErrEnd},
		{bytesOf(0, 0, three[:1]...), api.ErrForm}, {bytesOf(0, 0), api.ErrEnd}, {bytesOf(1, 1, three...), api.ErrForm}, {bytesOf(0, 2, three[0], three[0], three[1], three[1], three[1]), api.ErrForm},
		{[]byte{248, 0}, api.ErrForm},
	} {
		e := pen.Read(c.b)
		if p := page.Get(e); !page.Same(p, api.Page{}) || e.Err() != c.want {
			t.Error(i, e.Err(), c.want)
		}
	}
	if !page.Same(page.Get(nil), api.Page{}) {
		t.Error("nil eye")
	}
	page.Put(nil, of(1))
}

// P17.3: pages of trees are right, and got as they were put.
func TestTreesPages(t *testing.T) {
	r := rand.New(rand.NewSource(26))
	l := make([]api.Mark, 800)
	for i := range l {
		r.Read(l[i][:])
	}
	for _, p := range mst.Of(l...).Pages() {
		var w pen.Pen
		if !page.Put(&w, p) || len(w.Bytes()) != page.Size(p) || page.Size(p) > 1938 {
			t.Fatal("put", p)
		}
		e := pen.Read(w.Bytes())
		if got := page.Get(e); !page.Same(got, p) || e.End() != api.OK {
			t.Fatal("get", p)
		}
	}
}
