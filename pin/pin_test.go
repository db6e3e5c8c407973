package pin_test

import (
	"slices"
	"testing"

	"gleanings/api"
	"gleanings/iblt"
	"gleanings/marks"
	"gleanings/mst"
	"gleanings/pin"
	"gleanings/store"
	"gleanings/strata"
	"gleanings/ver"
)

func filled(t *testing.T) *store.Store {
	s, err := store.New(1, 9)
	if err != api.OK {
		t.Fatal(err)
	}
	for _, k := range []string{"b", "a", "c", "b"} {
		s.Put(k, nil, []byte(k))
	}
	return s
}

// same: has a pin just these items?
func same(t *testing.T, p *pin.Pin, items []api.Item) {
	t.Helper()
	var l []api.Mark
	for _, x := range items {
		m := ver.Mark(x)
		l = append(l, m)
		if got, ok := p.Item(m); !ok || !ver.Same(got, x) {
			t.Error("item", got, ok)
		}
	}
	set := marks.Of(l...)
	if p.Len() != len(set) || !marks.Same(p.Marks(), set) || p.Root() != mst.Of(set...).Root() || !marks.Same(slices.Collect(p.Tree().All()), set) {
		t.Error("marks or tree")
	}
	for _, size := range []int{3, 48} {
		s, err := p.Sketch(size)
		want, _ := iblt.Of(size, set...)
		if d, _ := s.Sub(want); err != api.OK || !d.Empty() {
			t.Error("sketch", size, err)
		}
	}
	if s, err := p.Sketch(4); s != nil || err != api.ErrArg {
		t.Error("sketch of 4", err)
	}
	for i := range 8 {
		if !slices.Equal(p.Strata().Part(i), strata.Of(set...).Part(i)) {
			t.Error("strata", i)
		}
	}
	if x, ok := p.Item(api.Mark{1}); ok || !ver.Same(x, api.Item{}) {
		t.Error("an item that isn't there")
	}
}

// P24.1: what a pin has.
func TestPin(t *testing.T) {
	s := filled(t)
	items := slices.Collect(s.Items())
	p := pin.Of(s)
	same(t, p, items)
	l := []api.Mark{ver.Mark(items[2]), {7}, ver.Mark(items[0]), ver.Mark(items[2])}
	want := []api.Item{items[2], items[0], items[2]}
	seq := p.Items(l)
	clear(l)
	for range 2 {
		i := 0
		for m, x := range seq {
			if m != ver.Mark(want[i]) || !ver.Same(x, want[i]) {
				t.Error(i, x)
			}
			x.Value[0] = 'x'
			i++
		}
		if i != 3 {
			t.Error(i)
		}
	}
	for m := range seq {
		if m != ver.Mark(want[0]) {
			t.Error("goes on")
		}
		break
	}
	x, _ := p.Item(ver.Mark(items[0]))
	x.Value[0] = 'x'
	p.Marks()[0] = api.Mark{}
	st := p.Strata()
	st.Add(api.Mark{1})
	sk, _ := p.Sketch(48)
	sk.Add(api.Mark{1})
	same(t, p, items)
}

// P24.2: a pin stays as it is; of a store that nothing became of, a new one is the same.
func TestStays(t *testing.T) {
	s := filled(t)
	items := slices.Collect(s.Items())
	p := pin.Of(s)
	same(t, pin.Of(s), items)
	_, c, _ := s.Get("b")
	s.Put("b", c, []byte("new"))
	s.Delete("a", nil)
	same(t, p, items)
	same(t, pin.Of(s), slices.Collect(s.Items()))
	if pin.Of(s).Root() == p.Root() {
		t.Error("the same root")
	}
}

// P24.1: of a nil store, and a nil pin.
func TestNil(t *testing.T) {
	same(t, pin.Of(nil), nil)
	empty, _ := store.New(0, 0)
	if pin.Of(empty).Root() != (api.Mark{}) {
		t.Error("empty")
	}
	var p *pin.Pin
	same(t, p, nil)
	for range p.Items([]api.Mark{{}}) {
		t.Error("nil has items")
	}
}
