package follow_test

import (
	"math"
	"slices"
	"strconv"
	"testing"

	"gleanings/api"
	"gleanings/follow"
	"gleanings/marks"
	"gleanings/msg"
	"gleanings/mst"
	"gleanings/pin"
	"gleanings/sizes"
	"gleanings/store"
	"gleanings/ver"
)

var plan = api.Plan{Every: 5, Tries: 2, Rounds: 2, Idle: 50}

func fresh(t *testing.T, node, most int) *store.Store {
	s, err := store.New(node, most)
	if err != api.OK {
		t.Fatal(err)
	}
	return s
}

func fill(s *store.Store, from, to int) {
	for i := from; i < to; i++ {
		s.Put("k"+strconv.Itoa(i), nil, []byte{byte(i)})
	}
}

// hello of who has a pin.
func hello(p *pin.Pin) api.Msg {
	return api.Msg{Kind: api.Hello, Sid: 9, N: p.Len(), Root: p.Root()}
}

func begun(t *testing.T, s *store.Store, h api.Msg) *follow.Follow {
	f, err := follow.New(s, h, plan, 100)
	if err != api.OK || f.State() != api.Runs {
		t.Fatal(err)
	}
	return f
}

// says: is the answer to a message just this one?
func says(t *testing.T, f *follow.Follow, m, want api.Msg) {
	t.Helper()
	m.Sid, want.Sid = 9, 9
	before := f.Ledger().Row(want.Kind)
	got, ok := f.Hear(m, 110)
	after := f.Ledger().Row(want.Kind)
	if !ok || !msg.Same(got, want) || after.Frames != before.Frames+1 || after.Bytes != before.Bytes+uint64(len(msg.Put(want))) {
		t.Errorf("to %d: %v, not %v", m.Kind, got, want)
	}
}

// quiet: is nothing said to a message?
func quiet(t *testing.T, f *follow.Follow, m api.Msg) {
	t.Helper()
	before := f.Ledger().Total()
	if got, ok := f.Hear(m, 110); ok || !msg.Same(got, api.Msg{}) || f.Ledger().Total() != before {
		t.Errorf("to %d: %v", m.Kind, got)
	}
}

// P26.1: what New refuses, and tells.
func TestNew(t *testing.T) {
	s := fresh(t, 1, 9)
	fill(s, 0, 3)
	h := api.Msg{Kind: api.Hello, Sid: 9, N: 4, Root: api.Mark{1}}
	for i, c := range []struct {
		s    *store.Store
		h    api.Msg
		p    api.Plan
		want api.Errno
	}{
		{nil, api.Msg{}, api.Plan{}, api.ErrNil}, {s, api.Msg{}, plan, api.ErrArg}, {s, api.Msg{Kind: api.Meet, Sid: 9}, plan, api.ErrArg}, {s, api.Msg{Kind: api.Hello}, plan, api.ErrArg},
		{s, api.Msg{Kind: api.Hello, Sid: 9, Part: 1}, plan, api.ErrArg}, {s, h, api.Plan{}, api.ErrArg}, {s, h, plan, api.OK},
	} {
		if f, err := follow.New(c.s, c.h, c.p, 0); err != c.want || (f != nil) != (err == api.OK) {
			t.Error(i, err)
		}
	}
	f := begun(t, s, h)
	if f.Sid() != 9 || f.Root() != h.Root || f.Why() != 0 || f.Pin().Len() != 3 || len(f.Taken())+len(f.Fetched()) > 0 || f.Ledger().Total() != (api.Row{}) {
		t.Error("new")
	}
}

// P26.1: the answers, one by one.
func TestAnswers(t *testing.T) {
	s, o := fresh(t, 1, 200), fresh(t, 0, 200)
	fill(s, 0, 120)
	p := pin.Of(s)
	h := hello(pin.Of(o))
	f := begun(t, s, h)
	fill(s, 130, 140) // which its pin doesn't see
	for range 2 {
		says(t, f, h, api.Msg{Kind: api.Meet, N: 120, Root: p.Root()})
	}
	for part := range 8 {
		says(t, f, api.Msg{Kind: api.Count, Part: part}, api.Msg{Kind: api.Level, Part: part, Cells: p.Strata().Part(part)})
	}
	for _, size := range []int{99, 48, 99} {
		sketch, _ := p.Sketch(size)
		for part := range sizes.Parts(size) {
			want := api.Msg{Kind: api.Cells, Size: size, Part: part}
			from, to, _ := sizes.Range(size, part)
			for i := from; i < to; i++ {
				c, _ := sketch.Cell(i)
				want.Cells = append(want.Cells, c)
			}
			says(t, f, api.Msg{Kind: api.Ask, Size: size, Part: part}, want)
		}
	}
	for hash, leaf := range p.Tree().Pages() {
		says(t, f, api.Msg{Kind: api.Want, Root: hash}, api.Msg{Kind: api.Leaf, Page: leaf})
	}
	quiet(t, f, api.Msg{Kind: api.Want, Sid: 9})
	quiet(t, f, api.Msg{Kind: api.Want, Sid: 9, Root: api.Mark{7}})
	l := p.Marks()
	none := []api.Mark{{0, 1}}
	says(t, f, api.Msg{Kind: api.Fetch, Marks: none}, api.Msg{Kind: api.Give})
	if len(f.Fetched()) > 0 {
		t.Error("fetched what isn't there")
	}
	hundred := marks.Union(l[:90], none)
	want := api.Msg{Kind: api.Give}
	for _, x := range p.Items(l[:40]) {
		want.Items = append(want.Items, x)
	}
	says(t, f, api.Msg{Kind: api.Fetch, Marks: hundred}, want)
	if !marks.Same(f.Fetched(), l[:90]) {
		t.Error("fetched", len(f.Fetched()))
	}
	says(t, f, api.Msg{Kind: api.Fetch, Marks: l[80:82]}, api.Msg{Kind: api.Give, Items: itemsOf(p, l[80:82])})
	says(t, f, api.Msg{Kind: api.Fetch, Marks: l[95:96]}, api.Msg{Kind: api.Give, Items: itemsOf(p, l[95:96])})
	if !marks.Same(f.Fetched(), marks.Union(l[:90], l[95:96])) || f.State() != api.Runs {
		t.Error("fetched", len(f.Fetched()))
	}
}

func itemsOf(p *pin.Pin, l []api.Mark) []api.Item {
	var items []api.Item
	for _, x := range p.Items(l) {
		items = append(items, x)
	}
	return items
}

// P26.1, P26.2, P26.3: what is pushed is taken once; a Done that tells the truth makes it Well.
func TestPushAndDone(t *testing.T) {
	s, o := fresh(t, 1, 9), fresh(t, 0, 9)
	fill(s, 0, 3)
	for x := range s.Items() {
		if x.Key != "k2" {
			o.Take(x)
		}
	}
	fill(o, 5, 8)
	theirs, own := pin.Of(o), pin.Of(s)
	plus, minus := marks.Minus(theirs.Marks(), own.Marks()), marks.Minus(own.Marks(), theirs.Marks())
	items := itemsOf(theirs, plus)
	f := begun(t, s, hello(theirs))
	says(t, f, api.Msg{Kind: api.Fetch, Marks: minus}, api.Msg{Kind: api.Give, Items: itemsOf(own, minus)})
	mixed := []api.Item{items[1], items[0], itemsOf(own, own.Marks())[0], items[1]}
	for range 2 {
		says(t, f, api.Msg{Kind: api.Push, Part: 3, Items: mixed}, api.Msg{Kind: api.Got, Part: 3})
	}
	says(t, f, api.Msg{Kind: api.Push, Part: 4, Items: items[2:]}, api.Msg{Kind: api.Got, Part: 4})
	if want := []api.Mark{plus[1], plus[0], plus[2]}; !slices.Equal(f.Taken(), want) || s.Count() != 6 {
		t.Error(f.Taken(), want)
	}
	done := api.Msg{Kind: api.Done, Sid: 9, N: 3, Root: theirs.Root()}
	says(t, f, done, api.Msg{Kind: api.Bye})
	if f.State() != api.Well || f.Why() != 0 || !store.Same(s, merged(t, s, o)) {
		t.Error(f.State(), f.Why())
	}
	says(t, f, done, api.Msg{Kind: api.Bye})
	for _, m := range []api.Msg{{Kind: api.Done, Sid: 9, N: 2, Root: theirs.Root()}, {Kind: api.Done, Sid: 9, N: 3}, hello(theirs), {Kind: api.Count, Sid: 9}, {Kind: api.Push, Sid: 9, Items: items[:1]}, {Kind: api.Bye, Sid: 9, Why: 3}, {Kind: api.Done, Sid: 8, N: 3, Root: theirs.Root()}} {
		quiet(t, f, m)
	}
	f.Tick(1 << 40)
	if f.State() != api.Well {
		t.Error("not Well any more")
	}
}

// merged store of two.
func merged(t *testing.T, a, b *store.Store) *store.Store {
	c := a.Clone()
	for x := range b.Items() {
		c.Take(x)
	}
	return c
}

// P26.1: a Done that doesn't tell the truth.
func TestWrongDone(t *testing.T) {
	for i, change := range []func(h *api.Msg, done *api.Msg, push *bool, fetch *bool){
		func(h, done *api.Msg, push, fetch *bool) { done.N = 4 },
		func(h, done *api.Msg, push, fetch *bool) { done.Root = api.Mark{1} },
		func(h, done *api.Msg, push, fetch *bool) { h.Root, done.Root = api.Mark{1}, api.Mark{1} },
		func(h, done *api.Msg, push, fetch *bool) { *push = false },
		func(h, done *api.Msg, push, fetch *bool) { *push, done.N = false, 0 },
		func(h, done *api.Msg, push, fetch *bool) { *fetch = false },
	} {
		s, o := fresh(t, 1, 9), fresh(t, 0, 9)
		fill(s, 0, 3)
		fill(o, 5, 8)
		theirs, own := pin.Of(o), pin.Of(s)
		h, done := hello(theirs), api.Msg{Kind: api.Done, Sid: 9, N: 3, Root: theirs.Root()}
		push, fetch := true, true
		change(&h, &done, &push, &fetch)
		f := begun(t, s, h)
		if push {
			f.Hear(api.Msg{Kind: api.Push, Sid: 9, Items: itemsOf(theirs, theirs.Marks())}, 1)
		}
		if fetch {
			f.Hear(api.Msg{Kind: api.Fetch, Sid: 9, Marks: own.Marks()}, 1)
		}
		says(t, f, done, api.Msg{Kind: api.Bye, Why: 14})
		if f.State() != api.Over || f.Why() != 14 {
			t.Error(i, f.State(), f.Why())
		}
		for _, m := range []api.Msg{h, {Kind: api.Hello}, {Kind: api.Count}, {Kind: api.Ask, Size: 12}, {Kind: api.Want}, {Kind: api.Fetch, Marks: own.Marks()}, {Kind: api.Push, Items: itemsOf(own, own.Marks())}, done} {
			says(t, f, m, api.Msg{Kind: api.Bye, Why: 14})
		}
		for _, m := range []api.Msg{{Kind: api.Meet, Sid: 9}, {Kind: api.Got, Sid: 9}, {Kind: api.Bye, Sid: 9}, {Kind: api.Bye, Sid: 9, Why: 5}, {Kind: api.Done, Sid: 8}} {
			quiet(t, f, m)
		}
	}
}

// P26.1: the example: a Done at once, of the same root.
func TestDoneAtOnce(t *testing.T) {
	s := fresh(t, 1, 9)
	fill(s, 0, 3)
	h := hello(pin.Of(s))
	f := begun(t, s, h)
	says(t, f, api.Msg{Kind: api.Done, Root: h.Root}, api.Msg{Kind: api.Bye})
	if f.State() != api.Well {
		t.Error(f.State())
	}
}

// P26.1: no room.
func TestFull(t *testing.T) {
	s, o := fresh(t, 1, 1), fresh(t, 0, 9)
	fill(o, 0, 3)
	theirs := pin.Of(o)
	f := begun(t, s, hello(theirs))
	items := itemsOf(theirs, theirs.Marks())
	says(t, f, api.Msg{Kind: api.Push, Items: items}, api.Msg{Kind: api.Bye, Why: 20})
	if f.State() != api.Over || f.Why() != 20 || !slices.Equal(f.Taken(), []api.Mark{ver.Mark(items[0])}) || s.Count() != 1 {
		t.Error(f.State(), f.Why(), len(f.Taken()))
	}
	says(t, f, api.Msg{Kind: api.Count}, api.Msg{Kind: api.Bye, Why: 20})
}

// P26.1: a page that is too long to be said.
func TestLongPage(t *testing.T) {
	s := fresh(t, 1, 256)
	// Items whose marks are so that one page of tier 0 has more than 60 of them.
	n := 0
	for i := 0; n < 61; i++ {
		x := api.Item{Key: "k" + strconv.Itoa(i), Dot: api.Dot{N: 1}}
		if m := ver.Mark(x); mst.Tier(m) == 0 {
			s.Take(x)
			n++
		}
	}
	f := begun(t, s, api.Msg{Kind: api.Hello, Sid: 9})
	says(t, f, api.Msg{Kind: api.Want, Root: f.Pin().Root()}, api.Msg{Kind: api.Bye, Why: 12})
	if f.State() != api.Over || f.Why() != 12 {
		t.Error(f.State(), f.Why())
	}
}

// P26.1: a Bye ends it, and hushes it.
func TestBye(t *testing.T) {
	s := fresh(t, 1, 9)
	h := hello(pin.Of(s))
	f := begun(t, s, h)
	for _, m := range []api.Msg{{Kind: api.Bye, Sid: 9}, {Kind: api.Bye, Sid: 8, Why: 5}, {Kind: api.Meet, Sid: 9}, {Kind: api.Hello, Sid: 9, N: 1, Root: h.Root}, {Kind: api.Hello, Sid: 9, Root: api.Mark{1}}, {Kind: api.Count, Sid: 9, Part: 8}, {Kind: api.Count}} {
		quiet(t, f, m)
		if f.State() != api.Runs {
			t.Error(m.Kind)
		}
	}
	quiet(t, f, api.Msg{Kind: api.Bye, Sid: 9, Why: 33})
	if f.State() != api.Over || f.Why() != 33 {
		t.Error(f.State(), f.Why())
	}
	quiet(t, f, h)
	quiet(t, f, api.Msg{Kind: api.Done, Sid: 9, Root: h.Root})
}

// P26.1: what is waited for; what isn't heard doesn't count.
func TestIdle(t *testing.T) {
	s := fresh(t, 1, 9)
	h := hello(pin.Of(s))
	f := begun(t, s, h)
	for _, now := range []int{0, math.MinInt, 99, 100, 149} {
		if f.Tick(now); f.State() != api.Runs {
			t.Fatal(now)
		}
	}
	f.Hear(api.Msg{Kind: api.Want, Sid: 9}, 140) // without an answer, but heard
	if f.Tick(189); f.State() != api.Runs {
		t.Error("a Want wasn't heard")
	}
	f.Hear(api.Msg{Kind: api.Hello, Sid: 9, N: 3}, 180)
	f.Hear(api.Msg{Kind: api.Meet, Sid: 9}, 180)
	f.Hear(api.Msg{Kind: api.Count, Sid: 8}, 180)
	f.Hear(api.Msg{Kind: api.Bye, Sid: 9}, 180)
	if f.Tick(190); f.State() != api.Over || f.Why() != 26 || f.Ledger().Total() != (api.Row{}) {
		t.Error(f.State(), f.Why())
	}
	says(t, f, h, api.Msg{Kind: api.Bye, Why: 26})
	far, _ := follow.New(s, h, plan, math.MinInt)
	if far.Tick(math.MaxInt); far.State() != api.Over {
		t.Error("far apart")
	}
	late, _ := follow.New(s, h, plan, math.MaxInt)
	if late.Tick(math.MaxInt); late.State() != api.Runs {
		t.Error("late")
	}
}

// P26.2: answers are new memory; a nil follow.
func TestApartAndNil(t *testing.T) {
	s, o := fresh(t, 1, 9), fresh(t, 0, 9)
	fill(s, 0, 2)
	fill(o, 5, 6)
	own, theirs := pin.Of(s), pin.Of(o)
	f := begun(t, s, hello(theirs))
	push := api.Msg{Kind: api.Push, Sid: 9, Items: itemsOf(theirs, theirs.Marks())}
	f.Hear(push, 1)
	push.Items[0].Value[0] = 99
	got, _ := f.Hear(api.Msg{Kind: api.Fetch, Sid: 9, Marks: own.Marks()}, 1)
	got.Items[0].Value[0] = 99
	level, _ := f.Hear(api.Msg{Kind: api.Count, Sid: 9}, 1)
	level.Cells[0].Count = 99
	f.Taken()[0] = api.Mark{}
	f.Fetched()[0] = api.Mark{}
	f.Ledger().Sent(1, 1)
	if !slices.Equal(f.Taken(), theirs.Marks()) || !marks.Same(f.Fetched(), own.Marks()) || f.Ledger().Row(1).Frames != 0 || !store.Same(s, merged(t, s, o)) || s.Count() != 3 {
		t.Error("shared")
	}
	says(t, f, api.Msg{Kind: api.Fetch, Marks: own.Marks()}, api.Msg{Kind: api.Give, Items: itemsOf(own, own.Marks())})
	says(t, f, api.Msg{Kind: api.Count}, api.Msg{Kind: api.Level, Cells: own.Strata().Part(0)})
	var none *follow.Follow
	none.Tick(1)
	if m, ok := none.Hear(api.Msg{Kind: api.Count, Sid: 1}, 1); ok || !msg.Same(m, api.Msg{}) || none.State() != 0 || none.Why() != 0 || none.Sid() != 0 || none.Pin() != nil || none.Root() != (api.Mark{}) || none.Taken() != nil || none.Fetched() != nil || none.Ledger() != nil {
		t.Error("nil")
	}
}
