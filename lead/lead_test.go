package lead_test

import (
	"math/rand"
	"slices"
	"strconv"
	"testing"

	"gleanings/api"
	"gleanings/iblt"
	"gleanings/lead"
	"gleanings/marks"
	"gleanings/msg"
	"gleanings/mst"
	"gleanings/pin"
	"gleanings/sizes"
	"gleanings/store"
	"gleanings/strata"
	"gleanings/ver"
)

var plan = api.Plan{Every: 5, Tries: 2, Rounds: 2, Idle: 50}

func fresh(t *testing.T, node, most int) *store.Store {
	s, err := store.New(node, most)
	if err != api.OK {
		t.Fatal(err)
	}
	return s
}

// fill a store with so many keys.
func fill(s *store.Store, from, to int) {
	for i := from; i < to; i++ {
		s.Put("k"+strconv.Itoa(i), nil, []byte{byte(i)})
	}
}

func begun(t *testing.T, s *store.Store, p api.Plan) (*lead.Lead, api.Msg) {
	l, err := lead.New(s, 9, p)
	if err != api.OK {
		t.Fatal(err)
	}
	m, ok := l.Begin(0)
	if !ok || m.Kind != api.Hello || m.N != l.Pin().Len() || m.Root != l.Pin().Root() || m.Sid != 9 {
		t.Fatal("begin", m, ok)
	}
	return l, m
}

// answer of who has a pin to a request; pushed items are told to a function.
func answer(p *pin.Pin, m api.Msg, pushed func(x api.Item)) api.Msg {
	a := api.Msg{Sid: m.Sid, Part: m.Part}
	switch m.Kind {
	case api.Hello:
		a.Kind, a.N, a.Root = api.Meet, p.Len(), p.Root()
	case api.Count:
		a.Kind, a.Cells = api.Level, p.Strata().Part(m.Part)
	case api.Ask:
		a.Kind, a.Size = api.Cells, m.Size
		sketch, _ := p.Sketch(m.Size)
		from, to, _ := sizes.Range(m.Size, m.Part)
		for i := from; i < to; i++ {
			c, _ := sketch.Cell(i)
			a.Cells = append(a.Cells, c)
		}
	case api.Want:
		a.Kind = api.Leaf
		a.Page, _ = p.Tree().Page(m.Root)
	case api.Fetch:
		a.Kind = api.Give
		for _, x := range p.Items(m.Marks) {
			if len(a.Items) < 7 {
				a.Items = append(a.Items, x)
			}
		}
	case api.Push:
		a.Kind = api.Got
		for _, x := range m.Items {
			pushed(x)
		}
	case api.Done:
		a.Kind = api.Bye
	}
	return a
}

// run a session; kinds of what the lead said.
func run(t *testing.T, l *lead.Lead, m api.Msg, p *pin.Pin, pushed func(x api.Item)) []int {
	var kinds []int
	for ok := true; ok; {
		if !msg.Right(m) {
			t.Fatal("says no message", m)
		}
		kinds = append(kinds, m.Kind)
		m, ok = l.Hear(answer(p, m, pushed), 1)
	}
	return kinds
}

// P25.1: plans, and what New refuses.
func TestNew(t *testing.T) {
	s := fresh(t, 0, 9)
	for p, want := range map[api.Plan]bool{
		{Every: 1, Tries: 0, Rounds: 0, Idle: 1}: true, {Every: 1000, Tries: 10, Rounds: 4, Idle: 1 << 20}: true, {Every: 0, Idle: 1}: false, {Every: 1001, Idle: 1}: false, {Every: 1, Tries: -1, Idle: 1}: false,
		{Every: 1, Tries: 11, Idle: 1}: false, {Every: 1, Rounds: -1, Idle: 1}: false, {Every: 1, Rounds: 5, Idle: 1}: false, {Every: 1}: false, {Every: 1, Idle: 1<<20 + 1}: false,
	} {
		l, err := lead.New(s, 1, p)
		if lead.Right(p) != want || (err == api.OK) != want || (l != nil) != want || !want && err != api.ErrArg {
			t.Error(p, err)
		}
	}
	for sid, want := range map[int]api.Errno{0: api.ErrArg, -1: api.ErrArg, 1: api.OK, 1 << 40: api.OK, 1<<40 + 1: api.ErrArg} {
		if l, err := lead.New(s, sid, plan); err != want || (l != nil) != (want == api.OK) {
			t.Error(sid, err)
		}
	}
	if l, err := lead.New(nil, 0, api.Plan{}); l != nil || err != api.ErrNil {
		t.Error(err)
	}
}

// P25.1, P25.2: two stores that are the same: Hello, Done, Well.
func TestSame(t *testing.T) {
	for _, rounds := range []int{0, 2} {
		s := fresh(t, 0, 9)
		fill(s, 0, 5)
		p := plan
		p.Rounds = rounds
		l, err := lead.New(s, 9, p)
		if _, told := l.Other(); err != api.OK || l.State() != api.Fresh || l.Sid() != 9 || told || l.Pin().Len() != 5 {
			t.Error("fresh")
		}
		if m, ok := l.Hear(api.Msg{Kind: api.Bye, Sid: 9, Why: 7}, 1); ok || l.State() != api.Fresh {
			t.Error("hears ahead of its beginning", m)
		}
		if m, ok := l.Tick(99); ok {
			t.Error("ticks ahead of its beginning", m)
		}
		m, ok := l.Begin(0)
		if _, known := l.Diff(); !ok || known || l.State() != api.Runs {
			t.Error("begin")
		}
		if m, ok := l.Begin(0); ok || !msg.Same(m, api.Msg{}) {
			t.Error("begins twice")
		}
		kinds := run(t, l, m, pin.Of(s), nil)
		d, known := l.Diff()
		other, told := l.Other()
		used, pages := l.Used()
		if !slices.Equal(kinds, []int{api.Hello, api.Done}) || l.State() != api.Well || l.Why() != 0 || !known || len(d.Plus)+len(d.Minus) > 0 || !told || other != l.Pin().Root() || used+pages > 0 || len(l.Taken()) > 0 {
			t.Error(kinds, l.State(), l.Why())
		}
		bytes := uint64(len(msg.Put(m)) + len(msg.Put(api.Msg{Kind: api.Done, Sid: 9, Root: other})))
		if l.Ledger().Total() != (api.Row{Frames: 2, Bytes: bytes}) {
			t.Error(l.Ledger().Text())
		}
		if m, ok := l.Tick(1 << 50); ok {
			t.Error("ticks at the end", m)
		}
	}
}

// P25.1, P25.2, P25.3: unlike stores, by sketches and by walks: what each has more is taken and pushed.
func TestUnlike(t *testing.T) {
	r := rand.New(rand.NewSource(34))
	for round := range 40 {
		a, b := fresh(t, 0, 256), fresh(t, 1, 256)
		both := r.Intn(90)
		fill(a, 0, both)
		for x := range a.Items() {
			b.Take(x)
		}
		fill(a, 100, 100+r.Intn(1+2*round))
		fill(b, 80, 80+r.Intn(1+2*round))
		p := plan
		p.Rounds = round % 3
		own, theirs := pin.Of(a), pin.Of(b)
		l, m := begun(t, a, p)
		fill(a, 250, 252) // which its pin doesn't see
		var came []api.Mark
		kinds := run(t, l, m, theirs, func(x api.Item) { came = append(came, ver.Mark(x)) })
		d, known := l.Diff()
		other, _ := l.Other()
		plus, minus := marks.Minus(own.Marks(), theirs.Marks()), marks.Minus(theirs.Marks(), own.Marks())
		if l.State() != api.Well || !known || !marks.Same(d.Plus, plus) || !marks.Same(d.Minus, minus) || other != theirs.Root() || l.Pin().Root() != own.Root() {
			t.Fatal(round, l.State(), l.Why(), kinds)
		}
		if !marks.Same(came, plus) || !marks.Same(marks.Of(l.Taken()...), minus) || len(l.Taken()) != len(minus) {
			t.Fatal("pushed or taken", len(came), len(l.Taken()))
		}
		for m := range theirs.Tree().All() {
			if _, ok := a.Find(m); !ok {
				t.Fatal("isn't in the store")
			}
		}
		used, pages := l.Used()
		if (p.Rounds == 0) != slices.Contains(kinds, api.Want) && used < p.Rounds && own.Root() != other || used > p.Rounds || p.Rounds == 0 && slices.Contains(kinds, api.Ask) || pages > theirs.Len() {
			t.Fatal("used", used, pages, kinds)
		}
	}
}

// P25.1: the order of its requests, with a Part at a time.
func TestRequests(t *testing.T) {
	a, b := fresh(t, 0, 256), fresh(t, 1, 256)
	fill(a, 0, 100)
	theirs := pin.Of(b)
	l, m := begun(t, a, plan)
	for part := range 8 {
		m, _ = l.Hear(answer(theirs, m, nil), 1)
		if !msg.Same(m, api.Msg{Kind: api.Count, Sid: 9, Part: part}) {
			t.Fatal(m)
		}
	}
	guess, _ := strata.Guess(strata.Of(l.Pin().Marks()...), strata.New())
	size := sizes.Cells(guess)
	for part := range sizes.Parts(size) {
		if used, _ := l.Used(); used != 0 {
			t.Fatal("a size counts too early")
		}
		m, _ = l.Hear(answer(theirs, m, nil), 1)
		if !msg.Same(m, api.Msg{Kind: api.Ask, Sid: 9, Size: size, Part: part}) {
			t.Fatal(m)
		}
	}
	m, _ = l.Hear(answer(theirs, m, nil), 1)
	var pushed []api.Mark
	for part := 0; m.Kind == api.Push; part++ {
		if m.Part != part {
			t.Fatal(m.Part)
		}
		for _, x := range m.Items {
			pushed = append(pushed, ver.Mark(x))
		}
		m, _ = l.Hear(answer(theirs, m, func(api.Item) {}), 1)
	}
	if !marks.Same(pushed, l.Pin().Marks()) || !msg.Same(m, api.Msg{Kind: api.Done, Sid: 9, N: 100, Root: l.Pin().Root()}) {
		t.Error(len(pushed), m)
	}
}

// P25.1: sketches that don't hold: the next size, and a walk behind the last round.
func TestSketchesThatDontHold(t *testing.T) {
	a, b := fresh(t, 0, 256), fresh(t, 1, 256)
	fill(a, 0, 20)
	fill(b, 50, 70)
	theirs := pin.Of(b)
	l, m := begun(t, a, plan)
	var asked []int
	wants := 0
	for ok := true; ok; {
		got := answer(theirs, m, func(api.Item) {})
		switch m.Kind {
		case api.Ask:
			if m.Part == 0 {
				asked = append(asked, m.Size)
			}
			// A mark that nobody has: peeled whole, but no difference of these two.
			sketch, _ := iblt.Of(m.Size, append(theirs.Marks(), api.Mark{1})...)
			from, to, _ := sizes.Range(m.Size, m.Part)
			got.Cells = nil
			for i := from; i < to; i++ {
				c, _ := sketch.Cell(i)
				got.Cells = append(got.Cells, c)
			}
		case api.Want:
			wants++
		}
		m, ok = l.Hear(got, 1)
	}
	used, pages := l.Used()
	if len(asked) != 2 || asked[1] != sizes.Next(asked[0]) || used != 2 || wants == 0 || pages != wants || l.State() != api.Well {
		t.Error(asked, used, wants, pages, l.State())
	}
}

// asked: a session in which the other one's sketches are changed; which sizes and pages were asked for.
func asked(t *testing.T, a *store.Store, theirs *pin.Pin, change func(size int, s *iblt.Sketch)) (*lead.Lead, []int, int) {
	l, m := begun(t, a, plan)
	var asks []int
	wants := 0
	for ok := true; ok; {
		got := answer(theirs, m, func(api.Item) {})
		switch m.Kind {
		case api.Ask:
			if m.Part == 0 {
				asks = append(asks, m.Size)
			}
			sketch, _ := theirs.Sketch(m.Size)
			change(len(asks), sketch)
			from, to, _ := sizes.Range(m.Size, m.Part)
			got.Cells = nil
			for i := from; i < to; i++ {
				c, _ := sketch.Cell(i)
				got.Cells = append(got.Cells, c)
			}
		case api.Want:
			wants++
		}
		m, ok = l.Hear(got, 1)
	}
	return l, asks, wants
}

// P25.1: a sketch that doesn't hold, and the next one that does; and differences that would make the root, but are none.
func TestNextSketch(t *testing.T) {
	a, b := fresh(t, 0, 256), fresh(t, 1, 256)
	fill(a, 0, 40)
	for x := range a.Items() {
		b.Take(x)
	}
	fill(b, 50, 60)
	theirs := pin.Of(b)
	foreign := api.Mark{1, 2, 3}
	own := pin.Of(a).Marks()[3]
	for i, c := range []struct {
		change func(n int, s *iblt.Sketch)
		asks   int
		wants  bool
	}{
		{func(n int, s *iblt.Sketch) {}, 1, false},
		{func(n int, s *iblt.Sketch) {
			if n == 1 {
				s.Add(foreign)
			}
		}, 2, false},
		{func(n int, s *iblt.Sketch) { s.Remove(foreign) }, 2, true}, // of Plus, but no mark of the pin
		{func(n int, s *iblt.Sketch) { s.Add(own) }, 2, true},        // of Minus, but a mark of the pin
	} {
		l, asks, wants := asked(t, a.Clone(), theirs, c.change)
		if guess, _ := strata.Guess(l.Pin().Strata(), theirs.Strata()); asks[0] != sizes.Cells(guess) {
			t.Error(i, "another size", asks[0], guess)
		}
		if used, pages := l.Used(); len(asks) != c.asks || (wants > 0) != c.wants || used != c.asks || pages != wants || l.State() != api.Well || len(l.Taken()) != 10 {
			t.Error(i, asks, wants, used, pages, l.State())
		}
	}
}

// P25.1: what says nothing.
func TestSaysNothing(t *testing.T) {
	a, b := fresh(t, 0, 9), fresh(t, 1, 9)
	fill(a, 0, 3)
	fill(b, 5, 8)
	theirs := pin.Of(b)
	for _, rounds := range []int{0, 1} {
		p := plan
		p.Rounds = rounds
		l, m := begun(t, a, p)
		for ok := true; ok; {
			right := answer(theirs, m, func(api.Item) {})
			other := right
			other.Sid = 8
			wrong := []api.Msg{other, {Kind: right.Kind}, {Kind: api.Hello, Sid: 9}, {Kind: api.Got, Sid: 9, Part: 4000}, {Kind: api.Level, Sid: 9, Part: (m.Part + 1) % 8, Cells: make([]api.Cell, 12)},
				{Kind: api.Cells, Sid: 9, Size: 3, Cells: make([]api.Cell, 3)}, {Kind: api.Bye, Sid: 8, Why: 3}}
			if m.Kind != api.Done {
				wrong = append(wrong, api.Msg{Kind: api.Bye, Sid: 9})
			}
			if m.Kind != api.Push {
				wrong = append(wrong, api.Msg{Kind: api.Got, Sid: 9, Part: m.Part})
			}
			if m.Kind != api.Count {
				wrong = append(wrong, api.Msg{Kind: api.Level, Sid: 9, Part: m.Part, Cells: make([]api.Cell, 12)})
			}
			if m.Kind != api.Ask {
				wrong = append(wrong, api.Msg{Kind: api.Cells, Sid: 9, Size: 12, Part: m.Part, Cells: make([]api.Cell, 12)})
			}
			if m.Kind != api.Hello {
				wrong = append(wrong, api.Msg{Kind: api.Meet, Sid: 9})
			}
			if m.Kind == api.Ask {
				wrong = append(wrong, m, api.Msg{Kind: api.Cells, Sid: 9, Size: sizes.Next(m.Size), Part: m.Part, Cells: answer(theirs, api.Msg{Kind: api.Ask, Sid: 9, Size: sizes.Next(m.Size)}, nil).Cells})
			}
			if m.Kind == api.Want {
				wrong = append(wrong, api.Msg{Kind: api.Leaf, Sid: 9, Page: api.Page{Marks: []api.Mark{{8: 0x80}}, Kids: make([]api.Mark, 2)}})
			}
			if m.Kind == api.Fetch {
				wrong = append(wrong, api.Msg{Kind: api.Give, Sid: 9, Items: []api.Item{{Key: "z", Dot: api.Dot{N: 1}}}})
			} else {
				wrong = append(wrong, api.Msg{Kind: api.Give, Sid: 9})
			}
			before := l.Ledger().Text()
			for i, w := range wrong {
				if got, said := l.Hear(w, 1); said || !msg.Same(got, api.Msg{}) || l.State() != api.Runs || l.Ledger().Text() != before {
					t.Fatal(m.Kind, i, got)
				}
			}
			m, ok = l.Hear(right, 1)
		}
		if l.State() != api.Well {
			t.Error(l.State(), l.Why())
		}
		a = fresh(t, 0, 9)
		fill(a, 0, 3)
	}
}

// P25.1: a Bye with a Why ends it, and nothing is said behind that.
func TestBye(t *testing.T) {
	s := fresh(t, 0, 9)
	l, _ := begun(t, s, plan)
	if m, ok := l.Hear(api.Msg{Kind: api.Bye, Sid: 9, Why: 77}, 1); ok || !msg.Same(m, api.Msg{}) || l.State() != api.Over || l.Why() != 77 || l.Ledger().Total().Frames != 1 {
		t.Error(m, l.State(), l.Why())
	}
	if m, ok := l.Tick(1000); ok {
		t.Error(m)
	}
	if m, ok := l.Hear(api.Msg{Kind: api.Meet, Sid: 9}, 1); ok {
		t.Error(m)
	}
}

// P25.1: requests are said again, in the same words, and end.
func TestTimer(t *testing.T) {
	s := fresh(t, 0, 9)
	fill(s, 0, 3)
	p := plan
	p.Rounds = 0
	l, m := begun(t, s, p)
	first := m
	for now, want := range map[int]bool{4: false} {
		if _, ok := l.Tick(now); ok != want {
			t.Error(now)
		}
	}
	for _, now := range []int{5, 15} {
		got, ok := l.Tick(now)
		if !ok || !msg.Same(got, first) {
			t.Error(now, got)
		}
		if got, ok = l.Tick(now); ok {
			t.Error("again", got)
		}
	}
	if l.Ledger().Row(api.Hello).Frames != 3 {
		t.Error(l.Ledger().Text())
	}
	m, _ = l.Hear(api.Msg{Kind: api.Meet, Sid: 9}, 20)
	if m.Kind != api.Push {
		t.Fatal(m)
	}
	want := m.Items[0].Key
	m.Items[0].Key, m.Items[0].Value[0] = "x", 99
	for _, now := range []int{25, 35} {
		if got, ok := l.Tick(now); !ok || got.Kind != api.Push || got.Items[0].Key != want || got.Items[0].Value[0] == 99 {
			t.Error(now, got)
		}
	}
	if got, ok := l.Tick(54); ok {
		t.Error(got)
	}
	if got, ok := l.Tick(55); !ok || !msg.Same(got, api.Msg{Kind: api.Bye, Sid: 9, Why: 26}) || l.State() != api.Over || l.Why() != 26 {
		t.Error(got, l.State(), l.Why())
	}
	if got, ok := l.Tick(999); ok || l.Ledger().Row(api.Bye).Frames != 1 {
		t.Error(got)
	}
}

// P25.1: ends by itself: no room, nothing given, a tree that isn't told truly.
func TestEnds(t *testing.T) {
	small, b := fresh(t, 0, 1), fresh(t, 1, 9)
	fill(b, 0, 3)
	theirs := pin.Of(b)
	l, m := begun(t, small, plan)
	for m.Kind != api.Fetch {
		m, _ = l.Hear(answer(theirs, m, nil), 1)
	}
	m, ok := l.Hear(answer(theirs, m, nil), 1)
	if !ok || !msg.Same(m, api.Msg{Kind: api.Bye, Sid: 9, Why: 20}) || l.State() != api.Over || l.Why() != 20 || len(l.Taken()) != 1 || small.Len() != 1 {
		t.Error("no room", m, l.State(), l.Why(), len(l.Taken()))
	}
	l, m = begun(t, fresh(t, 0, 9), plan)
	for m.Kind != api.Fetch {
		m, _ = l.Hear(answer(theirs, m, nil), 1)
	}
	if m, ok = l.Hear(api.Msg{Kind: api.Give, Sid: 9}, 1); !ok || !msg.Same(m, api.Msg{Kind: api.Bye, Sid: 9, Why: 23}) || l.Why() != 23 {
		t.Error("nothing given", m)
	}
	p := plan
	p.Rounds = 0
	// A page whose marks lie beside where they should.
	kid := api.Page{Marks: []api.Mark{{0: 9, 8: 0x80}}, Kids: make([]api.Mark, 2)}
	top := api.Page{Tier: 1, Marks: []api.Mark{{0: 5, 8: 0x20}}, Kids: []api.Mark{mst.Hash(kid), {}}}
	l, _ = begun(t, fresh(t, 0, 9), p)
	l.Hear(api.Msg{Kind: api.Meet, Sid: 9, Root: mst.Hash(top)}, 1)
	l.Hear(api.Msg{Kind: api.Leaf, Sid: 9, Page: top}, 1)
	if m, ok = l.Hear(api.Msg{Kind: api.Leaf, Sid: 9, Page: kid}, 1); !ok || !msg.Same(m, api.Msg{Kind: api.Bye, Sid: 9, Why: 14}) || l.State() != api.Over {
		t.Error("not the root", m)
	}
}

// P25.1: a walk that is full.
func TestFullWalk(t *testing.T) {
	pages := []api.Page{{Marks: []api.Mark{{0: 5, 8: 0x80}}, Kids: make([]api.Mark, 2)}}
	for len(pages) < 4097 {
		pages = append(pages, api.Page{Marks: pages[0].Marks, Kids: []api.Mark{mst.Hash(pages[len(pages)-1]), {}}})
	}
	p := plan
	p.Rounds = 0
	l, _ := begun(t, fresh(t, 0, 9), p)
	m, _ := l.Hear(api.Msg{Kind: api.Meet, Sid: 9, Root: mst.Hash(pages[4096])}, 1)
	for i := 4096; i >= 0 && m.Kind == api.Want; i-- {
		m, _ = l.Hear(api.Msg{Kind: api.Leaf, Sid: 9, Page: pages[i]}, 1)
	}
	if _, used := l.Used(); !msg.Same(m, api.Msg{Kind: api.Bye, Sid: 9, Why: 20}) || used != 4096 {
		t.Error(m, used)
	}
}

// P25.1: a request is kept apart from what was said.
func TestFetchAgain(t *testing.T) {
	b := fresh(t, 1, 9)
	fill(b, 0, 3)
	theirs := pin.Of(b)
	l, m := begun(t, fresh(t, 0, 9), plan)
	for m.Kind != api.Fetch {
		m, _ = l.Hear(answer(theirs, m, nil), 1)
	}
	clear(m.Marks)
	if again, ok := l.Tick(99); !ok || again.Kind != api.Fetch || !marks.Same(again.Marks, theirs.Marks()) {
		t.Error(again)
	}
}

// P25.2: answers are new memory; a nil lead.
func TestApartAndNil(t *testing.T) {
	a, b := fresh(t, 0, 9), fresh(t, 1, 9)
	fill(a, 0, 3)
	fill(b, 5, 8)
	l, m := begun(t, a, plan)
	run(t, l, m, pin.Of(b), func(api.Item) {})
	d, _ := l.Diff()
	taken := l.Taken()
	d.Plus[0], d.Minus[0], taken[0] = api.Mark{}, api.Mark{}, api.Mark{}
	l.Ledger().Sent(1, 1)
	if e, _ := l.Diff(); e.Plus[0] == d.Plus[0] || e.Minus[0] == d.Minus[0] || l.Taken()[0] == taken[0] || l.Ledger().Row(1).Frames != 1 {
		t.Error("shared")
	}
	var none *lead.Lead
	_, begins := none.Begin(1)
	_, hears := none.Hear(api.Msg{Kind: api.Bye, Sid: 1}, 1)
	_, ticks := none.Tick(1)
	_, told := none.Other()
	_, known := none.Diff()
	sizesUsed, pages := none.Used()
	if begins || hears || ticks || told || known || sizesUsed != 0 || pages != 0 || none.State() != 0 || none.Why() != 0 || none.Sid() != 0 || none.Pin() != nil || none.Taken() != nil || none.Ledger() != nil {
		t.Error("nil")
	}
}
