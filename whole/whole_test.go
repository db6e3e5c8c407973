package whole_test

import (
	"bytes"
	"math/rand"
	"slices"
	"strings"
	"testing"

	"gleanings/acts"
	"gleanings/api"
	"gleanings/console"
	"gleanings/dot"
	"gleanings/duet"
	"gleanings/iblt"
	"gleanings/marks"
	"gleanings/msg"
	"gleanings/mst"
	"gleanings/node"
	"gleanings/past"
	"gleanings/peel"
	"gleanings/pen"
	"gleanings/pin"
	"gleanings/realm"
	"gleanings/report"
	"gleanings/resolve"
	"gleanings/sibs"
	"gleanings/sip"
	"gleanings/store"
	"gleanings/ver"
	"gleanings/walk"
	"gleanings/watch"
)

var plan = api.Plan{Every: 4, Tries: 2, Rounds: 2, Idle: 60}

func fresh(t *testing.T, n, most int) *realm.Realm {
	r, err := realm.New(n, most, plan)
	if err != api.OK {
		t.Fatal(err)
	}
	return r
}

// random event, of which few are faults.
func random(r *rand.Rand, faults int) api.Event {
	e := api.Event{A: r.Intn(5), N: r.Intn(30), Key: string(rune('a' + r.Intn(4)))}
	switch r.Intn(10) {
	case 0:
		e.Kind, e.Value = api.EvPut, []byte{byte(r.Intn(6))}
	case 1:
		e.Kind = api.EvDelete
	case 2, 3:
		e.Kind = api.EvGet
	case 4:
		e = api.Event{Kind: api.EvNext, A: e.A}
	default:
		e = api.Event{Kind: api.EvDeliver, N: e.N}
	}
	if r.Intn(100) < faults {
		e = api.Event{Kind: []int{api.EvLose, api.EvDouble, api.EvTurn, api.EvTick, api.EvCrash}[r.Intn(5)], A: e.A}
		switch e.Kind {
		case api.EvTick:
			e.A, e.N = 0, r.Intn(9)
		case api.EvTurn:
			e.A, e.N, e.B, e.X = 0, r.Intn(9), r.Intn(40), byte(1+r.Intn(255))
		case api.EvLose, api.EvDouble:
			e.A, e.N = 0, r.Intn(9)
		}
	}
	if e.Kind == api.EvGet {
		e.N = 0
	}
	return e
}

// The document's ten examples of the whole.
func TestTenExamples(t *testing.T) {
	if sip.Hash(api.SumKey{A: 0x0706050403020100, B: 0x0f0e0d0c0b0a0908}) != 0x726fdb47dd0e0e31 {
		t.Error(1)
	}
	var p pen.Pen
	if p.Number(248); !bytes.Equal(p.Bytes(), []byte{0xf8, 0xf8}) {
		t.Error(2)
	}
	a, _ := dot.Parse("0:1-3 2:1")
	b, _ := dot.Parse("0:4 1:5")
	if dot.Text(dot.Join(a, b)) != "0:1-4 1:5 2:1" {
		t.Error(3)
	}
	s, _ := store.New(0, 9)
	x, _ := s.Put("k", nil, []byte("v"))
	s.Put("k", nil, []byte("w"))
	both, _ := dot.Parse("0:1-2")
	two := s.Count()
	if s.Put("k", both, nil); ver.Text(x) != "6b 0:1 [-] 76" || two != 2 || s.Count() != 1 {
		t.Error(4)
	}
	first, _ := iblt.Of(12, api.Mark{1}, api.Mark{2})
	second, _ := iblt.Of(12, api.Mark{1})
	less, _ := first.Sub(second)
	if d, err := peel.Whole(less, 9); err != api.OK || !slices.Equal(d.Plus, []api.Mark{{2}}) || len(d.Minus) > 0 {
		t.Error(5)
	}
	tree := mst.Of(api.Mark{1}, api.Mark{2})
	if tree.Insert(api.Mark{3}).Remove(api.Mark{3}).Root() != tree.Root() {
		t.Error(6)
	}
	d, _ := duet.New(s, s.Clone(), 1, plan)
	if d.Run(9); d.Lead().State() != api.Well || d.Follow().State() != api.Well || d.Lead().Ledger().Text() != "1 1 29, 13 1 29" {
		t.Error(7, d.Lead().Ledger().Text())
	}
	empty, _ := store.New(0, 9)
	other, _ := store.New(1, 9)
	if d, _ = duet.New(empty, other, 1, plan); d.Run(9) != 2 {
		t.Error(8)
	}
	r := fresh(t, 3, 9)
	r.Run(api.Event{Kind: api.EvPut, A: 0, Key: "k", Value: []byte("v")}, api.Event{Kind: api.EvPut, A: 1, Key: "k", Value: []byte("w")})
	r.Settle(1)
	if got, _ := r.Step(api.Event{Kind: api.EvGet, A: 2, Key: "k"}); len(got.Values) != 2 {
		t.Error(9)
	}
	if got := console.New().Run("new 2 9 5 1 1 50\nput 0 6b 76 0\nsettle 1\nget 1 6b"); got != "ok\nok 6b 0:1 [-] 76\nyes\nok 76 [0:1]\n" {
		t.Error(10, got)
	}
}

// tellsGet: is a Get's answer what sets of writes tell?
func tellsGet(b *past.Book, n int, key string, a api.Answer) bool {
	values, clock, err := b.Get(n, key)
	return a.Err == err && dot.Same(a.Clock, clock) && slices.EqualFunc(a.Values, values, bytes.Equal) && ver.Same(a.Item, api.Item{})
}

// tellsWrite: is a write's answer what was live ahead of it tells?
func tellsWrite(live []api.Item, n int, e api.Event, past api.Clock, a api.Answer) bool {
	if a.Err != api.OK {
		return ver.Same(a.Item, api.Item{})
	}
	return a.Item.Dot == sibs.Next(live, n, past) && dot.Same(a.Item.Past, past) && a.Item.Gone == (e.Kind == api.EvDelete) && bytes.Equal(a.Item.Value, e.Value)
}

// P1: each Get, Put and Delete is answered as sets of writes tell it.
func TestModel(t *testing.T) {
	rnd := rand.New(rand.NewSource(50))
	for range 30 {
		r := fresh(t, 3, 3)
		type context struct {
			key   string
			clock api.Clock
		}
		var contexts []context
		for range 600 {
			e := random(rnd, 10)
			n := e.A % 3
			var past api.Clock
			if len(contexts) > 0 {
				if c := contexts[e.N%len(contexts)]; c.key == e.Key {
					past = c.clock
				}
			}
			before := r.Node(n).Store().Bytes()
			live := r.Book().Live(n, e.Key)
			a, ok := r.Step(e)
			switch e.Kind {
			case api.EvGet:
				ok = ok && tellsGet(r.Book(), n, e.Key, a)
			case api.EvPut, api.EvDelete:
				ok = ok && tellsWrite(live, n, e, past, a)
			}
			if e.Kind <= api.EvGet && (!ok || a.Err != api.OK && !bytes.Equal(before, r.Node(n).Store().Bytes())) {
				t.Fatal("isn't as the writes tell:", e, a)
			}
			if e.Kind == api.EvGet && a.Err == api.OK {
				if contexts = append(contexts, context{key: e.Key, clock: a.Clock}); len(contexts) > 64 {
					contexts = contexts[1:]
				}
			}
			for i := range 3 {
				if !watch.Holds(r, i) {
					t.Fatal("doesn't hold", i)
				}
			}
		}
		if r.Met() {
			t.Fatal("met")
		}
	}
}

// P2, P3: whatever befalls, sessions end; who is Well has the other one's pin, and took just what was missing.
func TestSessions(t *testing.T) {
	rnd := rand.New(rand.NewSource(51))
	wells, overs := 0, 0
	for range 40 {
		r := fresh(t, 3, 9)
		for range 500 {
			r.Step(random(rnd, 8))
		}
		r.Quiet()
		for range 61 {
			r.Step(api.Event{Kind: api.EvTick, N: 1})
		}
		for i := range 3 {
			x := r.Node(i)
			if s := x.Lead().State(); s == api.Runs {
				t.Fatal("a lead runs on")
			}
			p, _ := x.Peer()
			if f := r.Node(p).Follow(i); x.Lead().State() == api.Well && f.Sid() == x.Lead().Sid() {
				own, theirs := x.Lead().Pin().Marks(), f.Pin().Marks()
				if f.State() != api.Well || !marks.Same(marks.Of(x.Lead().Taken()...), marks.Minus(theirs, own)) || !marks.Same(marks.Of(f.Taken()...), marks.Minus(own, theirs)) {
					t.Fatal("took something else")
				}
				hasAll(t, x, f.Pin())
				hasAll(t, r.Node(p), x.Lead().Pin())
			}
			for other := range 3 {
				if x.Follow(other).State() == api.Runs {
					t.Fatal("a follow runs on")
				}
			}
			for y := range x.Store().Items() {
				if !r.Book().Genuine(y) {
					t.Fatal("nobody wrote it", ver.Text(y))
				}
			}
		}
		for _, c := range r.Closed() {
			if c.End.State == api.Well {
				wells++
			} else {
				overs++
			}
		}
		if v := watch.Verdict(r); v.Paired != v.Well {
			t.Fatal("isn't paired")
		}
	}
	if wells < 100 || overs < 20 {
		t.Error("wells, overs", wells, overs)
	}
}

// hasAll: has a node each item of a pin, or one above it?
func hasAll(t *testing.T, x *node.Node, p *pin.Pin) {
	t.Helper()
	for _, y := range p.Items(p.Marks()) {
		seen := false
		for z := range x.Store().Scan(y.Key, y.Key+"\x00") {
			seen = seen || ver.Same(y, z) || dot.Has(z.Past, y.Dot)
		}
		if !seen {
			t.Fatal("hasn't", ver.Text(y))
		}
	}
}

// P4, P8: behind a round all stores have the same bytes; what was deleted with all that was known stays deleted.
func TestAgreement(t *testing.T) {
	rnd := rand.New(rand.NewSource(52))
	settled := 0
	for range 40 {
		r := fresh(t, 2+rnd.Intn(4), 9)
		for range 150 {
			r.Step(random(rnd, 6))
		}
		if !r.Settle(1) {
			continue // no room for one more item of a key
		}
		settled++
		for i := range r.Nodes() {
			if !bytes.Equal(r.Node(i).Store().Bytes(), r.Node(0).Store().Bytes()) || !watch.Alike(r, i) {
				t.Fatal("isn't the same", i)
			}
		}
		if _, err := resolve.All(r.Node(1).Store(), api.ByJoin); err != api.OK {
			t.Fatal(err)
		}
		r.Step(api.Event{Kind: api.EvGet, A: 0, Key: "a"})
		a, _ := r.Step(api.Event{Kind: api.EvDelete, A: 0, Key: "a", N: -1})
		if !r.Settle(1) {
			t.Fatal("isn't settled")
		}
		for i := range r.Nodes() {
			for key := range resolve.Torn(r.Node(i).Store()) {
				if key != "a" {
					t.Fatal("torn", key)
				}
			}
			for x := range r.Node(i).Store().Scan("a", "b") {
				if a.Err == api.OK && x.Dot.N < a.Item.Dot.N && x.Dot.Node == 0 {
					t.Fatal("what was deleted is back", ver.Text(x))
				}
			}
		}
	}
	if settled < 10 {
		t.Error("settled", settled)
	}
}

// P5: what was said is the sum of the frames, kind by kind.
func TestBytes(t *testing.T) {
	r := fresh(t, 2, 9)
	rnd := rand.New(rand.NewSource(53))
	for range 20 {
		r.Step(api.Event{Kind: api.EvPut, A: rnd.Intn(2), Key: string(rune('a' + rnd.Intn(9)))})
	}
	r.Step(api.Event{Kind: api.EvSync, A: 0, B: 1})
	said := map[int]api.Row{}
	for r.Flying() > 0 {
		for _, m := range r.Mails() {
			x, err := msg.Read(m.Bytes)
			if err != api.OK {
				t.Fatal(err)
			}
			row := said[x.Kind]
			said[x.Kind] = api.Row{Frames: row.Frames + 1, Bytes: row.Bytes + uint64(len(m.Bytes))}
		}
		r.Step(api.Event{Kind: api.EvDeliver})
	}
	all := r.Node(0).Ledger()
	all.Add(r.Node(1).Ledger())
	for kind := 1; kind <= 14; kind++ {
		if all.Row(kind) != said[kind] {
			t.Error(kind, all.Row(kind), said[kind])
		}
	}
	if all.Total().Bytes != r.Said() {
		t.Error(r.Said())
	}
}

// P6: crashes leave stores; bytes that are no message change nothing; no Sid is used twice.
func TestNoise(t *testing.T) {
	rnd := rand.New(rand.NewSource(54))
	r := fresh(t, 3, 9)
	var last [3]int
	for range 3000 {
		e := random(rnd, 25)
		var before [3][]byte
		for i := range before {
			before[i] = r.Node(i).Store().Bytes()
		}
		bad := 0
		for i := range 3 {
			bad -= r.Node(i).Bad()
		}
		r.Step(e)
		for i := range 3 {
			bad += r.Node(i).Bad()
		}
		for i := range 3 {
			if (e.Kind == api.EvCrash || bad > 0) && !bytes.Equal(r.Node(i).Store().Bytes(), before[i]) {
				t.Fatal("changed by noise")
			}
			if sid := r.Node(i).Lead().Sid(); sid != 0 {
				if sid < last[i] || node.Owner(sid) != i || sid != i<<36+r.Node(i).Count() {
					t.Fatal("Sid", sid)
				}
				last[i] = sid
			}
		}
	}
}

// P7: what is peeled whole, put together again, is the sketch; what a walk finds is the other one's set.
func TestDifferences(t *testing.T) {
	rnd := rand.New(rand.NewSource(55))
	for range 60 {
		a, b := some(rnd, rnd.Intn(200)), some(rnd, rnd.Intn(30))
		first, _ := iblt.Of(300, a...)
		second, _ := iblt.Of(300, marks.Union(b, a[len(a)/10:])...)
		less, _ := first.Sub(second)
		if d, err := peel.Whole(less, 4096); err == api.OK {
			again, _ := peel.Again(300, d)
			if rest, _ := less.Sub(again); !rest.Empty() {
				t.Fatal("isn't the sketch")
			}
		}
		other := mst.Of(marks.Union(a, b)...)
		w := walk.New(mst.Of(a...), other.Root())
		for !w.Done() {
			hash, _ := w.Want()
			p, _ := other.Page(hash)
			w.Give(p)
		}
		if found, err := w.Found(); err != api.OK || !marks.Same(found, marks.Union(a, b)) {
			t.Fatal("found", err)
		}
	}
}

func some(r *rand.Rand, n int) []api.Mark {
	l := make([]api.Mark, n)
	for i := range l {
		r.Read(l[i][:])
	}
	return marks.Of(l...)
}

// P9: the same events tell the same; scripts are events, there and back.
func TestTexts(t *testing.T) {
	rnd := rand.New(rand.NewSource(56))
	for range 20 {
		var l []api.Event
		for range 300 {
			e := random(rnd, 15)
			if e.Kind == api.EvNext || e.Kind == api.EvCrash {
				e = api.Event{Kind: e.Kind, A: e.A}
			}
			l = append(l, e)
		}
		l = slices.DeleteFunc(l, func(e api.Event) bool { return !acts.Right(e) })
		back, _, err := acts.Read(acts.Script(l))
		if err != api.OK || !slices.EqualFunc(back, l, acts.Same) || len(l) < 200 {
			t.Fatal("script", err, len(l))
		}
		tell := func() string {
			c := console.New()
			c.Do("new 3 9 4 2 2 60")
			return c.Run(acts.Script(back)) + c.Run("report\nclosed\nverdict\nstore 0\nstore 1\nledger 2\ntorn 1")
		}
		r := fresh(t, 3, 9)
		r.Run(l...)
		if got := tell(); got != tell() || !strings.Contains(got, report.Realm(r)) || !strings.Contains(got, watch.Text(watch.Verdict(r))) {
			t.Fatal("unlike")
		}
	}
}
