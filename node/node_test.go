package node_test

import (
	"bytes"
	"math"
	"math/rand"
	"slices"
	"strconv"
	"testing"

	"gleanings/api"
	"gleanings/frame"
	"gleanings/msg"
	"gleanings/node"
	"gleanings/store"
)

var plan = api.Plan{Every: 3, Tries: 1, Rounds: 1, Idle: 20}

func fresh(t *testing.T, id, n int) *node.Node {
	x, err := node.New(id, n, 20, plan)
	if err != api.OK {
		t.Fatal(err)
	}
	return x
}

func fill(s *store.Store, from, to int) {
	for i := from; i < to; i++ {
		s.Put("k"+strconv.Itoa(i), nil, []byte{byte(i)})
	}
}

// read the one message that was told.
func read(t *testing.T, l []api.Mail, from, to int) api.Msg {
	t.Helper()
	if len(l) != 1 || l[0].From != from || l[0].To != to {
		t.Fatal("mails", len(l))
	}
	m, err := msg.Read(l[0].Bytes)
	if err != api.OK {
		t.Fatal(err)
	}
	return m
}

func mail(from, to int, m api.Msg) api.Mail {
	return api.Mail{From: from, To: to, Bytes: msg.Put(m)}
}

// talk until nothing is under way; how many mails there were.
func talk(nodes []*node.Node, l []api.Mail, now int) int {
	n := 0
	for len(l) > 0 {
		n++
		m := l[0]
		l = append(l[1:], nodes[m.To].Hear(m, now)...)
	}
	return n
}

// P30.1: owners, makers, and what Sync refuses.
func TestNew(t *testing.T) {
	for sid, want := range map[int]int{0: -1, -1: -1, 1: 0, 1<<36 - 1: 0, 1 << 36: 1, 137438953473: 2, 8<<36 - 1: 7, 1 << 40: 16, 1<<40 + 1: -1} {
		if got := node.Owner(sid); got != want {
			t.Error(sid, got)
		}
	}
	for i, c := range []struct {
		id, n, most int
		p           api.Plan
	}{{0, 1, 9, plan}, {0, 9, 9, plan}, {-1, 3, 9, plan}, {3, 3, 9, plan}, {0, 3, -1, plan}, {0, 3, 257, plan}, {0, 3, 9, api.Plan{}}} {
		if x, err := node.New(c.id, c.n, c.most, c.p); x != nil || err != api.ErrArg {
			t.Error(i, err)
		}
	}
	x := fresh(t, 2, 3)
	if x.Id() != 2 || x.Store().Node() != 2 || x.Store().Most() != 20 || x.Count() != 0 || x.Lead() != nil || x.Follow(0) != nil || x.Bad() != 0 || len(x.Ends()) > 0 || x.Ledger().Text() != "-" {
		t.Error("new")
	}
	if p, ok := x.Peer(); ok || p != 0 {
		t.Error("peer")
	}
	for _, to := range []int{-1, 2, 3} {
		if l, err := x.Sync(to, 0); l != nil || err != api.ErrArg || x.Count() != 0 {
			t.Error(to, err)
		}
	}
	l, err := x.Sync(1, 0)
	m := read(t, l, 2, 1)
	if p, ok := x.Peer(); err != api.OK || m.Kind != api.Hello || m.Sid != 137438953473 || x.Count() != 1 || x.Lead().Sid() != m.Sid || p != 1 || !ok {
		t.Error("sync", err, m)
	}
	if l, err := x.Sync(0, 0); l != nil || err != api.ErrTurn || x.Count() != 1 {
		t.Error("leads already", err)
	}
	if _, err := x.Sync(2, 0); err != api.ErrArg {
		t.Error("ErrArg ahead of ErrTurn", err)
	}
}

// P30.2, P30.3: a session from its beginning to its end; another one behind it.
func TestSession(t *testing.T) {
	a, b := fresh(t, 0, 2), fresh(t, 1, 2)
	nodes := []*node.Node{a, b}
	fill(a.Store(), 0, 3)
	fill(b.Store(), 5, 7)
	l, _ := a.Sync(1, 0)
	talk(nodes, l, 0)
	if !store.Same(a.Store(), b.Store()) || a.Lead().State() != api.Well || b.Follow(0).State() != api.Well {
		t.Error("not well")
	}
	if got := a.Ends(); !slices.Equal(got, []api.End{{Sid: 1, Peer: 1, Led: true, State: api.Well, Took: 2}}) {
		t.Error(got)
	}
	if got := b.Ends(); !slices.Equal(got, []api.End{{Sid: 1, Peer: 0, State: api.Well, Took: 3}}) {
		t.Error(got)
	}
	if len(a.Ends())+len(b.Ends()) > 0 {
		t.Error("ends are told twice")
	}
	first := b.Follow(0)
	l, _ = a.Sync(1, 9)
	talk(nodes, l, 9)
	if a.Count() != 2 || a.Lead().Sid() != 2 || b.Follow(0) == first || b.Follow(0).Sid() != 2 || len(a.Ends()) != 1 || len(b.Ends()) != 1 {
		t.Error("another session")
	}
	l, _ = b.Sync(0, 9)
	if m := read(t, l, 1, 0); m.Sid != 1<<36+1 {
		t.Error(m.Sid)
	}
}

// P30.2: whom it hears, and what says nothing.
func TestHears(t *testing.T) {
	x := fresh(t, 1, 3)
	hello := api.Msg{Kind: api.Hello, Sid: 5}
	for i, m := range []api.Mail{mail(0, 0, hello), mail(0, 2, hello), mail(1, 1, hello), mail(3, 1, hello), mail(-1, 1, hello), {From: 0, To: 0, Bytes: []byte{1}}, {From: 3, To: 1}} {
		if l := x.Hear(m, 0); l != nil || x.Bad() != 0 || x.Follow(0) != nil {
			t.Error(i, "isn't to it")
		}
	}
	for i, b := range [][]byte{nil, {1}, frame.Turn(msg.Put(hello), 3, 1)} {
		if l := x.Hear(api.Mail{From: 0, To: 1, Bytes: b}, 0); l != nil || x.Bad() != i+1 {
			t.Error(i, "isn't bad")
		}
	}
	for i, m := range []api.Mail{mail(2, 1, hello), mail(0, 1, api.Msg{Kind: api.Hello, Sid: 1<<36 + 5}), mail(0, 1, api.Msg{Kind: api.Hello, Sid: 1 << 40}), mail(0, 1, api.Msg{Kind: api.Meet, Sid: 5}), mail(0, 1, api.Msg{Kind: api.Bye, Sid: 5}), mail(0, 1, api.Msg{Kind: api.Got, Sid: 5})} {
		if l := x.Hear(m, 0); l != nil || x.Follow(0) != nil || x.Follow(2) != nil {
			t.Error(i, "says something")
		}
	}
	item := api.Item{Key: "k", Dot: api.Dot{N: 1}}
	stray := api.Msg{Kind: api.Bye, Sid: 5, Why: 24}
	for i, m := range []api.Msg{{Kind: api.Count}, {Kind: api.Ask, Size: 12}, {Kind: api.Want}, {Kind: api.Fetch, Marks: []api.Mark{{}}}, {Kind: api.Push, Items: []api.Item{item}}, {Kind: api.Done}} {
		m.Sid = 5
		if got := read(t, x.Hear(mail(0, 1, m), 0), 1, 0); !msg.Same(got, stray) || x.Store().Count() != 0 {
			t.Error(i, got)
		}
	}
	if row := x.Ledger().Row(api.Bye); row.Frames != 6 || row.Bytes != uint64(6*len(msg.Put(stray))) {
		t.Error(x.Ledger().Text())
	}
	if m := read(t, x.Hear(mail(0, 1, hello), 0), 1, 0); m.Kind != api.Meet || m.Sid != 5 || x.Follow(0).Sid() != 5 {
		t.Error(m)
	}
	for _, sid := range []int{4, 1} {
		for _, kind := range []int{api.Hello, api.Count, api.Done} {
			if l := x.Hear(mail(0, 1, api.Msg{Kind: kind, Sid: sid}), 0); l != nil {
				t.Error("a lesser Sid is answered", sid, kind)
			}
		}
	}
	if m := read(t, x.Hear(mail(0, 1, api.Msg{Kind: api.Count, Sid: 6}), 0), 1, 0); m.Kind != api.Bye || m.Sid != 6 || x.Follow(0).Sid() != 5 {
		t.Error("a greater Sid", m)
	}
	// Another Hello puts the session away that runs.
	x.Hear(mail(0, 1, api.Msg{Kind: api.Push, Sid: 5, Items: []api.Item{item}}), 0)
	if m := read(t, x.Hear(mail(0, 1, api.Msg{Kind: api.Hello, Sid: 7}), 0), 1, 0); m.Kind != api.Meet || m.Sid != 7 || m.N != 1 {
		t.Error(m)
	}
	if got := x.Ends(); !slices.Equal(got, []api.End{{Sid: 5, Peer: 0, State: api.Over, Why: 24, Took: 1}}) {
		t.Error(got)
	}
	if x.Ledger().Row(api.Meet).Frames != 2 {
		t.Error(x.Ledger().Text())
	}
}

// P30.2: a lead hears its peer alone.
func TestLeadHears(t *testing.T) {
	x := fresh(t, 0, 3)
	l, _ := x.Sync(1, 0)
	m := read(t, l, 0, 1)
	meet := api.Msg{Kind: api.Meet, Sid: m.Sid}
	if l := x.Hear(mail(2, 0, meet), 0); l != nil {
		t.Error("hears another one")
	}
	for _, sid := range []int{2, 1<<36 + 1} {
		if l := x.Hear(mail(1, 0, api.Msg{Kind: api.Meet, Sid: sid}), 0); l != nil {
			t.Error("hears another Sid", sid)
		}
	}
	if got := read(t, x.Hear(mail(1, 0, meet), 0), 0, 1); got.Kind != api.Done {
		t.Error(got)
	}
	if l := x.Hear(mail(1, 0, api.Msg{Kind: api.Bye, Sid: m.Sid, Why: 8}), 0); l != nil {
		t.Error("says something")
	}
	if got := x.Ends(); !slices.Equal(got, []api.End{{Sid: 1, Peer: 1, Led: true, State: api.Over, Why: 8}}) {
		t.Error(got)
	}
}

// P30.2, P30.3: ticks: the lead says it again, and ends; follows wait.
func TestTick(t *testing.T) {
	x := fresh(t, 1, 3)
	x.Sync(2, 0)
	x.Hear(mail(2, 1, api.Msg{Kind: api.Hello, Sid: 2<<36 + 1}), 0)
	x.Hear(mail(0, 1, api.Msg{Kind: api.Hello, Sid: 1}), 0)
	if l := x.Tick(2); l != nil {
		t.Error("too early")
	}
	if m := read(t, x.Tick(3), 1, 2); m.Kind != api.Hello {
		t.Error(m)
	}
	if m := read(t, x.Tick(50), 1, 2); m.Kind != api.Bye || m.Why != 26 {
		t.Error(m)
	}
	want := []api.End{{Sid: 1<<36 + 1, Peer: 2, Led: true, State: api.Over, Why: 26}, {Sid: 1, Peer: 0, State: api.Over, Why: 26}, {Sid: 2<<36 + 1, Peer: 2, State: api.Over, Why: 26}}
	if got := x.Ends(); !slices.Equal(got, want) {
		t.Error(got)
	}
	if l := x.Tick(999); l != nil || len(x.Ends()) > 0 {
		t.Error("behind the end")
	}
}

// P30.2, P30.3, P30.4: a crash leaves items, count and ledger; what it put away has no end.
func TestCrash(t *testing.T) {
	a, b := fresh(t, 0, 2), fresh(t, 1, 2)
	fill(a.Store(), 0, 3)
	l, _ := a.Sync(1, 0)
	answer := b.Hear(l[0], 0)
	before, said, saidB := a.Store().Bytes(), a.Ledger().Text(), b.Ledger().Text()
	a.Crash()
	b.Crash()
	if _, ok := a.Peer(); ok || a.Lead() != nil || b.Follow(0) != nil || a.Count() != 1 || !bytes.Equal(a.Store().Bytes(), before) || a.Ledger().Text() != said || b.Ledger().Text() != saidB || len(a.Ends())+len(b.Ends()) > 0 {
		t.Error("crash")
	}
	if l := a.Hear(answer[0], 0); l != nil {
		t.Error("hears for a session that is gone")
	}
	l, err := a.Sync(1, 0)
	if m := read(t, l, 0, 1); err != api.OK || m.Sid != 2 {
		t.Error("a Sid is used again", m.Sid)
	}
	if m := read(t, b.Hear(mail(0, 1, api.Msg{Kind: api.Count, Sid: 1}), 0), 1, 0); m.Kind != api.Bye || m.Why != 24 {
		t.Error(m)
	}
}

// P30.4: Sids rise, and the ledger has the bytes of all mails that were told.
func TestLedger(t *testing.T) {
	r := rand.New(rand.NewSource(39))
	nodes := []*node.Node{fresh(t, 0, 3), fresh(t, 1, 3), fresh(t, 2, 3)}
	told := make([]uint64, 3)
	sids := make([]int, 3)
	var bag []api.Mail
	for now := range 3000 {
		i := r.Intn(3)
		var l []api.Mail
		switch r.Intn(12) {
		case 0:
			if l, _ = nodes[i].Sync(r.Intn(3), now); len(l) > 0 {
				if sid := nodes[i].Lead().Sid(); sid <= sids[i] || node.Owner(sid) != i {
					t.Fatal("Sids don't rise")
				} else {
					sids[i] = sid
				}
			}
		case 1:
			if r.Intn(9) == 0 {
				nodes[i].Crash()
			}
		case 2:
			l = nodes[i].Tick(now)
		case 3:
			nodes[i].Store().Put("k"+strconv.Itoa(r.Intn(9)), nil, []byte{byte(now)})
		default:
			if len(bag) > 0 {
				m := bag[0]
				if r.Intn(9) > 0 {
					bag = bag[1:]
				}
				i = m.To
				l = nodes[i].Hear(m, now)
			}
		}
		for _, m := range l {
			told[m.From] += uint64(len(m.Bytes))
			if m.From != i {
				t.Fatal("says it for another one")
			}
			if r.Intn(9) > 0 {
				bag = append(bag, m)
			}
		}
		if got := nodes[i].Ledger().Total().Bytes; got != told[i] {
			t.Fatal("ledger", got, told[i])
		}
	}
}

// P30.1, P30.2: a nil node, and numbers that are none.
func TestNil(t *testing.T) {
	var x *node.Node
	x.Crash()
	l, err := x.Sync(1, 0)
	p, ok := x.Peer()
	if x.Id() != 0 || x.Store() != nil || x.Count() != 0 || l != nil || err != api.ErrNil || x.Hear(api.Mail{}, 0) != nil || x.Tick(1) != nil || x.Lead() != nil || p != 0 || ok || x.Follow(0) != nil || x.Ends() != nil || x.Bad() != 0 || x.Ledger() != nil {
		t.Error("nil")
	}
	if fresh(t, 7, 8).Follow(8) != nil {
		t.Error("a ninth one")
	}
	y := fresh(t, 0, 2)
	for _, of := range []int{-1, 0, 2, 8, math.MaxInt} {
		if y.Follow(of) != nil {
			t.Error(of)
		}
	}
}
