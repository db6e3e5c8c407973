package realm_test

import (
	"bytes"
	"math"
	"math/rand"
	"slices"
	"strconv"
	"testing"

	"gleanings/api"
	"gleanings/dot"
	"gleanings/msg"
	"gleanings/realm"
	"gleanings/sibs"
	"gleanings/ver"
)

var plan = api.Plan{Every: 3, Tries: 1, Rounds: 1, Idle: 20}

func fresh(t *testing.T, n int) *realm.Realm {
	r, err := realm.New(n, 20, plan)
	if err != api.OK {
		t.Fatal(err)
	}
	return r
}

func put(a int, key, value string) api.Event {
	return api.Event{Kind: api.EvPut, A: a, Key: key, Value: []byte(value)}
}

func step(t *testing.T, r *realm.Realm, e api.Event) api.Answer {
	t.Helper()
	a, ok := r.Step(e)
	if !ok {
		t.Fatal("doesn't happen:", e)
	}
	return a
}

func zero(a api.Answer) bool {
	return a.Err == api.OK && a.Values == nil && a.Clock == nil && ver.Same(a.Item, api.Item{})
}

// P31.1: new realms.
func TestNew(t *testing.T) {
	for i, c := range []struct {
		n, most int
		p       api.Plan
	}{{1, 9, plan}, {9, 9, plan}, {-1, 9, plan}, {3, -1, plan}, {3, 257, plan}, {3, 9, api.Plan{}}} {
		if r, err := realm.New(c.n, c.most, c.p); r != nil || err != api.ErrArg {
			t.Error(i, err)
		}
	}
	for _, n := range []int{2, 8} {
		r := fresh(t, n)
		if r.Nodes() != n || r.Now() != 0 || r.Flying() != 0 || r.Book().Nodes() != n || len(r.Closed()) > 0 || r.Said() != 0 || r.Met() || !r.Same() || r.Quiet() != 0 {
			t.Error(n)
		}
		for i := range n {
			if x := r.Node(i); x.Id() != i || x.Store().Most() != 20 || x != r.Node(i) {
				t.Error(n, i)
			}
		}
		if r.Node(-1) != nil || r.Node(n) != nil {
			t.Error("nodes that there aren't")
		}
	}
}

// P31.1: puts, gets and deletes, with contexts.
func TestWrites(t *testing.T) {
	r := fresh(t, 2)
	a := step(t, r, put(-2, "k", "v"))
	if a.Err != api.OK || ver.Text(a.Item) != "6b 0:1 [-] 76" {
		t.Error(a)
	}
	a = step(t, r, api.Event{Kind: api.EvGet, A: 0, Key: "k"})
	if a.Err != api.OK || len(a.Values) != 1 || string(a.Values[0]) != "v" || dot.Text(a.Clock) != "0:1" {
		t.Error(a)
	}
	a.Clock[0].To = 9
	step(t, r, put(0, "l", "x"))
	if a = step(t, r, put(2, "k", "w")); ver.Text(a.Item) != "6b 0:2 [0:1] 77" {
		t.Error(ver.Text(a.Item))
	}
	if a = step(t, r, put(0, "l", "y")); ver.Text(a.Item) != "6c 0:2 [-] 79" {
		t.Error("the context of another key", ver.Text(a.Item))
	}
	if a = step(t, r, api.Event{Kind: api.EvGet, A: 1, Key: "k"}); a.Err != api.ErrNone || a.Values != nil || a.Clock != nil {
		t.Error(a)
	}
	if a = step(t, r, api.Event{Kind: api.EvGet, A: 0, Key: ""}); a.Err != api.ErrArg {
		t.Error(a)
	}
	step(t, r, api.Event{Kind: api.EvGet, A: 0, Key: "l"})
	for _, n := range []int{1, -1, 3} {
		c := fresh(t, 2)
		c.Run(put(0, "k", "v"), api.Event{Kind: api.EvGet, Key: "k"}, put(0, "k", "w"), api.Event{Kind: api.EvGet, Key: "k"})
		if a := step(t, c, api.Event{Kind: api.EvDelete, Key: "k", N: n}); ver.Text(a.Item) != "6b 0:3 [0:1-2] gone" {
			t.Error(n, ver.Text(a.Item))
		}
	}
	if a = step(t, r, api.Event{Kind: api.EvDelete, A: 1, Key: "z"}); a.Err != api.ErrNone || !ver.Same(a.Item, api.Item{}) {
		t.Error(a)
	}
	if a = step(t, r, put(0, "k", string(make([]byte, 65)))); a.Err != api.ErrLarge {
		t.Error(a)
	}
}

// P31.1: the last 64 contexts are kept.
func TestContexts(t *testing.T) {
	r := fresh(t, 2)
	r.Run(put(0, "a", ""), put(0, "b", ""), api.Event{Kind: api.EvGet, Key: "a"})
	for range 63 {
		step(t, r, api.Event{Kind: api.EvGet, Key: "b"})
	}
	if a := step(t, r, put(0, "a", "")); ver.Text(a.Item) != "61 0:2 [0:1] ." {
		t.Error(ver.Text(a.Item))
	}
	step(t, r, api.Event{Kind: api.EvGet, Key: "b"})
	if a := step(t, r, put(0, "a", "")); ver.Text(a.Item) != "61 0:3 [-] ." {
		t.Error("65 contexts", ver.Text(a.Item))
	}
	if a := step(t, r, put(0, "b", "")); ver.Text(a.Item) != "62 0:2 [0:1] ." {
		t.Error("the first context now", ver.Text(a.Item))
	}
}

// P31.1: what is under way: delivered, lost, doubled, turned; and what doesn't happen.
func TestNet(t *testing.T) {
	r := fresh(t, 3)
	for _, kind := range []int{api.EvDeliver, api.EvLose, api.EvDouble, api.EvTurn, -1, 11} {
		if a, ok := r.Step(api.Event{Kind: kind, X: 1}); ok || !zero(a) {
			t.Error(kind)
		}
	}
	if a := step(t, r, api.Event{Kind: api.EvSync, A: 0, B: 3}); a.Err != api.ErrArg || r.Flying() != 0 {
		t.Error("with itself", a.Err)
	}
	if a := step(t, r, api.Event{Kind: api.EvSync, A: 3, B: -2}); a.Err != api.OK || r.Flying() != 1 {
		t.Error("sync", a.Err)
	}
	if a := step(t, r, api.Event{Kind: api.EvSync, A: 0, B: 1}); a.Err != api.ErrTurn {
		t.Error("leads already", a.Err)
	}
	step(t, r, api.Event{Kind: api.EvDouble, N: 7})
	step(t, r, api.Event{Kind: api.EvSync, A: 1, B: 2})
	mails := r.Mails()
	if a := step(t, r, api.Event{Kind: api.EvLose, N: -3}); !zero(a) || r.Flying() != 2 {
		t.Error("lose")
	}
	n := 0
	for i, m := range mails {
		if i != n || len(m.Bytes) == 0 {
			t.Error(i)
		}
		n++
	}
	if n != 3 {
		t.Error("who goes through sees it", n)
	}
	if _, ok := r.Step(api.Event{Kind: api.EvTurn, N: 0, B: -1, X: 1}); ok {
		t.Error("turned though there is no such byte")
	}
	step(t, r, api.Event{Kind: api.EvTurn, N: 0, B: 3, X: 1})
	if a := step(t, r, api.Event{Kind: api.EvDeliver, N: 0}); !zero(a) || r.Node(1).Bad() != 1 || r.Met() {
		t.Error("bad", r.Node(1).Bad())
	}
	step(t, r, api.Event{Kind: api.EvDeliver, N: 5})
	if r.Flying() != 1 || r.Node(2).Follow(1) == nil {
		t.Error("deliver")
	}
	step(t, r, api.Event{Kind: api.EvCrash, A: 5})
	if r.Node(2).Follow(1) != nil {
		t.Error("crash")
	}
	step(t, r, api.Event{Kind: api.EvTick, N: 2})
	step(t, r, api.Event{Kind: api.EvTick, N: -5})
	if r.Now() != 2 || r.Flying() != 1 {
		t.Error(r.Now())
	}
	step(t, r, api.Event{Kind: api.EvTick, N: 5000})
	if r.Now() != 1002 || r.Flying() != 3 {
		t.Error(r.Now(), r.Flying())
	}
}

// P31.1: EvNext goes from peer to peer, when it goes.
func TestNext(t *testing.T) {
	r := fresh(t, 3)
	for _, want := range []int{2, 0, 2, 0} {
		if a := step(t, r, api.Event{Kind: api.EvNext, A: 1}); a.Err != api.OK {
			t.Error(a.Err)
		}
		if p, _ := r.Node(1).Peer(); p != want {
			t.Error(p, want)
		}
		if a := step(t, r, api.Event{Kind: api.EvNext, A: -2}); a.Err != api.ErrTurn {
			t.Error(a.Err)
		}
		r.Quiet()
	}
}

// P31.1, P31.2: the room of the bag, and what is lost there is said all the same.
func TestRoom(t *testing.T) {
	r := fresh(t, 2)
	step(t, r, api.Event{Kind: api.EvSync, A: 0, B: 1})
	for range 511 {
		step(t, r, api.Event{Kind: api.EvDouble})
	}
	if _, ok := r.Step(api.Event{Kind: api.EvDouble}); ok || r.Flying() != 512 {
		t.Error(r.Flying())
	}
	step(t, r, api.Event{Kind: api.EvSync, A: 1, B: 0})
	if r.Flying() != 512 || r.Node(1).Lead() == nil || r.Said() == 0 {
		t.Error(r.Flying())
	}
}

// P31.2: settled realms are the same; and what was told is the sum of the frames.
func TestSettle(t *testing.T) {
	for n := 2; n < 9; n += 3 {
		r := fresh(t, n)
		for i := range n {
			r.Run(put(i, "k", "v"+strconv.Itoa(i)), put(i, "l"+strconv.Itoa(i), ""))
		}
		if r.Same() {
			t.Error("the same too early")
		}
		if !r.Settle(1) || !r.Same() || r.Flying() != 0 || r.Met() {
			t.Error(n, "isn't settled")
		}
		wells, led := 0, 0
		for _, c := range r.Closed() {
			if c.End.State == api.Well {
				wells++
			}
			if c.End.Led {
				led++
			}
		}
		if led != n*(n-1) || wells != 2*led {
			t.Error(led, wells)
		}
		a, _ := r.Step(api.Event{Kind: api.EvGet, A: n - 1, Key: "k"})
		if len(a.Values) != min(n, 8) {
			t.Error(a)
		}
		if !r.Settle(0) || !r.Settle(-4) || len(r.Closed()) != 2*n*(n-1) {
			t.Error("no rounds")
		}
	}
	full, _ := realm.New(2, 1, plan)
	full.Run(put(0, "k", "v"), put(1, "l", "w"))
	if full.Settle(1) || full.Same() {
		t.Error("well without room")
	}
	many := fresh(t, 2)
	many.Settle(1000)
	if len(many.Closed()) != 2*2*20 {
		t.Error(len(many.Closed()))
	}
}

// P31.2: quiet comes: mails first, then ticks.
func TestQuiet(t *testing.T) {
	r := fresh(t, 2)
	step(t, r, api.Event{Kind: api.EvSync, A: 0, B: 1})
	if n := r.Quiet(); n != 4 || r.Now() != 0 {
		t.Error(n, r.Now())
	}
	step(t, r, api.Event{Kind: api.EvSync, A: 0, B: 1})
	step(t, r, api.Event{Kind: api.EvLose})
	if n := r.Quiet(); n != 3+4 || r.Now() != 3 {
		t.Error(n, r.Now())
	}
	step(t, r, api.Event{Kind: api.EvSync, A: 0, B: 1})
	step(t, r, api.Event{Kind: api.EvDeliver})
	step(t, r, api.Event{Kind: api.EvCrash, A: 0})
	if n := r.Quiet(); n != 1 {
		t.Error(n)
	}
}

// P31.2: quiet ends behind 100000 events at the latest.
func TestNeverQuiet(t *testing.T) {
	r := fresh(t, 2)
	r.Node(0).Sync(1, 1<<50) // whose request isn't under way, and isn't said again for long
	if n := r.Quiet(); n != 100000 || r.Now() != 100000 {
		t.Error(n, r.Now())
	}
}

// P31.2: what is under way ends first, and then its rounds settle it.
func TestSettleBehindOthers(t *testing.T) {
	r := fresh(t, 3)
	r.Run(put(0, "k", "v"), put(1, "l", "w"), api.Event{Kind: api.EvSync, A: 0, B: 2}, api.Event{Kind: api.EvSync, A: 1, B: 0}, api.Event{Kind: api.EvDeliver})
	if !r.Settle(1) || !r.Same() {
		t.Error("isn't settled")
	}
	led := 0
	for _, c := range r.Closed() {
		if c.End.Led && c.End.State == api.Well {
			led++
		}
	}
	if led != 2+6 {
		t.Error(led)
	}
}

// P31.1: the book notes what stores have; what closes is told in order.
func TestBookAndClosed(t *testing.T) {
	r := fresh(t, 2)
	r.Run(put(0, "k", "v"), put(0, "j", "v"), put(1, "k", "w"))
	r.Node(1).Store().Put("out", nil, []byte("side"))
	if got := slices.Collect(r.Book().Came(1)); len(got) != 1 {
		t.Error("noted too early", got)
	}
	step(t, r, api.Event{Kind: api.EvTick})
	if got := slices.Collect(r.Book().Came(1)); len(got) != 2 || got[1].Key != "out" {
		t.Error("isn't noted", got)
	}
	if !r.Settle(1) {
		t.Error("isn't settled")
	}
	for i := range 2 {
		if !sibs.Same(r.Book().Live(i, "k"), slices.Collect(r.Node(i).Store().Scan("k", "l"))) {
			t.Error("live", i)
		}
	}
	var came []string
	for x := range r.Book().Came(0) {
		came = append(came, x.Key)
	}
	if !slices.Equal(came, []string{"k", "j", "k", "out"}) {
		t.Error(came)
	}
	want := []api.Close{
		{Node: 1, End: api.End{Sid: 1, Peer: 0, State: api.Well, Took: 2}}, {Node: 0, End: api.End{Sid: 1, Peer: 1, Led: true, State: api.Well, Took: 2}},
		{Node: 0, End: api.End{Sid: 1<<36 + 1, Peer: 1, State: api.Well}}, {Node: 1, End: api.End{Sid: 1<<36 + 1, Peer: 0, Led: true, State: api.Well}},
	}
	if got := r.Closed(); !slices.Equal(got, want) {
		t.Error(got)
	}
	r.Closed()[0].Node = 9
	if r.Closed()[0].Node != 1 {
		t.Error("shared")
	}
}

// turnInto turns the first mail into other bytes, of the same length.
func turnInto(t *testing.T, r *realm.Realm, want []byte) {
	for _, m := range r.Mails() {
		if len(m.Bytes) != len(want) {
			t.Fatal("another length", len(m.Bytes), len(want))
		}
		for i, x := range m.Bytes {
			if x != want[i] {
				step(t, r, api.Event{Kind: api.EvTurn, B: i, X: x ^ want[i]})
			}
		}
		return
	}
}

// P31.1: it has met, when bytes came that are a message, and that no node said.
func TestMet(t *testing.T) {
	r := fresh(t, 3)
	step(t, r, api.Event{Kind: api.EvSync, A: 0, B: 1})
	hello := r.Node(0).Lead().Sid()
	turnInto(t, r, msg.Put(api.Msg{Kind: api.Hello, Sid: hello, N: 7}))
	if r.Met() {
		t.Error("met too early")
	}
	step(t, r, api.Event{Kind: api.EvDeliver})
	if !r.Met() || r.Node(1).Follow(0) == nil {
		t.Error("hasn't met")
	}
	r.Quiet()
	if !r.Met() {
		t.Error("not for ever")
	}
	// What another node said is a message that was said.
	o := fresh(t, 3)
	step(t, o, api.Event{Kind: api.EvSync, A: 1, B: 2})
	var said []byte
	for _, m := range o.Mails() {
		said = m.Bytes
	}
	step(t, o, api.Event{Kind: api.EvLose})
	step(t, o, api.Event{Kind: api.EvSync, A: 2, B: 0})
	turnInto(t, o, said)
	step(t, o, api.Event{Kind: api.EvDeliver})
	if o.Met() {
		t.Error("met, though it was said")
	}
	// Turned twice it is what it was.
	p := fresh(t, 2)
	p.Run(api.Event{Kind: api.EvSync, A: 0, B: 1}, api.Event{Kind: api.EvTurn, B: 4, X: 9}, api.Event{Kind: api.EvTurn, B: 4, X: 9}, api.Event{Kind: api.EvDeliver})
	if p.Met() || p.Node(0).Bad() != 0 || p.Flying() != 1 {
		t.Error("turned and turned back")
	}
}

// P31.1: it has met, when two unlike frames that nodes said have the same last eight bytes.
func TestMetFrames(t *testing.T) {
	values := [2][]byte{{0x6a, 0x6f, 0x28, 0x85, 0xcb, 0xdd, 0x57, 0xc0}, {0x8f, 0x26, 0x6e, 0x0d, 0x2c, 0x24, 0x83, 0x79}}
	var frames [2][]byte
	for i, v := range values {
		frames[i] = msg.Put(api.Msg{Kind: api.Push, Sid: i + 1, Items: []api.Item{{Key: "k", Dot: api.Dot{N: i + 1}, Value: v}}})
	}
	if n := len(frames[0]) - 8; bytes.Equal(frames[0], frames[1]) || !bytes.Equal(frames[0][n:], frames[1][n:]) {
		t.Fatal("the sums aren't the same")
	}
	for _, second := range []string{string(values[1]), "another"} {
		r := fresh(t, 2)
		r.Run(put(0, "k", string(values[0])), api.Event{Kind: api.EvSync, A: 0, B: 1})
		if r.Quiet(); r.Met() {
			t.Error("met too early")
		}
		r.Run(put(0, "k", second), api.Event{Kind: api.EvSync, A: 0, B: 1})
		r.Quiet()
		if !r.Same() || r.Met() != (second == string(values[1])) {
			t.Error("met", r.Met())
		}
	}
}

// random event.
func random(r *rand.Rand) api.Event {
	e := api.Event{Kind: r.Intn(11), A: r.Intn(9) - 3, B: r.Intn(9) - 3, N: r.Intn(90) - 20, Key: string(rune('a' + r.Intn(4))), Value: []byte{byte(r.Intn(5))}, X: byte(r.Intn(3))}
	if r.Intn(2) == 0 {
		e.Kind = []int{api.EvDeliver, api.EvNext, api.EvPut}[r.Intn(3)]
	}
	if e.Kind == api.EvTick {
		e.N %= 3
	}
	if e.Kind == api.EvCrash && r.Intn(4) > 0 {
		e.Kind = api.EvDeliver
	}
	return e
}

// P31.3: the same events make the same; Said is the sum of the frames that nodes said.
func TestSameEvents(t *testing.T) {
	rnd := rand.New(rand.NewSource(40))
	for range 12 {
		n := 2 + rnd.Intn(3)
		r, s := fresh(t, n), fresh(t, n)
		before := r.Said()
		for range 400 {
			e := random(rnd)
			flying := map[string]int{}
			for _, m := range r.Mails() {
				flying[string(m.Bytes)]++
			}
			a, ok := r.Step(e)
			b, okS := s.Step(e)
			if ok != okS || a.Err != b.Err || !ver.Same(a.Item, b.Item) || !dot.Same(a.Clock, b.Clock) || len(a.Values) != len(b.Values) {
				t.Fatal("unlike", e)
			}
			after := r.Said()
			if after < before || r.Flying() != s.Flying() {
				t.Fatal("said")
			}
			before = after
		}
		r.Quiet()
		s.Quiet()
		if r.Said() != s.Said() || !slices.Equal(r.Closed(), s.Closed()) || r.Met() || s.Met() {
			t.Fatal("unlike ends", r.Met())
		}
		for i := range n {
			if !bytes.Equal(r.Node(i).Store().Bytes(), s.Node(i).Store().Bytes()) {
				t.Fatal("unlike stores", i)
			}
			have := slices.Collect(r.Node(i).Store().Items())
			var live []api.Item
			for _, k := range []string{"a", "b", "c", "d"} {
				live = append(live, r.Book().Live(i, k)...)
			}
			if !sibs.Same(have, live) {
				t.Fatal("doesn't hold", i)
			}
		}
	}
}

// P31.3: Said, frame by frame.
func TestSaid(t *testing.T) {
	r := fresh(t, 2)
	r.Run(put(0, "k", "v"), put(1, "l", "w"), api.Event{Kind: api.EvSync, A: 0, B: 1})
	var sum uint64
	for r.Flying() > 0 {
		for _, m := range r.Mails() {
			sum += uint64(len(m.Bytes))
		}
		if r.Said() != sum {
			t.Fatal(r.Said(), sum)
		}
		step(t, r, api.Event{Kind: api.EvDeliver})
	}
}

// P31.1, P31.2: a nil realm; numbers far away.
func TestNil(t *testing.T) {
	var r *realm.Realm
	a, ok := r.Step(put(0, "k", "v"))
	if ok || !zero(a) || r.Run(put(0, "k", "v")) != 0 || r.Quiet() != 0 || r.Settle(0) || r.Nodes() != 0 || r.Node(0) != nil || r.Now() != 0 || r.Flying() != 0 || r.Book() != nil || r.Closed() != nil || r.Said() != 0 || r.Met() || r.Same() {
		t.Error("nil")
	}
	for range r.Mails() {
		t.Error("nil has mails")
	}
	o := fresh(t, 3)
	for _, e := range []api.Event{{Kind: api.EvPut, A: math.MinInt, N: math.MinInt, Key: "k"}, {Kind: api.EvSync, A: math.MinInt, B: math.MaxInt}, {Kind: api.EvTick, N: math.MaxInt}, {Kind: api.EvNext, A: math.MaxInt}, {Kind: api.EvDeliver, N: math.MinInt}} {
		o.Step(e)
	}
	if o.Run(put(0, "k", "v"), api.Event{Kind: 99}) != 1 {
		t.Error("run")
	}
}
